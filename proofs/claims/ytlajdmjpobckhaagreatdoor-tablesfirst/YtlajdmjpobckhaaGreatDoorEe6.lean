/- tables: the entry, the rule with a number; what the law's wakes asks of its own tables. -/
import Derived.Test.YtlajdmjpobckhaaGreatDoorEe5
namespace Go.Proofs.YtlajdmjpobckhaaGreatDoor
open Go.RowKit
namespace Af
open RowB
theorem TbAt.cells {w : World} {tb B n wb : Nat} {F : Fil} {P : Pts} {E : List Ent} {Q : WPts} {vu ve : Value} {nv fv : List Value} (h : TbAt w tb B F P n wb E Q vu ve nv fv) : w.cell? ⟨tb, 0, none⟩ = some (.pointer (some ⟨P.fb, 0, none⟩)) ∧ w.cell? ⟨tb, 2, none⟩ = some (.int .u16 (F.specials.getD 0 0)) ∧ w.cell? ⟨tb, 3, none⟩ = some (.int .u16 (F.specials.getD 1 0)) ∧ w.cell? ⟨tb, 4, none⟩ = some (.int .u16 (F.specials.getD 2 0)) ∧ w.cell? ⟨tb, 5, none⟩ = some (.int .u16 (F.specials.getD 3 0)) ∧ w.cell? ⟨tb, 6, none⟩ = some (.int .u16 (F.specials.getD 4 0)) ∧ w.cell? ⟨tb, 7, none⟩ = some vu ∧ w.cell? ⟨tb, 8, none⟩ = some ve ∧ tb < w.heap.size := by
  refine ⟨?_, ?_, ?_, ?_, ?_, ?_, ?_, ?_, lt_some h.hd⟩ <;> simp [World.cell?, h.hd, tbC]
/-- a result in cells: what stands behind its store -/
theorem res_st {w w1 V : World} {n : Nat} {c C : Array Value} {o : TypeId} (hb : Below (w.alloc (.cells c o)).heap.size (w.alloc (.cells c o)) w1) (hV : w1.heap[w.heap.size]? = some (.cells c o (0, 0)) → V.heap[w.heap.size]? = some (.cells C o (0, 0)) ∧ Below w.heap.size w1 V) (hn : n = w.heap.size) : V.heap[n]? = some (.cells C o (0, 0)) ∧ Below w.heap.size w V := by
  subst hn
  have h := hb.block w.heap.size (by simp)
  rw [alloc_new] at h
  obtain ⟨q1, q2⟩ := hV h
  exact ⟨q1, (((Below.refl _ _).alloc (Nat.le_refl _) _).trans (hb.mono (by simp))).trans q2⟩
theorem res_at {w w1 : World} {c : Array Value} {o : TypeId} (hb : Below (w.alloc (.cells c o)).heap.size (w.alloc (.cells c o)) w1) : w1.heap[w.heap.size]? = some (.cells c o (0, 0)) ∧ Below w.heap.size w w1 := by
  have h := hb.block w.heap.size (by simp)
  rw [alloc_new] at h
  exact ⟨h, ((Below.refl _ _).alloc (Nat.le_refl _) _).trans (hb.mono (by simp))⟩
set_option maxRecDepth 100000 in
set_option maxHeartbeats 4000000 in
theorem entry_in {w : World} {tb B n wb : Nat} {F : Fil} {P : Pts} {E : List Ent} {Q : WPts} {vu ve : Value} {nv fv : List Value} (h : TbAt w tb B F P n wb E Q vu ve nv fv) (hm : E.length ≤ 1000000) {k : Nat} {x : Ent} (hx : E[k]? = some x) :
    Calls Tryz.prog 48 #[.pointer (some ⟨tb, 0, none⟩), .int .i64 (k : Nat)] w fun e w' => ∃ a c, e = .returned (.tuple #[.agg #[.string (Wd.str x.word), .slice a x.flags.length c], .bool true]) ∧ So.FArg w (.slice a x.flags.length c) x.flags ∧ Below w.heap.size w w' := by
  have hk := (List.getElem?_eq_some_iff.1 hx).1
  obtain ⟨g, cap, rfl, -, hg, h1, h2, -, h3⟩ := own_at h.ent.1 (by omega)
  obtain ⟨u, hu⟩ : ∃ u, fv[k]? = some u := ⟨_, List.getElem?_eq_getElem (by rw [h.ent.2.1]; exact hk)⟩
  have hf := (h.ent.2.2 k u x hu hx).arg
  obtain ⟨q0, q1⟩ := flatE_get h.ent.2.1 hx hu
  have hq : ∀ i, i < 2 → w.cell? ⟨g, k * 2 + i, none⟩ = (entC x u)[i]? := fun i hi => by
    rw [h3 _ (by omega)]
    match i, hi with
    | 0, _ => exact q0
    | 1, _ => exact q1
  obtain ⟨a, c, rfl, -⟩ := id hf
  have HF := hide hf
  have d8 := h.cells.2.2.2.2.2.2.2.1
  have hlt := h.cells.2.2.2.2.2.2.2.2
  have HA := hide (fun W (b : Below w.heap.size w W) => atE_in (w := W) (g := g) (m := E.length) (cap := cap) (k := k) hk hm ((b.cell (p := ⟨g, k * 2 + 0, none⟩) hg).trans (hq 0 (by omega))) ((b.cell (p := ⟨g, k * 2 + 1, none⟩) hg).trans (hq 1 (by omega))))
  generalize E.length = m at *
  generalize x.flags.length = nf at *
  generalize Wd.str x.word = sw at *
  clear h hx hu hq q0 q1 hf h3 hk h1 h2
  go_enter Tryz.func48, Tryz.ntmps48
  go_wp2_with fail
  refine (unhide HA _ (by first | exact (Below.refl _ _).alloc (Nat.le_refl _) _ | exact ((Below.refl _ _).alloc (Nat.le_refl _) _).drew)).mono ?_
  rintro e w1 ⟨rfl, b1⟩
  obtain ⟨h2, b2⟩ := res_at b1
  have e0 : w1.cell? ⟨w.heap.size, 0, none⟩ = some (.string ⟨#[]⟩) := by simp [World.cell?, h2]
  have e1 : w1.cell? ⟨w.heap.size, 1, none⟩ = some (.slice none 0 0) := by simp [World.cell?, h2]
  have ez : ∀ k, w1.frozen? ⟨w.heap.size, k, none⟩ = false := fun k => by simp [World.frozen?, h2]
  have HS : Hid (∀ V, V = ((w1.setCell ⟨w.heap.size, 0, none⟩ (.string sw)).setCell ⟨w.heap.size, 1, none⟩ (.slice a nf c)) → V.heap[w.heap.size]? = some (.cells #[.string sw, .slice a nf c] 41 (0, 0)) ∧ Below w.heap.size w V) := fun V hV => by
    subst hV
    exact ⟨set_heap1 (set_heap1 h2 _) _, ((b2.trans ((Below.refl _ _).setCell (p := ⟨w.heap.size, 0, none⟩) (Nat.le_refl _) _)).trans ((Below.refl _ _).setCell (p := ⟨w.heap.size, 1, none⟩) (Nat.le_refl _) _))⟩
  clear b1 b2 h2
  go_wp2
  obtain ⟨s1, s2⟩ := unhide HS _ rfl
  clear HS
  show bodyPost _ _ _ _ _ ((w1.setCell ⟨w.heap.size, 0, none⟩ (.string sw)).setCell ⟨w.heap.size, 1, none⟩ (.slice a nf c))
  refine bodyPost_ret (v := .tuple #[.agg #[.string sw, .slice a nf c], .bool true]) (by simp only [results, Tryz.results48]; simp [go_sem, World.cell?, s1]) rfl ?_
  exact ⟨a, c, rfl, unhide HF, s2⟩
set_option maxRecDepth 100000 in
set_option maxHeartbeats 4000000 in
theorem rule_in {w : World} {tb B n wb : Nat} {F : Fil} {P : Pts} {E : List Ent} {Q : WPts} {vu ve : Value} {nv fv : List Value} (h : TbAt w tb B F P n wb E Q vu ve nv fv) (hm : F.rules.length ≤ 1000000) {k : Nat} {r : Rul} (hx : F.rules[k]? = some r) :
    Calls Tryz.prog 50 #[.pointer (some ⟨tb, 0, none⟩), .int .i64 (k : Nat)] w fun e w' => ∃ a c, e = .returned (.tuple #[.agg #[.int .i64 r.kind, .int .u16 r.flag, .bool r.cross, .string (Wd.str r.strip), .string (Wd.str r.add), .string (Wd.str r.cond), .slice a r.next.length c], .bool true]) ∧ So.FArg w (.slice a r.next.length c) r.next ∧ Below w.heap.size w w' := by
  have hk := (List.getElem?_eq_some_iff.1 hx).1
  obtain ⟨g, cap, rfl, -, hg, h1, h2, -, h3⟩ := own_at h.rul.1 (by omega)
  obtain ⟨u, hu⟩ : ∃ u, nv[k]? = some u := ⟨_, List.getElem?_eq_getElem (by rw [h.rul.2.1]; exact hk)⟩
  have hf := (h.rul.2.2 k u r hu hx).arg
  have hz : (F.rules.zip nv)[k]? = some (r, u) := by rw [List.getElem?_zip_eq_some]; exact ⟨hx, hu⟩
  have hq : ∀ i, i < 7 → w.cell? ⟨g, k * 7 + i, none⟩ = (rulC r u)[i]? := fun i hi => by
    rw [h3 _ (by omega)]
    exact flat_get (f := fun p => rulC p.1 p.2) (m := 7) (fun x => rfl) (k := i) hz hi
  obtain ⟨a, c, rfl, -⟩ := id hf
  have HF := hide hf
  have d8 := h.cells.2.2.2.2.2.2.1
  have hlt := h.cells.2.2.2.2.2.2.2.2
  have HA := hide (fun W (b : Below w.heap.size w W) => atR_in (w := W) (g := g) (m := F.rules.length) (cap := cap) (k := k) hk hm ((b.cell (p := ⟨g, k * 7 + 0, none⟩) hg).trans (hq 0 (by omega))) ((b.cell (p := ⟨g, k * 7 + 1, none⟩) hg).trans (hq 1 (by omega))) ((b.cell (p := ⟨g, k * 7 + 2, none⟩) hg).trans (hq 2 (by omega))) ((b.cell (p := ⟨g, k * 7 + 3, none⟩) hg).trans (hq 3 (by omega))) ((b.cell (p := ⟨g, k * 7 + 4, none⟩) hg).trans (hq 4 (by omega))) ((b.cell (p := ⟨g, k * 7 + 5, none⟩) hg).trans (hq 5 (by omega))) ((b.cell (p := ⟨g, k * 7 + 6, none⟩) hg).trans (hq 6 (by omega))))
  generalize F.rules.length = m at *
  generalize r.next.length = nf at *
  generalize r.kind = k0 at *
  generalize r.flag = k1 at *
  generalize r.cross = k2 at *
  generalize Wd.str r.strip = k3 at *
  generalize Wd.str r.add = k4 at *
  generalize Wd.str r.cond = k5 at *
  clear h hx hu hq hz hf h3 hk h1 h2
  go_enter Tryz.func50, Tryz.ntmps50
  go_wp2_with fail
  refine (unhide HA _ (by first | exact (Below.refl _ _).alloc (Nat.le_refl _) _ | exact ((Below.refl _ _).alloc (Nat.le_refl _) _).drew)).mono ?_
  rintro e w1 ⟨rfl, b1⟩
  obtain ⟨h2, b2⟩ := res_at b1
  have e0 : w1.cell? ⟨w.heap.size, 0, none⟩ = some (.int .i64 0) := by simp [World.cell?, h2]
  have e1 : w1.cell? ⟨w.heap.size, 1, none⟩ = some (.int .u16 0) := by simp [World.cell?, h2]
  have e2 : w1.cell? ⟨w.heap.size, 2, none⟩ = some (.bool false) := by simp [World.cell?, h2]
  have e3 : w1.cell? ⟨w.heap.size, 3, none⟩ = some (.string ⟨#[]⟩) := by simp [World.cell?, h2]
  have e4 : w1.cell? ⟨w.heap.size, 4, none⟩ = some (.string ⟨#[]⟩) := by simp [World.cell?, h2]
  have e5 : w1.cell? ⟨w.heap.size, 5, none⟩ = some (.string ⟨#[]⟩) := by simp [World.cell?, h2]
  have e6 : w1.cell? ⟨w.heap.size, 6, none⟩ = some (.slice none 0 0) := by simp [World.cell?, h2]
  have ez : ∀ k, w1.frozen? ⟨w.heap.size, k, none⟩ = false := fun k => by simp [World.frozen?, h2]
  have HS : Hid (∀ V, V = (((((((w1.setCell ⟨w.heap.size, 0, none⟩ (.int .i64 k0)).setCell ⟨w.heap.size, 1, none⟩ (.int .u16 k1)).setCell ⟨w.heap.size, 2, none⟩ (.bool k2)).setCell ⟨w.heap.size, 3, none⟩ (.string k3)).setCell ⟨w.heap.size, 4, none⟩ (.string k4)).setCell ⟨w.heap.size, 5, none⟩ (.string k5)).setCell ⟨w.heap.size, 6, none⟩ (.slice a nf c)) → V.heap[w.heap.size]? = some (.cells #[.int .i64 k0, .int .u16 k1, .bool k2, .string k3, .string k4, .string k5, .slice a nf c] 78 (0, 0)) ∧ Below w.heap.size w V) := fun V hV => by
    subst hV
    exact ⟨set_heap1 (set_heap1 (set_heap1 (set_heap1 (set_heap1 (set_heap1 (set_heap1 h2 _) _) _) _) _) _) _, (((((((b2.trans ((Below.refl _ _).setCell (p := ⟨w.heap.size, 0, none⟩) (Nat.le_refl _) _)).trans ((Below.refl _ _).setCell (p := ⟨w.heap.size, 1, none⟩) (Nat.le_refl _) _)).trans ((Below.refl _ _).setCell (p := ⟨w.heap.size, 2, none⟩) (Nat.le_refl _) _)).trans ((Below.refl _ _).setCell (p := ⟨w.heap.size, 3, none⟩) (Nat.le_refl _) _)).trans ((Below.refl _ _).setCell (p := ⟨w.heap.size, 4, none⟩) (Nat.le_refl _) _)).trans ((Below.refl _ _).setCell (p := ⟨w.heap.size, 5, none⟩) (Nat.le_refl _) _)).trans ((Below.refl _ _).setCell (p := ⟨w.heap.size, 6, none⟩) (Nat.le_refl _) _))⟩
  clear b1 b2 h2
  go_wp2
  obtain ⟨s1, s2⟩ := unhide HS _ rfl
  clear HS
  show bodyPost _ _ _ _ _ (((((((w1.setCell ⟨w.heap.size, 0, none⟩ (.int .i64 k0)).setCell ⟨w.heap.size, 1, none⟩ (.int .u16 k1)).setCell ⟨w.heap.size, 2, none⟩ (.bool k2)).setCell ⟨w.heap.size, 3, none⟩ (.string k3)).setCell ⟨w.heap.size, 4, none⟩ (.string k4)).setCell ⟨w.heap.size, 5, none⟩ (.string k5)).setCell ⟨w.heap.size, 6, none⟩ (.slice a nf c))
  refine bodyPost_ret (v := .tuple #[.agg #[.int .i64 k0, .int .u16 k1, .bool k2, .string k3, .string k4, .string k5, .slice a nf c], .bool true]) (by simp only [results, Tryz.results50]; simp [go_sem, World.cell?, s1]) rfl ?_
  exact ⟨a, c, rfl, unhide HF, s2⟩
end Af
end Go.Proofs.YtlajdmjpobckhaaGreatDoor
