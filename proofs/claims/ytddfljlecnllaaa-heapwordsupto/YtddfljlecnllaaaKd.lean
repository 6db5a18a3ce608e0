/- Layer 7: the document's Peek, Pop. -/
import Derived.Test.YtddfljlecnllaaaKc
namespace Go.Proofs.Ytddfljlecnllaaa
open Go.RowKit
namespace Hp
theorem least_none {w : World} {rb : Nat} {F : Nat → Prop} {rv : Value} (h : RIn w rb [] F rv) :
    Calls Try.prog 44 #[.pointer (some ⟨rb, 0, none⟩)] w fun e w' => e = .returned (.int .i64 (-1)) ∧ Below w.heap.size w w' := by
  refine (least_any h (by simp)).mono ?_
  rintro e w' ⟨h1, q, rfl⟩
  rcases h1 with ⟨_, rfl⟩ | ⟨k, x, h2, _⟩
  · exact ⟨rfl, ⟨rfl, rfl, rfl, Nat.le_refl _, fun _ _ => rfl⟩⟩
  · simp [Lst] at h2
theorem least_some {w : World} {rb : Nat} {I : List It} {F : Nat → Prop} {rv : Value} {k : Nat} {x : It} (h : RIn w rb I F rv) (hz : I.length ≤ 1099511627776) (hk : Lst rise_ I k x) :
    Calls Try.prog 44 #[.pointer (some ⟨rb, 0, none⟩)] w fun e w' => e = .returned (.int .i64 k) ∧ Below w.heap.size w w' := by
  refine (least_any h hz).mono ?_
  rintro e w' ⟨h1, q, rfl⟩
  rcases h1 with ⟨rfl, _⟩ | ⟨k', x', h2, rfl⟩
  · simp [Lst] at hk
  · obtain ⟨rfl, rfl⟩ := lst_unique h2 hk
    exact ⟨rfl, ⟨rfl, rfl, rfl, Nat.le_refl _, fun _ _ => rfl⟩⟩
set_option maxRecDepth 100000 in
theorem rpeek_none {w : World} {rb : Nat} {F : Nat → Prop} {rv : Value} (h : RIn w rb [] F rv) :
    Calls Try.prog 33 #[.pointer (some ⟨rb, 0, none⟩)] w fun e w' => e = .returned (.tuple #[.agg #[.int .i64 0, .int .i64 0], .bool false]) ∧ Below w.heap.size w w' := by
  have HL : Hid (∀ o : Obj, Calls Try.prog 44 #[.pointer (some ⟨rb, 0, none⟩)] (w.alloc o) fun e w' => e = .returned (.int .i64 (-1)) ∧ Below (w.alloc o).heap.size (w.alloc o) w') := fun o => least_none (h.below ((Below.refl _ _).alloc (Nat.le_refl _) o))
  clear h
  go_enter Try.func33, Try.ntmps33
  go_wp2_with (go_at_call 44; refine (unhide HL _).mono ?_; rintro e w1 ⟨rfl, hb1⟩; obtain ⟨r0, r1, rf, rl⟩ := cells2 ((hb1.block w.heap.size (by simp)).trans (MapKept.heap_alloc w _).1); have HB1 : Hid (Below w.heap.size w w1) := ((Below.refl _ w).alloc (Nat.le_refl _) _).trans (hb1.mono (by simp)); clear hb1)
  refine gen_post ?_
  intro V hV
  have v0 : V.cell? ⟨w.heap.size, 0, none⟩ = some (.int .i64 0) := by rw [hV]; go_simp
  have v1 : V.cell? ⟨w.heap.size, 1, none⟩ = some (.int .i64 0) := by rw [hV]; go_simp
  have HE : Hid (Below w.heap.size w V) := by
    rw [hV]
    refine (unhide HB1).trans ?_
    (repeat (first | exact Below.refl _ _ | refine Below.drew ?_ | refine Below.alloc ?_ (by first | (simp; done) | (simp; omega)) _ | refine Below.setCell ?_ (by first | (simp; done) | (simp; omega)) _))
  clear hV
  exact bodyPost_ret (v := .tuple #[.agg #[.int .i64 0, .int .i64 0], .bool false]) (by simp [results, Try.results33, go_sem, v0, v1]) rfl ⟨rfl, unhide HE⟩
set_option maxRecDepth 100000 in
theorem rpeek_some {w : World} {rb : Nat} {I J : List It} {x : It} {F : Nat → Prop} {rv : Value} (h : RIn w rb I F rv) (hz : I.length ≤ 1099511627776) (hp : pop rise_ I = some (x, J)) :
    Calls Try.prog 33 #[.pointer (some ⟨rb, 0, none⟩)] w fun e w' => e = .returned (.tuple #[.agg #[.int .i64 x.1, .int .i64 x.2], .bool true]) ∧ Below w.heap.size w w' := by
  obtain ⟨k, hk, -, hkl⟩ := pop_k rise_ord hp
  have HL : Hid (∀ o : Obj, Calls Try.prog 44 #[.pointer (some ⟨rb, 0, none⟩)] (w.alloc o) fun e w' => e = .returned (.int .i64 k) ∧ Below (w.alloc o).heap.size (w.alloc o) w') := fun o => least_some (h.below ((Below.refl _ _).alloc (Nat.le_refl _) o)) hz hk
  obtain ⟨c0, cf, hl⟩ := dcell h.obj
  obtain ⟨ao, cap, rfl, hat⟩ := h.its
  obtain ⟨g, off, rfl, hg, -, hc⟩ := hat (by omega)
  obtain ⟨x0, x1⟩ := hc k x hk.1
  have hkz : (k : Int) < (I.length : Int) := by omega
  have hk0 : 0 ≤ (k : Int) := by omega
  have hkn : ¬ (k : Int) < 0 := by omega
  clear h hat hc hk hp
  go_enter Try.func33, Try.ntmps33
  go_wp2_with (go_at_call 44; refine (unhide HL _).mono ?_; rintro e w1 ⟨rfl, hb1⟩; obtain ⟨r0, r1, rf, rl⟩ := cells2 ((hb1.block w.heap.size (by simp)).trans (MapKept.heap_alloc w _).1); have HB1 : Hid (Below w.heap.size w w1) := ((Below.refl _ w).alloc (Nat.le_refl _) _).trans (hb1.mono (by simp)); have s0 := ((unhide HB1).cell (p := ⟨rb, 0, none⟩) hl).trans c0; have s1 := ((unhide HB1).cell (p := ⟨g, off + k * 2, none⟩) hg).trans x0; have s2 := ((unhide HB1).cell (p := ⟨g, off + k * 2 + 1, none⟩) hg).trans x1; clear hb1)
  refine gen_post ?_
  intro V hV
  have v0 : V.cell? ⟨w.heap.size, 0, none⟩ = some (.int .i64 x.1) := by rw [hV]; go_simp
  have v1 : V.cell? ⟨w.heap.size, 1, none⟩ = some (.int .i64 x.2) := by rw [hV]; go_simp
  have HE : Hid (Below w.heap.size w V) := by
    rw [hV]
    refine (unhide HB1).trans ?_
    (repeat (first | exact Below.refl _ _ | refine Below.drew ?_ | refine Below.alloc ?_ (by first | (simp; done) | (simp; omega)) _ | refine Below.setCell ?_ (by first | (simp; done) | (simp; omega)) _))
  clear hV
  exact bodyPost_ret (v := .tuple #[.agg #[.int .i64 x.1, .int .i64 x.2], .bool true]) (by simp [results, Try.results33, go_sem, v0, v1]) rfl ⟨rfl, unhide HE⟩
set_option maxRecDepth 100000 in
theorem rpop_none {w : World} {rb : Nat} {F : Nat → Prop} {rv : Value} (h : RIn w rb [] F rv) :
    Calls Try.prog 30 #[.pointer (some ⟨rb, 0, none⟩)] w fun e w' => e = .returned (.tuple #[.agg #[.int .i64 0, .int .i64 0], .bool false]) ∧ Below w.heap.size w w' := by
  have HL : Hid (∀ o : Obj, Calls Try.prog 44 #[.pointer (some ⟨rb, 0, none⟩)] (w.alloc o) fun e w' => e = .returned (.int .i64 (-1)) ∧ Below (w.alloc o).heap.size (w.alloc o) w') := fun o => least_none (h.below ((Below.refl _ _).alloc (Nat.le_refl _) o))
  clear h
  go_enter Try.func30, Try.ntmps30
  go_wp2_with (go_at_call 44; refine (unhide HL _).mono ?_; rintro e w1 ⟨rfl, hb1⟩; obtain ⟨r0, r1, rf, rl⟩ := cells2 ((hb1.block w.heap.size (by simp)).trans (MapKept.heap_alloc w _).1); have HB1 : Hid (Below w.heap.size w w1) := ((Below.refl _ w).alloc (Nat.le_refl _) _).trans (hb1.mono (by simp)); clear hb1)
  refine gen_post ?_
  intro V hV
  have v0 : V.cell? ⟨w.heap.size, 0, none⟩ = some (.int .i64 0) := by rw [hV]; go_simp
  have v1 : V.cell? ⟨w.heap.size, 1, none⟩ = some (.int .i64 0) := by rw [hV]; go_simp
  have HE : Hid (Below w.heap.size w V) := by
    rw [hV]
    refine (unhide HB1).trans ?_
    (repeat (first | exact Below.refl _ _ | refine Below.drew ?_ | refine Below.alloc ?_ (by first | (simp; done) | (simp; omega)) _ | refine Below.setCell ?_ (by first | (simp; done) | (simp; omega)) _))
  clear hV
  exact bodyPost_ret (v := .tuple #[.agg #[.int .i64 0, .int .i64 0], .bool false]) (by simp [results, Try.results30, go_sem, v0, v1]) rfl ⟨rfl, unhide HE⟩
end Hp
end Go.Proofs.Ytddfljlecnllaaa
