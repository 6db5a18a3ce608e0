/- Layer 5: findOpen. -/
import Derived.Test.YtdcffkahijpcbabDoorRf
namespace Go.Proofs.YtdcffkahijpcbabDoor
open Go.RowKit
namespace Rs
theorem At.alloc {w : World} {sb : Nat} {m : Sto} {F : Nat → Prop} (h : At w sb m F) (o : Obj) : At (w.alloc o) sb m F :=
  h.kept (fun b hb => Below.heap_alloc w o b (h.lt b hb)) (fun _ hb => hb) (fun b hb => by have := h.lt b hb; simp; omega)
theorem In.alloc {w : World} {sb : Nat} {m : Sto} {F : Nat → Prop} {bm : Nat} {sl : Nat → Value} {fl : Nat → Bool} (h : In w sb m F bm sl fl) (o : Obj) : In (w.alloc o) sb m F bm sl fl :=
  h.below ((Below.refl _ _).alloc (Nat.le_refl _) o)
theorem bcell {W w1 : World} (hb : Below W.heap.size W w1) : (∀ b o, b < W.heap.size → w1.cell? ⟨b, o, none⟩ = W.cell? ⟨b, o, none⟩) ∧ (∀ b o, b < W.heap.size → w1.frozen? ⟨b, o, none⟩ = W.frozen? ⟨b, o, none⟩) :=
  ⟨fun b o h => hb.cell (p := ⟨b, o, none⟩) h, fun b o h => hb.frozen (p := ⟨b, o, none⟩) h⟩
theorem open_nil (w : World) (k : Int) {E : Nat → Addr} {F : Nat → Prop} (G : Gs w E F) : Calls Tryd.prog 61 #[.pointer none, .int .i64 k] w fun e w' => e = .returned (.tuple #[zc, er E 1]) ∧ Below w.heap.size w w' := by
  have HF : Hid (∀ o, Calls Tryd.prog 49 #[.pointer none, .int .i64 k] (w.alloc o) fun e w' => e = .returned (.tuple #[zc, er E 1]) ∧ Below (w.alloc o).heap.size (w.alloc o) w') := fun o => find_nil _ k (G.new o)
  clear G
  go_enter Tryd.func61, Tryd.ntmps61
  go_wp2_with (go_at_call 49; refine (unhide HF _).mono ?_; rintro e w1 ⟨rfl, hb⟩; obtain ⟨hc, hf⟩ := bcell hb; have hz : w.heap.size < w1.heap.size := (by have := hb.size; simp at this; omega); have HB : Hid (Below w.heap.size w w1) := (((Below.refl _ w).alloc (Nat.le_refl _) _).trans (hb.mono (by simp))); clear hb)
  refine bodyPost_ret (v := .tuple #[zc, er E 1]) (by simp [results, Tryd.results61, go_sem, hc, hz]) rfl ⟨rfl, ?_⟩
  (repeat (first | exact unhide HB | refine Below.drew ?_ | refine Below.alloc ?_ (by first | (simp; done) | (simp; omega)) _ | refine Below.setCell ?_ (by first | (simp; done) | (simp; omega)) _))
theorem open_none {w : World} {sb : Nat} {m : Sto} {F : Nat → Prop} {k : Int} {E : Nat → Addr} (h : At w sb m F) (G : Gs w E F) (h1 : -9223372036854775808 ≤ k) (h2 : k ≤ 9223372036854775807) (hl : look m.runs k = none) :
    Calls Tryd.prog 61 #[.pointer (some ⟨sb, 0, none⟩), .int .i64 k] w fun e w' => e = .returned (.tuple #[zc, er E 3]) ∧ Below w.heap.size w w' := by
  have HF : Hid (∀ o, Calls Tryd.prog 49 #[.pointer (some ⟨sb, 0, none⟩), .int .i64 k] (w.alloc o) fun e w' => e = .returned (.tuple #[zc, er E 3]) ∧ Below (w.alloc o).heap.size (w.alloc o) w') := fun o => find_none (h.alloc o) (G.new o) h1 h2 hl
  clear G h hl
  go_enter Tryd.func61, Tryd.ntmps61
  go_wp2_with (go_at_call 49; refine (unhide HF _).mono ?_; rintro e w1 ⟨rfl, hb⟩; obtain ⟨hc, hf⟩ := bcell hb; have hz : w.heap.size < w1.heap.size := (by have := hb.size; simp at this; omega); have HB : Hid (Below w.heap.size w w1) := (((Below.refl _ w).alloc (Nat.le_refl _) _).trans (hb.mono (by simp))); clear hb)
  refine bodyPost_ret (v := .tuple #[zc, er E 3]) (by simp [results, Tryd.results61, go_sem, hc, hz]) rfl ⟨rfl, ?_⟩
  (repeat (first | exact unhide HB | refine Below.drew ?_ | refine Below.alloc ?_ (by first | (simp; done) | (simp; omega)) _ | refine Below.setCell ?_ (by first | (simp; done) | (simp; omega)) _))
theorem open_shut {w : World} {sb : Nat} {m : Sto} {F : Nat → Prop} {k : Int} {bm : Nat} {sl : Nat → Value} {fl : Nat → Bool} {r : Run} {E : Nat → Addr} (h : In w sb m F bm sl fl) (G : Gs w E F) (h1 : -9223372036854775808 ≤ k) (h2 : k ≤ 9223372036854775807) (hl : look m.runs k = some r) (hs : r.shut = true) :
    Calls Tryd.prog 61 #[.pointer (some ⟨sb, 0, none⟩), .int .i64 k] w fun e w' => e = .returned (.tuple #[zc, er E 4]) ∧ Below w.heap.size w w' := by
  obtain ⟨a, c, ev⟩ := own_slice (h.rows.own r (look_mem hl).1)
  have HF : Hid (∀ o, Calls Tryd.prog 49 #[.pointer (some ⟨sb, 0, none⟩), .int .i64 k] (w.alloc o) fun e w' => e = .returned (.tuple #[.agg #[.slice a r.txt.length c, .bool true], .nilIface]) ∧ Below (w.alloc o).heap.size (w.alloc o) w') := fun o => by
    have := find_some (h.alloc o) h1 h2 hl
    rw [ev, hs] at this
    exact this
  have HG : Hid (∀ o w1, Below (w.alloc o).heap.size (w.alloc o) w1 → w1.cell? ⟨8, 0, none⟩ = some (er E 4) ∧ 8 < w1.heap.size) := fun o w1 hb => ⟨((G.new o).chg (Chg.of_below (F := F) hb)).shut, by have h3 := hb.size; have h4 := G.sz; simp at h3; omega⟩
  have hn1 : ¬ w.heap.size = 8 := by have := G.sz; omega
  have hn2 : ¬ 8 = w.heap.size := by have := G.sz; omega
  clear G h hl ev hs
  go_enter Tryd.func61, Tryd.ntmps61
  go_wp2_with (go_at_call 49; refine (unhide HF _).mono ?_; rintro e w1 ⟨rfl, hb⟩; obtain ⟨hc, hf⟩ := bcell hb; have hz : w.heap.size < w1.heap.size := (by have := hb.size; simp at this; omega); obtain ⟨hg, hg2⟩ := unhide HG _ w1 hb; have HB : Hid (Below w.heap.size w w1) := (((Below.refl _ w).alloc (Nat.le_refl _) _).trans (hb.mono (by simp))); clear hb)
  go_region
  all_goals
    go_wp2
    refine bodyPost_ret (v := .tuple #[zc, er E 4]) (by simp [results, Tryd.results61, go_sem, hc, hz]) rfl ⟨rfl, ?_⟩
    (repeat (first | exact unhide HB | refine Below.drew ?_ | refine Below.alloc ?_ (by first | (simp; done) | (simp; omega)) _ | refine Below.setCell ?_ (by first | (simp; done) | (simp; omega)) _))
theorem open_some {w : World} {sb : Nat} {m : Sto} {F : Nat → Prop} {k : Int} {bm : Nat} {sl : Nat → Value} {fl : Nat → Bool} {r : Run} (h : In w sb m F bm sl fl) (h1 : -9223372036854775808 ≤ k) (h2 : k ≤ 9223372036854775807) (hl : look m.runs k = some r) (hs : r.shut = false) :
    Calls Tryd.prog 61 #[.pointer (some ⟨sb, 0, none⟩), .int .i64 k] w fun e w' => e = .returned (.tuple #[.agg #[sl r.num, .bool false], .nilIface]) ∧ Below w.heap.size w w' := by
  obtain ⟨a, c, ev⟩ := own_slice (h.rows.own r (look_mem hl).1)
  rw [ev]
  have HF : Hid (∀ o, Calls Tryd.prog 49 #[.pointer (some ⟨sb, 0, none⟩), .int .i64 k] (w.alloc o) fun e w' => e = .returned (.tuple #[.agg #[.slice a r.txt.length c, .bool false], .nilIface]) ∧ Below (w.alloc o).heap.size (w.alloc o) w') := fun o => by
    have := find_some (h.alloc o) h1 h2 hl
    rw [ev, hs] at this
    exact this
  clear h hl ev hs
  go_enter Tryd.func61, Tryd.ntmps61
  go_wp2_with (go_at_call 49; refine (unhide HF _).mono ?_; rintro e w1 ⟨rfl, hb⟩; obtain ⟨hc, hf⟩ := bcell hb; have hz : w.heap.size < w1.heap.size := (by have := hb.size; simp at this; omega); have HB : Hid (Below w.heap.size w w1) := (((Below.refl _ w).alloc (Nat.le_refl _) _).trans (hb.mono (by simp))); clear hb)
  refine bodyPost_ret (v := .tuple #[.agg #[.slice a r.txt.length c, .bool false], .nilIface]) (by simp [results, Tryd.results61, go_sem, hc, hz]) rfl ⟨rfl, ?_⟩
  (repeat (first | exact unhide HB | refine Below.drew ?_ | refine Below.alloc ?_ (by first | (simp; done) | (simp; omega)) _ | refine Below.setCell ?_ (by first | (simp; done) | (simp; omega)) _))
end Rs
end Go.Proofs.YtdcffkahijpcbabDoor
