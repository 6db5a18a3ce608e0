/- Layer 6: the plain part of Put; slices.Clone of bytes; die. -/
import Derived.Test.YtigffjbefbndnaaDoorWa
import Derived.Laws.AppendOwn
namespace Go.Proofs.YtigffjbefbndnaaDoor
open Go.RowKit
namespace Rs
/-- blocks are appended as long as there are enough bytes: the failure, the store, what is left -/
def wputs (k : Int) (bs : Nat) (m : Sto) (T : List UInt8) : Nat × Sto × List UInt8 :=
  if _h : bs = 0 ∨ T.length < bs then (0, m, T)
  else if (app m k [strB (T.take bs)]).1 = 0 then wputs k bs (app m k [strB (T.take bs)]).2 (T.drop bs)
  else ((app m k [strB (T.take bs)]).1, (app m k [strB (T.take bs)]).2, T)
termination_by T.length
decreasing_by rw [List.length_drop]; omega
theorem wputs_stop {k : Int} {bs : Nat} {m : Sto} {T : List UInt8} (h : T.length < bs) : wputs k bs m T = (0, m, T) := by rw [wputs, dif_pos (.inr h)]
theorem wputs_go {k : Int} {bs : Nat} {m : Sto} {T : List UInt8} (h1 : 1 ≤ bs) (h : ¬ T.length < bs) (h0 : (app m k [strB (T.take bs)]).1 = 0) : wputs k bs m T = wputs k bs (app m k [strB (T.take bs)]).2 (T.drop bs) := by
  rw [wputs, dif_neg (by omega), if_pos h0]
theorem wputs_no {k : Int} {bs : Nat} {m : Sto} {T : List UInt8} (h1 : 1 ≤ bs) (h : ¬ T.length < bs) (h0 : (app m k [strB (T.take bs)]).1 ≠ 0) : wputs k bs m T = ((app m k [strB (T.take bs)]).1, (app m k [strB (T.take bs)]).2, T) := by
  rw [wputs, dif_neg (by omega), if_neg h0]
theorem wputs_small : ∀ (n : Nat) (k : Int) (bs : Nat) (m : Sto) (T : List UInt8), T.length ≤ n → 1 ≤ bs → (wputs k bs m T).1 = 0 → (wputs k bs m T).2.2.length < bs := by
  intro n
  induction n with
  | zero =>
    intro k bs m T hT h1 _
    rw [wputs_stop (by omega)]
    simp only
    omega
  | succ n ih =>
    intro k bs m T hT h1 h
    by_cases hl : T.length < bs
    · rw [wputs_stop hl]; exact hl
    · by_cases h0 : (app m k [strB (T.take bs)]).1 = 0
      · rw [wputs_go h1 hl h0] at h ⊢
        exact ih k bs _ _ (by rw [List.length_drop]; omega) h1 h
      · rw [wputs_no h1 hl h0] at h
        exact absurd h h0
/-- the bytes of a row, as the walk of Clone reads them -/
def BArg (w : World) (v : Value) (L : List UInt8) : Prop := ∃ g off c, v = .slice (some ⟨g, off, none⟩) L.length c ∧ g < w.heap.size ∧ ∀ (j : Nat) x, L[j]? = some x → w.cell? ⟨g, off + j, none⟩ = some (encB x)
theorem eq_bytes (a : Addr) (n c : Nat) (W : World) : (binOp .eql 66 (.slice (some a) n c) (.slice none 0 0)).run Tryd.prog W = .ok (.bool false) W := by kernel_rfl
set_option maxRecDepth 100000 in
set_option maxHeartbeats 1000000 in
theorem clone_any (v : Value) (L : List UInt8) (w : World) (hA : BArg w v L) (hn : L.length ≤ 1073741824) :
    Calls Tryd.prog 53 #[v] w fun e w' => ∃ u, e = .returned u ∧ w'.ownsRow w.heap.size 5 1 u L.length (L.map encB) ∧ Below w.heap.size w w' := by
  obtain ⟨i0, hi, hz0⟩ := Option.map_eq_some_iff.1 infoB
  simp only [Prod.mk.injEq] at hz0
  obtain ⟨hz0, hz1, hz2⟩ := hz0
  obtain ⟨g, off, c, rfl, hg, hc⟩ := hA
  have HC : Hid (∀ j u, (L.map encB)[j]? = some u → (w.alloc (.cells #[] 5)).cell? ((⟨g, off, none⟩ : Addr).add j) = some u) := fun j u hu => by
    rw [List.getElem?_map] at hu
    cases hx : L[j]? with
    | none => rw [hx] at hu; cases hu
    | some x =>
      rw [hx] at hu
      injection hu with hu
      rw [Go.WideShapes.add_plain, ← hu]
      exact (World.cell?_of_block (a := ⟨g, off + j, none⟩) (Below.heap_alloc w _ g hg)).trans (hc j x hx)
  have HL : Hid ((L.map encB).length = L.length * 1) := by show _ = _; rw [List.length_map, Nat.mul_one]
  have HO : Hid (∀ u ∈ L.map encB, u.oneCell' = true) := fun u hu => by
    obtain ⟨b, _, rfl⟩ := List.mem_map.1 hu
    rfl
  have HM : Hid ((w.alloc (.cells #[] 5)).ownsRow w.heap.size 5 1 (.slice (some ⟨w.heap.size, 0, none⟩) 0 0) 0 []) := World.ownsRow_made w #[] 0 (Nat.le_refl _) (by simp) rfl
  have HB0 : Hid (Below w.heap.size w (w.alloc (.cells #[] 5))) := (Below.refl _ w).alloc (Nat.le_refl _) _
  have heq := eq_bytes ⟨g, off, none⟩
  clear hc
  generalize L.map encB = news at *
  obtain ⟨n, hnn⟩ : ∃ n, L.length = n := ⟨_, rfl⟩
  rw [hnn] at hn HL ⊢
  clear hnn
  go_enter Tryd.func53, Tryd.ntmps53
  go_wp2_with (at_builtin; refine wpList_append_own _ rfl _ _ 66 rfl w.heap.size 5 i0 (.int .u8 0) 1 1 Tryd.underlying66 hi hz0 hz1 hz2 rfl (by decide) _ _ _ rfl (unhide HM) ⟨g, off, none⟩ n c news rfl (unhide HL) (unhide HC) (unhide HO) (by unfold maxLen; omega) (by omega) (unhide HB0).size ?_; intro v1 w1 hown1 hgrow1 hnil1; clear hnil1; have HOW := hide hown1; have HGR := hide hgrow1; clear hown1 hgrow1)
  go_ret
  have h1 := unhide HOW
  rw [Nat.zero_add, List.nil_append] at h1
  exact ⟨_, rfl, h1, (unhide HB0).grown (unhide HGR) (by simp) (fun k e => ((unhide HM).lt k e).1)⟩
set_option maxRecDepth 100000 in
theorem die_any {w : World} {wb : Nat} {C : Array Value} (hs : w.heap[wb]? = some (.cells C 86 (0, 0))) (hz : C.size = 5) (ev : Value) (hev : ev = .nilIface ∨ ∃ t p, ev = .iface t (.pointer p)) :
    Calls Tryd.prog 52 #[.pointer (some ⟨wb, 0, none⟩), ev] w fun e w' => e = .returned ev ∧ w' = (w.setCell ⟨wb, 4, none⟩ ev).setCell ⟨wb, 3, none⟩ (.slice none 0 0) := by
  have hlt := (Array.getElem?_eq_some_iff.1 hs).1
  have c3 : w.cell? ⟨wb, 3, none⟩ = some C[3] := by simp [World.cell?, hs, hz]
  have c4 : w.cell? ⟨wb, 4, none⟩ = some C[4] := by simp [World.cell?, hs, hz]
  have f3 : w.frozen? ⟨wb, 3, none⟩ = false := by simp [World.frozen?, hs]
  have f4 : w.frozen? ⟨wb, 4, none⟩ = false := by simp [World.frozen?, hs]
  generalize C[3] = x3 at *
  generalize C[4] = x4 at *
  clear hs hz
  rcases hev with rfl | ⟨t, p, rfl⟩
  · go_enter Tryd.func52, Tryd.ntmps52
    go_wp2
    go_ret
    exact ⟨rfl, rfl⟩
  · go_enter Tryd.func52, Tryd.ntmps52
    go_wp2
    go_ret
    exact ⟨rfl, rfl⟩
end Rs
end Go.Proofs.YtigffjbefbndnaaDoor
