/- Layer 9: is a word too long; a former's check; New. -/
import Derived.Test.YtigffjbefbndnaaDoorFi
namespace Go.Proofs.YtigffjbefbndnaaDoor
open Go.RowKit
namespace Rs
open Sm (Tx ofS)
def long (x : Tx) : Bool := decide (255 < x.size)
theorem long_one (x : Tx) (w : World) : Calls Tryd.prog 23 #[.string x] w fun e w' => e = .returned (.bool (long x)) ∧ w' = w := by
  by_cases h : 255 < x.size
  · have e : long x = true := by simp [long, h]
    rw [e]
    have hz : 255 < (x.size : Int) := by omega
    go_enter Tryd.func23, Tryd.ntmps23
    go_wp2
    go_ret
    exact ⟨by simp, rfl⟩
  · have e : long x = false := by simp [long, h]
    rw [e]
    have hz : ¬ 255 < (x.size : Int) := by omega
    go_enter Tryd.func23, Tryd.ntmps23
    go_wp2
    go_ret
    exact ⟨by simp, rfl⟩
theorem long_take {L : List Tx} {k : Nat} {x : Tx} (h : (L.take k).any long = false) (hx : L[k]? = some x) (hn : long x = false) : (L.take (k + 1)).any long = false := by
  have hk : k < L.length := (List.getElem?_eq_some_iff.1 hx).1
  rw [List.take_succ_eq_append_getElem hk, (List.getElem?_eq_some_iff.1 hx).2, List.any_append, h]
  simp [hn]
theorem long_yes {L : List Tx} {k : Nat} {x : Tx} (hx : L[k]? = some x) (hn : long x = true) : L.any long = true := List.any_eq_true.2 ⟨x, List.mem_of_getElem? hx, hn⟩
set_option maxRecDepth 100000 in
set_option maxHeartbeats 2000000 in
theorem index_long {w : World} {v : Value} {L : List Tx} (hT : Um.Txs w v L) (hm : L.length ≤ 9223372036854775807) :
    Calls Tryd.prog 32 #[v, .func (.func 23) #[] #[]] w fun e w' => ∃ r : Int, e = .returned (.int .i64 r) ∧ decide (0 ≤ r) = L.any long ∧ w' = w := by
  have HH := hide (fun x => long_one x w)
  obtain ⟨ao, cap, rfl, hc, _, hcell⟩ := hT
  have HC := hide hcell
  clear hcell
  generalize hn : L.length = n at *
  have HN := hide hn
  clear hn
  go_enter Tryd.func32, Tryd.ntmps32
  go_wp2
  go_loop [8] (fun i => ∃ k : Nat, i = .int .i64 k ∧ k ≤ n ∧ Hid ((L.take k).any long = false)) (fun i => n - (intOf i).toNat)
  case atStart => exact ⟨0, rfl, Nat.zero_le _, by simp [Hid]⟩
  case round =>
    obtain ⟨k, rfl, hk, HT⟩ := hrel
    by_cases hlt : k < n
    · have hltz : (k : Int) < (n : Int) := by omega
      obtain ⟨x, hx⟩ : ∃ x, L[k]? = some x := ⟨_, List.getElem?_eq_getElem (by rw [unhide HN]; exact hlt)⟩
      obtain ⟨g, off, rfl, _, hcc⟩ := unhide HC (by omega)
      have hcx := hcc k x hx
      have HX := hide hx
      have HHX := hide (unhide HH x)
      clear hcc hx
      cases hb : long x
      · rw [hb] at HHX
        have HT2 := hide (long_take (unhide HT) (unhide HX) hb)
        clear hb
        go_wp2_with (go_at_call 23; refine (unhide HHX).mono ?_; rintro e w1 ⟨rfl, hw1⟩; obtain rfl := hw1.symm)
        go_round
        case rel => exact ⟨k + 1, by go_num, by omega, HT2⟩
        case measure => simp [intOf]; omega
      · rw [hb] at HHX
        have HY := hide (long_yes (unhide HX) hb)
        clear hb
        go_wp2_with (go_at_call 23; refine (unhide HHX).mono ?_; rintro e w1 ⟨rfl, hw1⟩; obtain rfl := hw1.symm)
        go_ret
        exact ⟨_, rfl, by rw [unhide HY]; simp, rfl⟩
    · obtain rfl : k = n := by omega
      have hltz : ¬ (k : Int) < (k : Int) := by omega
      have HF : Hid (L.any long = false) := by
        have := unhide HT
        rw [← unhide HN, List.take_length] at this
        exact this
      go_wp2
      go_ret
      exact ⟨_, rfl, by rw [unhide HF]; simp, rfl⟩
set_option maxRecDepth 100000 in
theorem contains_long {w : World} {v : Value} {L : List Tx} (hT : Um.Txs w v L) (hm : L.length ≤ 9223372036854775807) :
    Calls Tryd.prog 22 #[v, .func (.func 23) #[] #[]] w fun e w' => e = .returned (.bool (L.any long)) ∧ w' = w := by
  have HI := hide (index_long hT hm)
  obtain ⟨ao, cap, rfl, _⟩ := hT
  go_enter Tryd.func22, Tryd.ntmps22
  go_wp2_with (go_at_call 32; refine (unhide HI).mono ?_; rintro e w1 ⟨r, rfl, hr, hw1⟩; obtain rfl := hw1.symm; have HR := hide hr; clear hr)
  go_ret
  exact ⟨by rw [← unhide HR]; rfl, rfl⟩
theorem long_no {L : List Tx} (h : L.any long = false) : ∀ x ∈ L, x.size ≤ 255 := fun x hx => by
  have := List.any_eq_false.1 h x hx
  simp [long] at this
  omega
theorem no_long {L : List Tx} (h : ∀ x ∈ L, x.size ≤ 255) : L.any long = false := List.any_eq_false.2 fun x hx => by
  have := h x hx
  simp [long]; omega
set_option maxRecDepth 100000 in
theorem fcheck_live {w : World} {sb fb : Nat} {f : For} {G : Nat → Prop} {bv mv : Value} (h : FIn w sb fb f G bv mv) :
    Calls Tryd.prog 21 #[.pointer (some ⟨fb, 0, none⟩)] w fun e w' => e = .returned .nilIface ∧ w' = w := by
  obtain ⟨c0, c1, c2, c3, c4, cf⟩ := fcells h.sto
  clear h
  go_enter Tryd.func21, Tryd.ntmps21
  go_wp2
  go_ret
  exact ⟨rfl, rfl⟩
set_option maxRecDepth 100000 in
theorem fcheck_dead {w : World} {E : Nat → Addr} {sb fb c : Nat} (h : FDe w E sb fb c) :
    Calls Tryd.prog 21 #[.pointer (some ⟨fb, 0, none⟩)] w fun e w' => e = .returned (er E c) ∧ w' = w := by
  unfold FDe at h
  have c0 : w.cell? ⟨fb, 0, none⟩ = some (.pointer (some ⟨sb, 0, none⟩)) := by simp [World.cell?, h]
  have c4 : w.cell? ⟨fb, 4, none⟩ = some (er E c) := by simp [World.cell?, h]
  clear h
  unfold er at *
  go_enter Tryd.func21, Tryd.ntmps21
  go_wp2
  go_ret
  exact ⟨rfl, rfl⟩
set_option maxRecDepth 100000 in
theorem fcheck_closed {w : World} {E : Nat → Addr} {B fb : Nat} (V : Env w E B) (h : FCl w fb) :
    Calls Tryd.prog 21 #[.pointer (some ⟨fb, 0, none⟩)] w fun e w' => e = .returned (er E 13) ∧ w' = w := by
  unfold FCl at h
  have c0 : w.cell? ⟨fb, 0, none⟩ = some (.pointer none) := by simp [World.cell?, h]
  have hcl := V.cl
  clear h V
  go_enter Tryd.func21, Tryd.ntmps21
  go_wp2
  go_ret
  exact ⟨rfl, rfl⟩
set_option maxRecDepth 100000 in
theorem fcheck_nil {w : World} {E : Nat → Addr} {B : Nat} (V : Env w E B) :
    Calls Tryd.prog 21 #[.pointer none] w fun e w' => e = .returned (er E 1) ∧ w' = w := by
  have hcl := V.g.nil
  clear V
  go_enter Tryd.func21, Tryd.ntmps21
  go_wp2
  go_ret
  exact ⟨rfl, rfl⟩
set_option maxRecDepth 100000 in
theorem fnew_go (w : World) (sb b : Nat) (h1 : 1 ≤ b) (h2 : b ≤ 65536) :
    Calls Tryd.prog 9 #[.pointer (some ⟨sb, 0, none⟩), .int .i64 b] w fun e w' => e = .returned (.tuple #[.pointer (some ⟨w.heap.size, 0, none⟩), .nilIface]) ∧ FIn w' sb w.heap.size ⟨b, [], [], 0⟩ (fun y => y = w.heap.size) (.slice none 0 0) (.slice none 0 0) ∧ Below w.heap.size w w' := by
  have q1 : ¬ (b : Int) < 1 := by omega
  have q2 : ¬ 65536 < (b : Int) := by omega
  go_enter Tryd.func9, Tryd.ntmps9
  go_wp2
  go_ret2
  refine ⟨rfl, ⟨fun y hy => by rw [hy]; simp, rfl, (MapKept.heap_alloc w _).1, World.ownsRow_nil _ _ _ _, fun g hg => (by cases hg), World.ownsRow_nil _ _ _ _, fun g hg => (by cases hg)⟩, (Below.refl _ w).alloc (Nat.le_refl _) _⟩
set_option maxRecDepth 100000 in
theorem fnew_lim {w : World} {E : Nat → Addr} {B : Nat} (V : Env w E B) (sb : Nat) (b : Int) (h : b < 1 ∨ 65536 < b) :
    Calls Tryd.prog 9 #[.pointer (some ⟨sb, 0, none⟩), .int .i64 b] w fun e w' => e = .returned (.tuple #[.pointer none, er E 2]) ∧ Below w.heap.size w w' := by
  have hl := V.li
  have hz : 1 < w.heap.size := by have := V.g.sz; omega
  clear V
  by_cases h1 : b < 1
  · clear h
    go_enter Tryd.func9, Tryd.ntmps9
    go_wp2
    go_quiet (fail)
    go_wp2
    go_ret2
    exact ⟨rfl, ⟨rfl, rfl, rfl, Nat.le_refl _, fun _ _ => rfl⟩⟩
  · have h2 : 65536 < b := by omega
    clear h
    go_enter Tryd.func9, Tryd.ntmps9
    go_wp2
    go_quiet (fail)
    go_wp2
    go_ret2
    exact ⟨rfl, ⟨rfl, rfl, rfl, Nat.le_refl _, fun _ _ => rfl⟩⟩
end Rs
end Go.Proofs.YtigffjbefbndnaaDoor
