import Derived.Test.YtmhegbeemgagkaaGreatDoorJf1
namespace Go.Proofs.YtmhegbeemgagkaaGreatDoor
open Go.RowKit
namespace Af
open RowB
theorem cells5 {w : World} {g : Nat} {a b c d e : Value} {t : TypeId} (h : w.heap[g]? = some (.cells #[a, b, c, d, e] t (0, 0))) : w.cell? ⟨g, 0, none⟩ = some a ∧ w.cell? ⟨g, 1, none⟩ = some b ∧ w.cell? ⟨g, 2, none⟩ = some c ∧ w.cell? ⟨g, 3, none⟩ = some d ∧ w.cell? ⟨g, 4, none⟩ = some e ∧ ∀ j, w.frozen? ⟨g, j, none⟩ = false := by
 refine ⟨?_, ?_, ?_, ?_, ?_, fun j => ?_⟩ <;> simp [World.cell?, World.frozen?, h]
structure Two (F : Fil) (x f k : Int) (b : Bool) (i n : Int) (is : Bool) : Prop where
 doc : fndV F.classes x = .agg #[.int .i64 f, .int .i64 k, .bool b, .int .i64 i, .int .i64 n] ∧ (findC F.classes x).isSome = is
 bd : 0 ≤ f ∧ f ≤ 65535
theorem two_any {B : Nat} {F : Fil} {P : Pts} {w : World} (h : FAt B w F P) (x : Int) (h0 : 0 ≤ x) (h1 : x ≤ 65535) : ∃ f k : Int, ∃ b : Bool, ∃ i n : Int, ∃ is : Bool, Two F x f k b i n is ∧
  Calls Tryz.prog 15 #[.pointer (some ⟨P.fb, 0, none⟩), .int .u16 x] w fun e w' => e = .returned (.tuple #[.agg #[.int .u16 f, .int .i64 k, .bool b, .int .i64 i, .int .i64 n], .bool is]) ∧ Below w.heap.size w w' := by
 cases hf : findC F.classes x with
 | none =>
  refine ⟨0, 0, false, 0, 0, false, ⟨⟨?_, by rw [hf]; rfl⟩, by decide, by decide⟩, ?_⟩
  ·unfold fndV; rw [hf]; rfl
  ·exact class_none h x h0 h1 hf
 | some i =>
  obtain ⟨c, hc, hcx⟩ := findC_get hf
  refine ⟨c.flag, c.kind, c.cross, (c.first : Nat), (c.count : Nat), true, ⟨⟨?_, by rw [hf]; rfl⟩, by rw [hcx]; exact h0, by rw [hcx]; exact h1⟩, ?_⟩
  ·unfold fndV; rw [hf]; simp only [hc]; rfl
  ·exact class_some h x h0 h1 hf hc
set_option maxRecDepth 100000 in
set_option maxHeartbeats 4000000 in
theorem class_law (s : ByteArray) (v : Value) (L : List Int) (w : World) (hM : Mx w.heap.size w) (hs : s.size ≤ 140737488355328) (hA : So.FArg w v L) (hx : ∀ x ∈ L, 0 ≤ x ∧ x ≤ 65535) :
  Calls Tryz.prog 4 #[.string s, v] w fun e w' => e = .returned (.bool true) ∧ Below w.heap.size w w' := by
 have HR := hide (read_law s w hM hs)
 have HW : Hid (∀ w1, Below w.heap.size w w1 → Calls Tryz.prog 11 #[] w1 fun e w' => e = .returned (.bool true) ∧ Below w1.heap.size w1 w') := fun w1 b => wakes_any w1 (hM.up b)
 obtain ⟨ao, cap, rfl, hcp, hm, _, hcell⟩ := hA
 have HC := hide hcell
 have HX := hide hx
 unfold maxLen at hm
 clear hcell hx hM hs
 generalize hnn : L.length = n at *
 have HN := hide hnn
 clear hnn
 cases hX : affR s.data.toList with
 | error er =>
  rw [hX] at HR
  clear hX
  have HNC := hide (fun x W => nil_class x W)
  have HSC := hide (fun W => sameClass_any 0 0 false 0 0 W (by decide) (by decide))
  unfold zC at HNC
  go_enter Tryz.func4, Tryz.ntmps4
  go_wp2_with fail
  refine (unhide HR).mono ?_
  rintro e w1 ⟨b1, rfl⟩
  have HB1 := hide b1
  clear b1
  go_wp2_with fail
  refine (unhide HW _ (unhide HB1)).mono ?_
  rintro e w2 ⟨rfl, b2⟩
  have HB2 := hide (btr' (unhide HB1) b2)
  clear b2
  go_wp2_with fail
  go_loopw [9, 10, 11, 12, 13, 28] (fun _ _ _ _ _ s28 wr => ∃ k : Nat, s28 = .int .i64 k ∧ k ≤ n ∧ Hid (Below w.heap.size w wr)) (fun _ _ _ _ _ s28 _ => n - (intOf s28).toNat)
  case atStart => exact ⟨0, rfl, Nat.zero_le _, HB2⟩
  case round =>
   obtain ⟨k, rfl, hk, HB⟩ := hrel
   by_cases hkn : k < n
   ·have hki : (k : Int) < (n : Int) := by omega
    obtain ⟨x, hx⟩ : ∃ x, L[k]? = some x := ⟨_, List.getElem?_eq_getElem (by rw [unhide HN]; exact hkn)⟩
    obtain ⟨g, off, rfl, hg, hcc⟩ := unhide HC (by omega)
    have hcw : wr.cell? ⟨g, off + k, none⟩ = some (.int .u16 x) := ((unhide HB).cell (p := ⟨g, off + k, none⟩) hg).trans (hcc k x hx)
    clear hcc hx hg
    go_wp2_with fail
    refine (unhide HNC _ _).mono ?_
    rintro e w3 ⟨rfl, b3⟩
    have HB3 := hide (btr' (unhide HB) b3)
    clear b3
    go_wp2_with fail
    refine (unhide HSC _).mono ?_
    rintro e w4 ⟨rfl, b4⟩
    have HB4 := hide (btr' ((unhide HB3).trans (Below.mono (B := w3.heap.size) (((Below.refl _ w3).alloc (Nat.le_refl _) _).alloc (by simp) _) (unhide HB3).size)) b4)
    clear b4
    go_wp2_with fail
    go_roundw
    case rel => exact ⟨k + 1, by go_num, by omega, HB4⟩
    case measure => simp [intOf]; omega
   ·obtain rfl : k = n := by omega
    have hki : ¬ (k : Int) < (k : Int) := by omega
    go_wp2_with fail
    go_ret
    exact ⟨rfl, unhide HB⟩
 | ok F =>
  rw [hX] at HR
  clear hX
  go_enter Tryz.func4, Tryz.ntmps4
  go_wp2_with fail
  refine (unhide HR).mono ?_
  rintro e w1 ⟨b1, B, P, B', P', hB, rfl, hF, hF'⟩
  have HB1 := hide b1
  have HF := hide hF
  have HF' := hide hF'
  clear b1 hF hF' hB
  go_wp2_with fail
  refine (unhide HW _ (unhide HB1)).mono ?_
  rintro e w2 ⟨rfl, b2⟩
  have HB2 := hide (btr' (unhide HB1) b2)
  have HF2 := hide ((unhide HF).below b2)
  have HF2' := hide ((unhide HF').below b2)
  clear b2
  go_wp2_with fail
  go_loopw [9, 10, 11, 12, 13, 28] (fun _ _ _ _ _ s28 wr => ∃ k : Nat, s28 = .int .i64 k ∧ k ≤ n ∧ Hid (Below w2.heap.size w2 wr)) (fun _ _ _ _ _ s28 _ => n - (intOf s28).toNat)
  case atStart => exact ⟨0, rfl, Nat.zero_le _, Below.refl _ _⟩
  case round =>
   obtain ⟨k, rfl, hk, HB⟩ := hrel
   have HBW := hide (btr' (unhide HB2) (unhide HB))
   by_cases hkn : k < n
   ·have hki : (k : Int) < (n : Int) := by omega
    obtain ⟨x, hx⟩ : ∃ x, L[k]? = some x := ⟨_, List.getElem?_eq_getElem (by rw [unhide HN]; exact hkn)⟩
    obtain ⟨g, off, rfl, hg, hcc⟩ := unhide HC (by omega)
    have hcw : wr.cell? ⟨g, off + k, none⟩ = some (.int .u16 x) := ((unhide HBW).cell (p := ⟨g, off + k, none⟩) hg).trans (hcc k x hx)
    obtain ⟨x0, x1⟩ := unhide HX x (List.mem_of_getElem? hx)
    obtain ⟨f, kd, b, i, c, is, h2, hcl⟩ := two_any ((unhide HF2).below (unhide HB)) x x0 x1
    have HCL := hide hcl
    have HFD := hide (fun w1 (b : Below w2.heap.size w2 w1) => find_doc ((unhide HF2').below b) x)
    rw [h2.doc.1, h2.doc.2] at HFD
    have HSC := hide (fun W => sameClass_any f kd b i c W h2.bd.1 h2.bd.2)
    clear hcc hx hg hcl h2
    go_wp2_with fail
    refine (unhide HCL).mono ?_
    rintro e w3 ⟨rfl, b3⟩
    have HB3 := hide (btr' (unhide HB) b3)
    clear b3
    have hCa := alloc_heap1 (alloc_new w3 (.cells #[.int .u16 f, .int .i64 kd, .bool b, .int .i64 i, .int .i64 c] 48)) (.cells #[.int .i64 0, .int .i64 0, .bool false, .int .i64 0, .int .i64 0] 52)
    have hCb := alloc_new (w3.alloc (.cells #[.int .u16 f, .int .i64 kd, .bool b, .int .i64 i, .int .i64 c] 48)) (.cells #[.int .i64 0, .int .i64 0, .bool false, .int .i64 0, .int .i64 0] 52)
    rw [show (w3.alloc (.cells #[.int .u16 f, .int .i64 kd, .bool b, .int .i64 i, .int .i64 c] 48)).heap.size = w3.heap.size + 1 by simp] at hCb
    have HBA := hide (btr' (unhide HB3) (((Below.refl _ w3).alloc (Nat.le_refl _) (.cells #[.int .u16 f, .int .i64 kd, .bool b, .int .i64 i, .int .i64 c] 48)).alloc (by simp) (.cells #[.int .i64 0, .int .i64 0, .bool false, .int .i64 0, .int .i64 0] 52)))
    have HCA := hide hCa
    have HCB := hide hCb
    clear hCa hCb
    go_wp2_with fail
    refine (unhide HFD _ (unhide HBA)).mono ?_
    rintro e w4 ⟨rfl, b4⟩
    have h4a := (b4.block _ (lt_some (unhide HCA))).trans (unhide HCA)
    have h4b := (b4.block _ (lt_some (unhide HCB))).trans (unhide HCB)
    have HB4 := hide (btr' (unhide HBA) b4)
    obtain ⟨a0, a1, a2, a3, a4, af⟩ := cells5 h4a
    obtain ⟨e0, e1, e2, e3, e4, ef⟩ := cells5 h4b
    have hl4 := lt_some h4b
    have hl4a := lt_some h4a
    have hl3 := (unhide HB3).size
    clear h4a h4b b4
    go_wp2_with fail
    have hge : w2.heap.size ≤ w3.heap.size + 1 := Nat.le_succ_of_le hl3
    refine (unhide HSC _).mono ?_
    rintro e w5 ⟨rfl, b5⟩
    have HB5 := hide (btr' ((((((unhide HB4).setCell (p := ⟨w3.heap.size + 1, 0, none⟩) hge _).setCell (p := ⟨w3.heap.size + 1, 1, none⟩) hge _).setCell (p := ⟨w3.heap.size + 1, 2, none⟩) hge _).setCell (p := ⟨w3.heap.size + 1, 3, none⟩) hge _).setCell (p := ⟨w3.heap.size + 1, 4, none⟩) hge _) b5)
    clear b5
    go_wp2_with fail
    go_roundw
    case rel => exact ⟨k + 1, by go_num, by omega, HB5⟩
    case measure => simp [intOf]; omega
   ·obtain rfl : k = n := by omega
    have hki : ¬ (k : Int) < (k : Int) := by omega
    go_wp2_with fail
    go_ret
    exact ⟨rfl, unhide HBW⟩
end Af
end Go.Proofs.YtmhegbeemgagkaaGreatDoor
