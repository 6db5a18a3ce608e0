/- Contract: lines.Show answers the text of the rows, or the first fault; nothing old in memory turns. -/
import Derived.Test.YtaaonaaciomijabDoorSzW
import Derived.Test.YtaaonaaciomijabDoorShK
import Derived.BigCall
namespace Go.Proofs.YtaaonaaciomijabDoor
open Go.RowKit
namespace ShM
/-- the rows as a text -/
def shw (R : List (List ByteArray)) : List UInt8 := R.flatMap fun r => Lib.join (r.map fun f => f.data.toList) [32] ++ [10]
theorem shw_snoc {R : List (List ByteArray)} {k : Nat} {r : List ByteArray} (h : R[k]? = some r) : shw (R.take (k + 1)) = shw (R.take k) ++ Lib.join (r.map fun f => f.data.toList) [32] ++ [10] := by
  obtain ⟨hj, e⟩ := List.getElem?_eq_some_iff.1 h
  rw [List.take_succ_eq_append_getElem hj, e]
  simp [shw, List.flatMap_append]
theorem tail_len (r : List ByteArray) : (Lib.joinTail [32] (r.map fun f => f.data.toList)).length = rt r := by
  induction r with
  | nil => rfl
  | cons f t ih =>
    have e : f.data.toList.length = f.size := by simp
    simp only [Lib.joinTail, List.map_cons, List.flatten_cons, List.length_append, rt, List.sum_cons, List.length_singleton] at *
    rw [ih, e]; omega
theorem join_len (r : List ByteArray) : (Lib.join (r.map fun f => f.data.toList) [32]).length ≤ rt r := by
  cases r with
  | nil => simp [Lib.join_nil]
  | cons f t =>
    have e : f.data.toList.length = f.size := by simp
    rw [List.map_cons, Lib.join_cons, List.length_append, tail_len, e]
    simp only [rt, List.map_cons, List.sum_cons]
    omega
theorem shw_len (R : List (List ByteArray)) : (shw R).length ≤ tot R + R.length := by
  induction R with
  | nil => simp [shw]
  | cons r t ih =>
    have h := join_len r
    have e1 : shw (r :: t) = Lib.join (r.map fun f => f.data.toList) [32] ++ [10] ++ shw t := by simp [shw]
    have e2 : tot (r :: t) = rt r + tot t := by simp [tot]
    have e3 : ([10] : List UInt8).length = 1 := rfl
    have e4 : (r :: t).length = t.length + 1 := rfl
    rw [e1, e2, List.length_append, List.length_append, e3, e4]
    omega
theorem len_rt (r : List ByteArray) : r.length ≤ rt r := by
  induction r with
  | nil => simp
  | cons f t ih =>
    have e : rt (f :: t) = f.size + 1 + rt t := by simp [rt]
    rw [e, List.length_cons]
    omega
theorem fault_ne {R : List (List ByteArray)} : ∀ {i : Nat}, fault i R = 0 → ∀ (k : Nat) r, R[k]? = some r → r.length ≠ 0 := by
  induction R with
  | nil => intro i _ k r h; simp at h
  | cons x t ih =>
    intro i h k r hk
    unfold fault at h
    split at h
    · cases h
    · rename_i hx
      split at h
      · cases k with
        | zero =>
          simp at hk
          subst hk
          intro h0
          exact hx (by simp [List.eq_nil_of_length_eq_zero h0])
        | succ k => exact ih h k r (by simpa using hk)
      · cases h
def showS (R : List (List ByteArray)) : ByteArray := if fault 0 R = 0 ∧ tot R ≤ 65536 then ⟨(shw R).toArray⟩ else ⟨#[]⟩
def showE (R : List (List ByteArray)) : Int := if fault 0 R = 0 then (if tot R ≤ 65536 then 0 else 10) else fault 0 R
theorem builder_below {T e : TypeId} {B b : Nat} {bs : List Value} {w w' : World} (h : Lib.IsBuilderF T e B b bs w) (hB : Below w.heap.size w w') : Lib.IsBuilderF T e B b bs w' := by
  have one : ∀ p, Lib.BuilderAtF T e B b p bs w → Lib.BuilderAtF T e B b p bs w' := by
    rintro p ⟨h1, v, h2, h3, h4⟩
    refine ⟨h1, v, by rw [hB.block b (Array.getElem?_eq_some_iff.1 h2).1]; exact h2, ?_, h4⟩
    obtain ⟨hl, h | ⟨g, cap, cur, fz, rfl, hg, hh, hr⟩⟩ := h3
    · exact ⟨hl, .inl h⟩
    · exact ⟨hl, .inr ⟨g, cap, cur, fz, rfl, hg, by rw [hB.block g (Array.getElem?_eq_some_iff.1 hh).1]; exact hh, hr⟩⟩
  exact h.elim (fun x => .inl (one _ x)) (fun x => .inr (one _ x))
end ShM
namespace ShoW
open FldW ShM

theorem ret_se {a b : ByteArray} {c d : Int} (h1 : a = b) (h2 : c = d) : Ending.returned (.tuple #[.string a, .int .i64 c]) = .returned (.tuple #[.string b, .int .i64 d]) := by rw [h1, h2]
theorem cells_str (l : List UInt8) : Lib.strCells ⟨l.toArray⟩ = Lib.byteCells l := by simp [Lib.strCells, Lib.byteCells]

set_option maxHeartbeats 2000000 in
theorem show_fault (R : List (List ByteArray)) (v : Value) (w : World) (hR : IsRows w v R) (hsz : ∀ r ∈ R, ∀ f ∈ r, f.size < 4294967281) (h0 : fault 0 R ≠ 0) :
    Calls Tryd.prog 21 #[v] w fun e w' => e = .returned (.tuple #[.string (showS R), .int .i64 (showE R)]) ∧ Below w.heap.size w w' := by
  have HF := hide (fun W h => FltW.fault_any R v W h hsz)
  have HR := hide hR
  have HS : Hid (showS R = ⟨#[]⟩) := by rw [Hid, showS, if_neg (fun h => h0 h.1)]
  have HE : Hid (showE R = fault 0 R) := by rw [Hid, showE, if_neg h0]
  have hne : ((fault 0 R) != 0) = true := by rw [bne_iff_ne]; exact h0
  clear hR hsz h0
  generalize fault 0 R = q at *
  generalize showS R = S at *
  generalize showE R = E at *
  go_enter Tryd.func21, Tryd.ntmps21
  go_wp2_with (go_at_call 33; refine (unhide HF _ (unhide HR)).mono ?_; rintro e w1 ⟨rfl, hB1⟩)
  go_ret2
  exact ⟨ret_se (unhide HS).symm (unhide HE).symm, hB1⟩
set_option maxHeartbeats 2000000 in
theorem show_long (R : List (List ByteArray)) (v : Value) (w : World) (hR : IsRows w v R) (hsz : ∀ r ∈ R, ∀ f ∈ r, f.size < 4294967281) (hT : tot R ≤ 1099511627776) (h0 : fault 0 R = 0) (hl : ¬ tot R ≤ 65536) :
    Calls Tryd.prog 21 #[v] w fun e w' => e = .returned (.tuple #[.string (showS R), .int .i64 (showE R)]) ∧ Below w.heap.size w w' := by
  have hF := fun W h => FltW.fault_any R v W h hsz
  rw [h0] at hF
  have HF := hide hF
  have HZ := hide (fun W h => SzW.size_any R v W h hT)
  have HR := hide hR
  have HS : Hid (showS R = ⟨#[]⟩) := by rw [Hid, showS, if_neg (fun h => hl h.2)]
  have HE : Hid (showE R = 10) := by rw [Hid, showE, if_pos h0, if_neg hl]
  have hgt : (65536 : Int) < ((tot R : Nat) : Int) := by omega
  clear hsz h0 hl hF hR
  generalize showS R = S at *
  generalize showE R = E at *
  generalize tot R = t at *
  go_enter Tryd.func21, Tryd.ntmps21
  go_wp2_with (go_at_call 33; refine (unhide HF _ (unhide HR)).mono ?_; rintro e w1 ⟨rfl, hB1⟩)
  go_wp2_with (go_at_call 34; refine (unhide HZ _ ((unhide HR).below hB1)).mono ?_; rintro e w2 ⟨rfl, hw⟩; subst hw)
  go_ret2
  exact ⟨ret_se (unhide HS).symm (unhide HE).symm, hB1⟩
set_option maxHeartbeats 4000000 in
theorem show_text (R : List (List ByteArray)) (v : Value) (w : World) (hR : IsRows w v R) (hsz : ∀ r ∈ R, ∀ f ∈ r, f.size < 4294967281) (hN : R.length ≤ 1099511627776) (h0 : fault 0 R = 0) (hl : tot R ≤ 65536) :
    Calls Tryd.prog 21 #[v] w fun e w' => e = .returned (.tuple #[.string (showS R), .int .i64 (showE R)]) ∧ Below w.heap.size w w' := by
  have hF := fun W h => FltW.fault_any R v W h hsz
  rw [h0] at hF
  have HF := hide hF
  have HZ := hide (fun W h => SzW.size_any R v W h (by omega))
  have HR := hide hR
  have HS : Hid (showS R = ⟨(shw R).toArray⟩) := by rw [Hid, showS, if_pos ⟨h0, hl⟩]
  have HE : Hid (showE R = 0) := by rw [Hid, showE, if_pos h0, if_pos hl]
  have HNE := hide (fault_ne h0)
  have HLE := hide (fun k => Nat.le_trans (shw_len (R.take k)) (Nat.add_le_add (tot_le R k) (List.length_take_le k R)))
  have HTS := hide (fun k r h => Nat.le_trans (Nat.le_of_eq (tot_snoc (R := R) (k := k) (r := r) h).symm) (tot_le R (k + 1)))
  have HSS := hide (fun k r h => shw_snoc (R := R) (k := k) (r := r) h)
  have HJL := hide join_len
  have HFU : Hid (shw (R.take R.length) = shw R) := by rw [Hid, List.take_length]
  have hgt : ¬ (65536 : Int) < ((tot R : Nat) : Int) := by omega
  obtain ⟨ao, cap, rfl, hm, hcap, _⟩ := hR.form
  clear hsz h0 hF hR
  generalize showS R = S at *
  generalize showE R = E at *
  generalize hn : R.length = n at *
  have HNn := hide hn
  clear hn
  unfold maxLen at hm
  generalize tot R = t at *
  go_enter Tryd.func21, Tryd.ntmps21
  go_wp2_with (go_at_call 33; refine (unhide HF _ (unhide HR)).mono ?_; rintro e w1 ⟨rfl, hB1⟩)
  go_wp2_with (go_at_call 34; refine (unhide HZ _ ((unhide HR).below hB1)).mono ?_; rintro e w2 ⟨rfl, hw⟩; subst hw)
  obtain ⟨ao', cap', he, _, _, hcell⟩ := ((unhide HR).below hB1).form
  obtain ⟨rfl, rfl⟩ : ao = ao' ∧ cap = cap' := by
    injection he with h1 _ h2
    exact ⟨h1, h2⟩
  have HC := hide hcell
  have HB1 := hide hB1
  clear hcell hB1 he HF HZ HR
  go_loopw [18] (fun i wr => ∃ k : Nat, k ≤ n ∧ i = .int .i64 k ∧ Lib.IsBuilderF 67 5 w2.heap.size w2.heap.size (Lib.byteCells (shw (R.take k))) wr ∧ Below w2.heap.size w2 wr) (fun i _ => n - (intOf i).toNat)
  case atStart => exact ⟨0, Nat.zero_le _, rfl, Lib.IsBuilderF.of (Lib.fresh_isBuilder 67 5 w2), (Below.refl _ w2).alloc (Nat.le_refl _) _⟩
  case round =>
    obtain ⟨k, hk, rfl, hI, hB⟩ := hrel
    have hsz2 := hB.size
    have hlen := unhide HLE k
    by_cases hlt : k < n
    · obtain ⟨r, hr⟩ : ∃ r, R[k]? = some r := ⟨_, List.getElem?_eq_getElem (by rw [unhide HNn]; exact hlt)⟩
      obtain ⟨g, off, u, rfl, hg, hcu, hru⟩ := unhide HC k r hr
      have hcu2 : wr.cell? ⟨g, off + k, none⟩ = some u := (hB.cell (p := ⟨g, off + k, none⟩) hg).trans hcu
      obtain ⟨ao2, cap2, rfl, hm2, hcap2, hcell2⟩ := row_form hru
      have hz0 := unhide HNE k r hr
      obtain ⟨f0, hf0⟩ : ∃ f, r[0]? = some f := ⟨_, List.getElem?_eq_getElem (by omega)⟩
      obtain ⟨g2, off2, rfl, hg2, _⟩ := hcell2 0 f0 hf0
      have hrt := unhide HTS k r hr
      have hjl := unhide HJL r
      have HSn := hide (unhide HSS k r hr)
      unfold maxLen at hm2
      have hcells : ∀ (j : Nat) x, r[j]? = some x → wr.cell? ⟨g2, off2 + j, none⟩ = some (.string x) := fun j x hx => by
        obtain ⟨g3, off3, e3, hg3, hc3⟩ := hcell2 j x hx
        injection e3 with e3
        injection e3 with e4 e5
        subst e4
        subst e5
        exact (hB.cell (p := ⟨_, _, none⟩) hg3).trans hc3
      have HJ := hide (Tryd.strings_Join g2 off2 cap2 r ⟨#[32]⟩ wr hcells (Nat.lt_of_lt_of_le hg2 hsz2) (by have := len_rt r; omega) hcap2 (by show (Lib.join (r.map fun f => f.data.toList) [32]).length ≤ _; omega))
      have hlk : (k : Int) < (n : Int) := by omega
      have hrz : rt r ≤ t := by omega
      have HJ2 : Hid (Calls Tryd.prog 36 #[.slice (some ⟨g2, off2, none⟩) r.length cap2, .string ⟨#[32]⟩] wr fun e w' => e = .returned (.string ⟨(Lib.join (r.map fun f => f.data.toList) [32]).toArray⟩) ∧ Below wr.heap.size wr w') := unhide HJ
      clear hcells hcell2 hru hcu hr hf0 HJ hrt
      generalize Lib.join (r.map fun f => f.data.toList) [32] = J at *
      generalize hz : r.length = z at *
      clear hz
      generalize shw (R.take k) = acc at *
      go_wp2_with (go_at_call 36; refine (unhide HJ2).mono ?_; rintro e w3 ⟨rfl, hB3⟩)
      have hI3 := builder_below hI hB3
      have hB4 := hB.trans (hB3.mono hsz2)
      have hsz3 := hB4.size
      clear hI hB hB3
      refine (Tryd.Builder_WriteString_k w2.heap.size w2.heap.size _ ⟨J.toArray⟩ _ hI3 (by rw [Lib.byteCells_length]; have : (ByteArray.mk J.toArray).size = J.length := by simp [ByteArray.size]
                                                                                           omega) hsz3).mono ?_
      rintro e w4 ⟨rfl, h4, b4, _⟩
      have hB5 := hB4.trans b4
      have hsz5 := hB5.size
      have hI5 : Lib.IsBuilderF 67 5 w2.heap.size w2.heap.size (Lib.byteCells (acc ++ J)) w4 := by rw [Lib.byteCells_append]; exact Or.inr h4
      clear hI3 h4 b4 hB4
      go_wp2_with (go_at_call 37; refine (Tryd.Builder_WriteByte_k w2.heap.size w2.heap.size _ 10 _ hI5 (by rw [Lib.byteCells_length, List.length_append]; omega) hsz5).mono ?_)
      rintro e w5 ⟨rfl, h5, b5, _⟩
      go_wp2
      go_roundw
      case rel => exact ⟨k + 1, by omega, by go_num, by rw [unhide HSn, Lib.byteCells_append]; exact Or.inr h5, hB5.trans b5⟩
      case measure => simp [intOf]; omega
    · have hkn : k = n := by omega
      have HA : Hid (shw (R.take k) = shw R) := by rw [Hid, hkn]; exact unhide HFU
      clear hkn
      generalize shw (R.take k) = acc at *
      go_wp2_with (go_at_call 38; refine (Tryd.Builder_String_any_k w2.heap.size w2.heap.size acc _ hI hsz2).mono ?_)
      rintro e w3 ⟨rfl, _, b3, _⟩
      go_wp2
      go_ret2
      exact ⟨ret_se (by rw [unhide HS, unhide HA]) (unhide HE).symm, (unhide HB1).trans ((hB.trans b3).mono (unhide HB1).size)⟩

theorem show_any (R : List (List ByteArray)) (v : Value) (w : World) (hR : IsRows w v R) (hsz : ∀ r ∈ R, ∀ f ∈ r, f.size < 4294967281) (hT : tot R ≤ 1099511627776) (hN : R.length ≤ 1099511627776) :
    Calls Tryd.prog 21 #[v] w fun e w' => e = .returned (.tuple #[.string (showS R), .int .i64 (showE R)]) ∧ Below w.heap.size w w' := by
  by_cases h0 : fault 0 R = 0
  · by_cases hl : tot R ≤ 65536
    · exact show_text R v w hR hsz hN h0 hl
    · exact show_long R v w hR hsz hT h0 hl
  · exact show_fault R v w hR hsz h0
end ShoW
end Go.Proofs.YtaaonaaciomijabDoor
