/- The reader: FLAG. -/
import Derived.Test.YtlajdmjpobckhaaGreatDoorGd21
import Derived.Test.YtlajdmjpobckhaaGreatDoorGd18
import Derived.Test.YtlajdmjpobckhaaGreatDoorGd15
import Derived.Test.YtlajdmjpobckhaaGreatDoorGd19
namespace Go.Proofs.YtlajdmjpobckhaaGreatDoor
open Go.RowKit
namespace Af
open RowB
theorem doKind_o {R : Rdr} {f : Bs} (h : (∃ x ∈ R.file.specials, x ≠ 0) ∨ [65, 70] ∈ R.heads ∨ R.file.classes ≠ []) : doKind R f = .error (R.line, 113) := by unfold doKind; rw [if_pos h]
theorem doKind_k {R : Rdr} {f : Bs} (h : ¬ ((∃ x ∈ R.file.specials, x ≠ 0) ∨ [65, 70] ∈ R.heads ∨ R.file.classes ≠ [])) : doKind R f = if f = [115, 104, 111, 114, 116] then .ok { R with file := { R.file with kind := 1 } } else if f = [108, 111, 110, 103] then .ok { R with file := { R.file with kind := 2 } } else if f = [110, 117, 109] then .ok { R with file := { R.file with kind := 3 } } else .error (R.line, 114) := by unfold doKind; rw [if_neg h]
set_option maxRecDepth 100000 in
set_option maxHeartbeats 4000000 in
theorem readKind_any {B rb : Nat} {R : Rdr} {P : Pts} {w : World} (h : RAt B w rb R P) (k : Value) (hd : List Bs) (hv : Value) (hrow : StrRow B w hv (hd.map Fld.str)) (hlen : hd.length = 2) :
    Calls Tryz.prog 70 #[ptr rb, hv, k] w (Res B rb P w (doKind R (fld hd 1))) := by
  obtain ⟨d0, -, hl, -, -, -, -⟩ := h.cells
  have hb := h.lt
  have hfb := h.file.lt
  obtain ⟨g, cap, rfl, hg, h1, h2, -, hcl⟩ := str_cells hrow
  unfold maxLen at h2
  have q1 := hcl 1 _ (fld_get (by omega))
  obtain ⟨s0, s1, s2, s3, s4, hsp⟩ := five h.file.ok.spec
  obtain ⟨k3, k4, k5, k6, k7, k0, k11, kz⟩ : w.cell? ⟨P.fb, 3, none⟩ = some (.int .u16 s0) ∧ w.cell? ⟨P.fb, 4, none⟩ = some (.int .u16 s1) ∧ w.cell? ⟨P.fb, 5, none⟩ = some (.int .u16 s2) ∧ w.cell? ⟨P.fb, 6, none⟩ = some (.int .u16 s3) ∧ w.cell? ⟨P.fb, 7, none⟩ = some (.int .u16 s4) ∧ w.cell? ⟨P.fb, 0, none⟩ = some (.int .i64 R.file.kind) ∧ w.cell? ⟨P.fb, 11, none⟩ = some P.vc ∧ ∀ j, w.frozen? ⟨P.fb, j, none⟩ = false := by
    have := h.file.fil
    refine ⟨?_, ?_, ?_, ?_, ?_, ?_, ?_, fun j => ?_⟩ <;> simp [World.cell?, World.frozen?, this, filC, hsp]
  obtain ⟨ac, cc, ec, -, -⟩ := own_len h.file.clss
  rw [ec] at k11
  have HST := hide (stood_any h (⟨#[65, 70]⟩ : ByteArray) (by decide))
  have HKT : Hid (∀ w, Kt B P.pm P.hm w w) := fun w => Kt.refl _ _ _ _
  have HVO := hide (leaveIf_no rb R.line 113 w (by decide) (by decide) hl)
  have HVV := hide (leave_no rb R.line 114 w (by decide) (by decide) hl)
  have h5 := eq5 s0 s1 s2 s3 s4
  have e1 : (Fld.str (fld hd 1)).toList = fld hd 1 := by rw [Lib.toList_data]; simp [Fld.str]
  rw [hlen] at h1 ⊢
  clear hcl hrow hlen ec hl
  have hz : (∃ x ∈ R.file.specials, x ≠ 0) ↔ ¬ (s0 = 0 ∧ s1 = 0 ∧ s2 = 0 ∧ s3 = 0 ∧ s4 = 0) := by
    rw [hsp]
    simp only [List.mem_cons, List.not_mem_nil, or_false]
    constructor
    · rintro ⟨x, hx, hn⟩ ⟨a, b, c, d, e⟩
      rcases hx with rfl | rfl | rfl | rfl | rfl
      · exact hn a
      · exact hn b
      · exact hn c
      · exact hn d
      · exact hn e
    · intro hn
      by_cases a : s0 = 0
      · by_cases b : s1 = 0
        · by_cases c : s2 = 0
          · by_cases d : s3 = 0
            · exact ⟨s4, by simp, fun e => hn ⟨a, b, c, d, e⟩⟩
            · exact ⟨s3, by simp, d⟩
          · exact ⟨s2, by simp, c⟩
        · exact ⟨s1, by simp, b⟩
      · exact ⟨s0, by simp, a⟩
  by_cases hall : s0 = 0 ∧ s1 = 0 ∧ s2 = 0 ∧ s3 = 0 ∧ s4 = 0
  · simp only [decide_eq_true hall] at h5
    by_cases hst : [65, 70] ∈ R.heads
    · have HX := hide (doKind_o (f := fld hd 1) (.inr (.inl hst)))
      rw [decide_eq_true hst] at HST
      clear hz hall hst h e1 hsp
      generalize Fld.str (fld hd 1) = r1 at *
      go_enter Tryz.func70, Tryz.ntmps70
      go_wp2_with (first | (go_at_call 80; refine (unhide HST).mono ?_; rintro e w2 ⟨rfl, rfl⟩) | (go_at_call 79; refine (unhide HVO).mono ?_; rintro e w3 ⟨rfl, rfl⟩))
      exact ⟨rfl, Res.no (unhide HX) (unhide HKT _)⟩
    · rw [decide_eq_false hst] at HST
      by_cases hc : R.file.classes = []
      · have HKK := doKind_k (R := R) (f := fld hd 1) (by rw [hz]; simp [hall, hst, hc])
        have hc0 : R.file.classes.length = 0 := by rw [hc]; rfl
        rw [hc0] at k11
        have HL := hide (fun W => leaveIf_ok (ptr rb) 113 W)
        have ok := h.file.ok
        clear hz hall hst hc hc0 hsp
        by_cases t0 : fld hd 1 = [115, 104, 111, 114, 116]
        · rw [if_pos t0] at HKK
          have b0 : ((Fld.str (fld hd 1)).toList == [115, 104, 111, 114, 116]) = true := by rw [e1]; simpa using t0
          have HX := hide HKK
          have HF := hide (h.fset (Below.refl _ w) (F' := { R.file with kind := 1 }) 0 (.int .i64 1) rfl rfl rfl rfl rfl ⟨.inl rfl, ok.spec, ok.specB, ok.cls, ok.reps, ok.ali, ok.aliS, ok.rul, ok.len⟩)
          clear HKK t0 e1 h ok
          generalize Fld.str (fld hd 1) = r1 at *
          go_enter Tryz.func70, Tryz.ntmps70
          go_wp2_with (first | (go_at_call 80; refine (unhide HST).mono ?_; rintro e w2 ⟨rfl, rfl⟩) | (go_at_call 79; with_reducible (show Calls _ _ #[_, .bool false, _] _ _); refine (unhide HL _).mono ?_; rintro e w3 ⟨rfl, rfl⟩))
          first | go_end0 | refine bodyPost_ret (results_none rfl _ _ _) rfl ?_
          exact Res.yes (unhide HX) (unhide HF).2 (unhide HF).1 rfl rfl rfl
        · by_cases t1 : fld hd 1 = [108, 111, 110, 103]
          · rw [if_neg t0, if_pos t1] at HKK
            have b0 : ((Fld.str (fld hd 1)).toList == [115, 104, 111, 114, 116]) = false := by rw [e1]; simpa using t0
            have b1 : ((Fld.str (fld hd 1)).toList == [108, 111, 110, 103]) = true := by rw [e1]; simpa using t1
            have HX := hide HKK
            have HF := hide (h.fset (Below.refl _ w) (F' := { R.file with kind := 2 }) 0 (.int .i64 2) rfl rfl rfl rfl rfl ⟨.inr (.inl rfl), ok.spec, ok.specB, ok.cls, ok.reps, ok.ali, ok.aliS, ok.rul, ok.len⟩)
            clear HKK t0 t1 e1 h ok
            generalize Fld.str (fld hd 1) = r1 at *
            go_enter Tryz.func70, Tryz.ntmps70
            go_wp2_with (first | (go_at_call 80; refine (unhide HST).mono ?_; rintro e w2 ⟨rfl, rfl⟩) | (go_at_call 79; with_reducible (show Calls _ _ #[_, .bool false, _] _ _); refine (unhide HL _).mono ?_; rintro e w3 ⟨rfl, rfl⟩))
            first | go_end0 | refine bodyPost_ret (results_none rfl _ _ _) rfl ?_
            exact Res.yes (unhide HX) (unhide HF).2 (unhide HF).1 rfl rfl rfl
          · by_cases t2 : fld hd 1 = [110, 117, 109]
            · rw [if_neg t0, if_neg t1, if_pos t2] at HKK
              have b0 : ((Fld.str (fld hd 1)).toList == [115, 104, 111, 114, 116]) = false := by rw [e1]; simpa using t0
              have b1 : ((Fld.str (fld hd 1)).toList == [108, 111, 110, 103]) = false := by rw [e1]; simpa using t1
              have b2 : ((Fld.str (fld hd 1)).toList == [110, 117, 109]) = true := by rw [e1]; simpa using t2
              have HX := hide HKK
              have HF := hide (h.fset (Below.refl _ w) (F' := { R.file with kind := 3 }) 0 (.int .i64 3) rfl rfl rfl rfl rfl ⟨.inr (.inr rfl), ok.spec, ok.specB, ok.cls, ok.reps, ok.ali, ok.aliS, ok.rul, ok.len⟩)
              clear HKK t0 t1 t2 e1 h ok
              generalize Fld.str (fld hd 1) = r1 at *
              go_enter Tryz.func70, Tryz.ntmps70
              go_wp2_with (first | (go_at_call 80; refine (unhide HST).mono ?_; rintro e w2 ⟨rfl, rfl⟩) | (go_at_call 79; with_reducible (show Calls _ _ #[_, .bool false, _] _ _); refine (unhide HL _).mono ?_; rintro e w3 ⟨rfl, rfl⟩))
              first | go_end0 | refine bodyPost_ret (results_none rfl _ _ _) rfl ?_
              exact Res.yes (unhide HX) (unhide HF).2 (unhide HF).1 rfl rfl rfl
            · rw [if_neg t0, if_neg t1, if_neg t2] at HKK
              have b0 : ((Fld.str (fld hd 1)).toList == [115, 104, 111, 114, 116]) = false := by rw [e1]; simpa using t0
              have b1 : ((Fld.str (fld hd 1)).toList == [108, 111, 110, 103]) = false := by rw [e1]; simpa using t1
              have b2 : ((Fld.str (fld hd 1)).toList == [110, 117, 109]) = false := by rw [e1]; simpa using t2
              have HX := hide HKK
              clear HKK t0 t1 t2 e1 h ok
              generalize Fld.str (fld hd 1) = r1 at *
              go_enter Tryz.func70, Tryz.ntmps70
              go_wp2_with (first | (go_at_call 80; refine (unhide HST).mono ?_; rintro e w2 ⟨rfl, rfl⟩) | (go_at_call 79; with_reducible (show Calls _ _ #[_, .bool false, _] _ _); refine (unhide HL _).mono ?_; rintro e w3 ⟨rfl, rfl⟩) | (go_at_call 69; refine (unhide HVV).mono ?_; rintro e w4 ⟨rfl, rfl⟩))
              exact ⟨rfl, Res.no (unhide HX) (unhide HKT _)⟩
      · have HX := hide (doKind_o (f := fld hd 1) (.inr (.inr hc)))
        have hcp : 0 < R.file.classes.length := List.length_pos_iff.2 hc
        have hci : (0 : Int) < (R.file.classes.length : Int) := by omega
        clear hz hall hst h e1 hsp hc
        generalize Fld.str (fld hd 1) = r1 at *
        go_enter Tryz.func70, Tryz.ntmps70
        go_wp2_with (first | (go_at_call 80; refine (unhide HST).mono ?_; rintro e w2 ⟨rfl, rfl⟩) | (go_at_call 79; with_reducible (show Calls _ _ #[_, .bool true, _] _ _); refine (unhide HVO).mono ?_; rintro e w3 ⟨rfl, rfl⟩))
        exact ⟨rfl, Res.no (unhide HX) (unhide HKT _)⟩
  · have HX := hide (doKind_o (f := fld hd 1) (.inl (hz.2 hall)))
    simp only [decide_eq_false hall] at h5
    clear hz hall h e1 hsp
    generalize Fld.str (fld hd 1) = r1 at *
    go_enter Tryz.func70, Tryz.ntmps70
    go_wp2_with (go_at_call 79; refine (unhide HVO).mono ?_; rintro e w3 ⟨rfl, rfl⟩)
    exact ⟨rfl, Res.no (unhide HX) (unhide HKT _)⟩
end Af
end Go.Proofs.YtlajdmjpobckhaaGreatDoor
/- The reader: a new one; its rows; the keywords. -/
namespace Go.Proofs.YtlajdmjpobckhaaGreatDoor
open Go.RowKit
namespace Af
open RowB
def nilP (fb pm hm : Nat) : Pts := ⟨fb, pm, hm, .slice none 0 0, .slice none 0 0, .slice none 0 0, .slice none 0 0, .slice none 0 0, .slice none 0 0, [], []⟩
def Fil0 : Fil := ⟨1, [], [], [0, 0, 0, 0, 0], 3, [], [], [], []⟩
def Rdr0 : Rdr := ⟨Fil0, [], 0, 0, []⟩
theorem ok0 : FilOk Fil0 := ⟨.inl rfl, rfl, by decide, by simp [Fil0], by simp [Fil0], by simp [Fil0], by simp [Fil0], by simp [Fil0], by simp [Fil0]⟩
def filA (pm : Nat) : Array Value := #[.int .i64 1, .string ⟨#[]⟩, .string ⟨#[]⟩, .int .u16 0, .int .u16 0, .int .u16 0, .int .u16 0, .int .u16 0, .int .i64 3, .slice none 0 0, .slice none 0 0, .slice none 0 0, .slice none 0 0, .map (some pm)]
def rdrA (fb hm : Nat) : Array Value := #[.pointer (some ⟨fb, 0, none⟩), .slice none 0 0, .int .i64 0, .int .i64 0, .map (some hm), .slice none 0 0]
theorem new_at (w : World) : RAt w.heap.size ((((w.alloc (.map #[] 0)).alloc (.cells (filA w.heap.size) 111)).alloc (.map #[] 0)).alloc (.cells (rdrA (w.heap.size + 1) (w.heap.size + 2)) 95)) (w.heap.size + 3) Rdr0 (nilP (w.heap.size + 1) w.heap.size (w.heap.size + 2)) := by
  have n0 := alloc_new w (.map #[] 0)
  have n1 := alloc_new (w.alloc (.map #[] 0)) (.cells (filA w.heap.size) 111)
  have n2 := alloc_new ((w.alloc (.map #[] 0)).alloc (.cells (filA w.heap.size) 111)) (.map #[] 0)
  have n3 := alloc_new (((w.alloc (.map #[] 0)).alloc (.cells (filA w.heap.size) 111)).alloc (.map #[] 0)) (.cells (rdrA (w.heap.size + 1) (w.heap.size + 2)) 95)
  simp only [World.size_alloc] at n1 n2 n3
  have m0 := MapF.made w 61
  have m2 := MapF.made ((w.alloc (.map #[] 0)).alloc (.cells (filA w.heap.size) 111)) 9
  simp only [World.size_alloc] at m2
  have e1 := alloc_heap1 (alloc_heap1 n1 (.map #[] 0)) (.cells (rdrA (w.heap.size + 1) (w.heap.size + 2)) 95)
  have hf : FAt w.heap.size ((((w.alloc (.map #[] 0)).alloc (.cells (filA w.heap.size) 111)).alloc (.map #[] 0)).alloc (.cells (rdrA (w.heap.size + 1) (w.heap.size + 2)) 95)) Fil0 (nilP (w.heap.size + 1) w.heap.size (w.heap.size + 2)) := by
    refine ⟨by simp [nilP], by simp [nilP], e1, ⟨0, Nat.zero_le _, ?_⟩, World.ownsRow_nil _ _ _ _, World.ownsRow_nil _ _ _ _, ⟨rfl, fun i v a h => by simp [nilP] at h⟩, World.ownsRow_nil _ _ _ _, World.ownsRow_nil _ _ _ _, ⟨rfl, fun i v a h => by simp [nilP] at h⟩, ok0⟩
    have := m0.kept (w' := (((w.alloc (.map #[] 0)).alloc (.cells (filA w.heap.size) 111)).alloc (.map #[] 0)).alloc (.cells (rdrA (w.heap.size + 1) (w.heap.size + 2)) 95)) ((alloc_heap1 (alloc_heap1 (alloc_heap1 n0 _) _) _).trans n0.symm)
    have e : (fun _ : Lit => (none : Option Value)) = plc Fil0.classes := by
      funext y
      unfold plc
      split <;> rfl
    rw [e] at this
    exact this
  refine ⟨by simp, by simp [nilP], n3, ⟨none, 0, rfl, Nat.le_refl _, Nat.zero_le _, fun _ => rfl, fun h => absurd rfl h⟩, ⟨0, Nat.zero_le _, ?_⟩, by simp [nilP], World.ownsRow_nil _ _ _ _, hf, ⟨by simp [Rdr0], by simp [Rdr0], by simp [Rdr0]⟩, fun p hp => by simp [Rdr0] at hp⟩
  have := m2.kept (w' := (((w.alloc (.map #[] 0)).alloc (.cells (filA w.heap.size) 111)).alloc (.map #[] 0)).alloc (.cells (rdrA (w.heap.size + 1) (w.heap.size + 2)) 95)) ((alloc_heap1 n2 _).trans n2.symm)
  have e : (fun _ : Lit => (none : Option Value)) = cnt Rdr0.heads := by
    funext y
    unfold cnt
    split
    · simp [Rdr0]
    · rfl
  rw [e] at this
  exact this
set_option maxHeartbeats 1000000 in
theorem newReader_any (w : World) : Calls Tryz.prog 34 #[] w fun e w' => e = .returned (ptr (w.heap.size + 3)) ∧ RAt w.heap.size w' (w.heap.size + 3) Rdr0 (nilP (w.heap.size + 1) w.heap.size (w.heap.size + 2)) ∧ Below w.heap.size w w' := by
  have hmm := @run_makeMap Tryz.prog
  go_enter Tryz.func34, Tryz.ntmps34
  go_wp2
  go_ret
  exact ⟨rfl, new_at w, ((((Below.refl _ w).alloc (Nat.le_refl _) _).alloc (by simp) _).alloc (by simp; omega) _).alloc (by simp; omega) _⟩
end Af
end Go.Proofs.YtlajdmjpobckhaaGreatDoor
/- Contract: lines.Split answers the lines of the text in a new list, or that it is too long, and turns nothing old in memory. -/
namespace Go.Proofs.YtlajdmjpobckhaaGreatDoor
open Go.RowKit Go.Shelf
namespace SplW
open FldW EachW
attribute [local go_sem] Oper.semAt_some

set_option maxHeartbeats 400000 in
theorem split_long (s : ByteArray) (w : World) (hs : 65536 < (s.size : Int)) :
    Calls Tryz.prog 68 #[.string s] w fun e w' => e = .returned (.tuple #[.slice none 0 0, .int .i64 10]) ∧ w' = w := by
  go_enter Tryz.func68, Tryz.ntmps68
  go_wp2
  go_ret2
  exact ⟨rfl, rfl⟩
set_option maxRecDepth 100000 in
set_option maxHeartbeats 2000000 in
theorem split_short (s : ByteArray) (w : World) (hs : s.size ≤ 65536) (hM : MaxIs w) :
    Calls Tryz.prog 68 #[.string s] w fun e w' => ∃ v, e = .returned (.tuple #[v, .int .i64 0]) ∧ w'.ownsRow w.heap.size 9 1 v (Ln.linesOf s.data.toList).length (vals (Ln.linesOf s.data.toList)) ∧ Below w.heap.size w w' := by
  have hs2 : ¬ (65536 : Int) < (s.size : Int) := by omega
  obtain ⟨i0, hi, hz0, hz1, hz2⟩ := info_parts info9
  refine (callsIn_wide (n := 3)).1 ?_
  refine callsIn_of_wp_marks Tryz.func68 rfl trivial ?_ rfl
  simp only [Tryz.ntmps68, List.size_toArray, List.length_cons, List.length_nil, Nat.reduceAdd, Nat.reduceSub, Array.replicate_succ, Array.replicate_zero, List.push_toArray, List.append_toArray, List.nil_append, List.cons_append]
  gi_wp2_with (refine ⟨trivial, ?_⟩; gi_at_call 83; refine (each_in _ s _).mono ?_; rintro e w' ⟨rfl, rfl⟩)
  have bO := Boxed.new w 22 (.slice none 0 0)
  have bN := Boxed.new (w.alloc (.cells #[.slice none 0 0] 22)) 9 (.string s)
  rw [World.size_alloc] at bN
  have hB0 : Below w.heap.size w ((w.alloc (.cells #[.slice none 0 0] 22)).alloc (.cells #[.string s] 9)) := ((Below.refl _ w).alloc (Nat.le_refl _) _).alloc (by simp) _
  have hg0 : 0 < w.heap.size := by
    obtain ⟨m, hm⟩ := hM
    exact World.block_lt_of_cell? w ⟨0, 0, none⟩ hm
  have hN : (gives s).length ≤ 65536 := by
    rw [show gives s = Ln.items s.data.toList from if_pos hs, Ln.items_length]
    have := Ln.linesOf_len s.data.toList
    simp at this
    omega
  refine wpIn_rangeFunc_ownG rfl (by omega) (gf := 104) (lb := #[.pointer (some ⟨w.heap.size + 1, 0, none⟩)]) rfl trivial (enters_of Tryz.func104 (by kernel_rfl) rfl)
    (each_stops _ (by omega) (w.heap.size + 1) w.heap.size s _ (by simp) hg0 (by simp; omega) bN.cell (hM.below hg0 hB0)) belowK_t (belowK_b (by simp; omega)) (Below.refl _ _) (fun _ => rfl)
    (fun pre W => (∃ v, Boxed W w.heap.size 22 v ∧ W.ownsRow w.heap.size 9 1 v pre.length ((raw pre).map fun x => Value.string x.2) ∧ True) ∧ Below w.heap.size w W)
    (fun _ _ _ => False)
    (OwnFrom.and (Own.from (holdsRow_own w.heap.size w.heap.size 22 9 1 (fun pre : List EachW.Item => pre.length) (fun pre => (raw pre).map fun x => Value.string x.2) (fun _ _ => True)) _) (ownFrom_below (Nat.le_refl _) (by simp; omega)))
    (fun _ _ _ _ _ hs _ _ => hs)
    ⟨⟨_, bO.alloc _, World.ownsRow_nil _ _ _ _, trivial⟩, hB0⟩
    (fun x => { tmps := #[.string s, undef, .slice none 0 0, .int .i64 0, .pointer (some ⟨w.heap.size, 0, none⟩), undef, .string x.1.2, .string s, .int .i64 s.size, .bool false, .string s, .func (.func 104) #[] #[.pointer (some ⟨w.heap.size + 1, 0, none⟩)], .int .i64 (x.1.1 : Int), .string x.1.2, undef, undef, undef, undef, undef], defers := [] }) ?assign ?body ?done ?stop
  case assign =>
    intro l x W K hK
    gi_wp2
    exact hK
  case body =>
    rintro l pre x W ⟨⟨v, hv, hrow, _⟩, hB⟩ hlt
    have hc := hv.cell
    gi_wp2_with (gi_at_builtin; refine wpListIn_append_own _ rfl _ _ 22 rfl w.heap.size 9 i0 (.string ByteArray.empty) 1 16 Tryz.underlying22 hi hz0 hz1 hz2 rfl (by decide) _ _ _ rfl (hrow.alloc _) ⟨W.heap.size, 0, none⟩ 1 1 [.string x.1.2] rfl rfl (cell_one_new _ _ _) (by simp [Value.oneCell']) (by unfold maxLen; omega) (by omega) (by have := hB.size; simp; omega) ?_; intro v' w1 hown' hgrow _; obtain ⟨g', cap', rfl⟩ := ownsRow_succ hown'; obtain ⟨hv1, hv2, hr2, hk2, hb2⟩ := hv.appended (by decide) hrow hB.size (Nat.le_refl _) hown' hgrow; have hc1 := hv1.cell; have hf1 := hv1.frozen)
    exact ⟨hk2.from _, hb2, ⟨_, hv2, by rw [raw_snoc, List.map_append, List.length_append]; exact hr2, trivial⟩, hB.trans hb2⟩
  case done =>
    rintro D ys W hD hys ⟨⟨v, hv, hrow, _⟩, hB⟩ hK
    have hc := hv.cell
    gi_wp2
    refine ⟨by simp, .inl ⟨_, _, rfl, run_takeDeferred hK, ?_⟩⟩
    refine ⟨_, results_tmp2 rfl _ _ _, v, rfl, ?_, hB.trans (belowK_b (w := w) (Nat.le_refl _) W D _ _ (by simp at hD; omega) hK rfl rfl)⟩
    have h := ownsRow_putObj hrow (.deferred none) hK rfl
    have e : gives s = Ln.items s.data.toList := if_pos hs
    rw [← raw_length, hys, e, Ln.items_length] at h
    have e2 : (Ln.items s.data.toList).map (fun x => Value.string x.2) = vals (Ln.linesOf s.data.toList) := by
      have := congrArg (List.map Value.string) (Ln.num_snd (Ln.linesOf s.data.toList) 1)
      simpa [vals, Ln.items, Function.comp_def] using this
    rw [e2] at h
    exact h
  case stop =>
    rintro D c pre W _ _ h _
    exact h.elim
end SplW
end Go.Proofs.YtlajdmjpobckhaaGreatDoor
/- The reader: its rows. -/
namespace Go.Proofs.YtlajdmjpobckhaaGreatDoor
open Go.RowKit
namespace Af
open RowB
theorem field_len (l : Bs) : (∀ f ∈ (Fld.st l).1, f.length ≤ l.length) ∧ (Fld.st l).2.length ≤ l.length := by
  refine Fld.snoc_ind (P := fun l => (∀ f ∈ (Fld.st l).1, f.length ≤ l.length) ∧ (Fld.st l).2.length ≤ l.length) ?_ ?_ l
  · simp [Fld.st_nil]
  · rintro l c ⟨h1, h2⟩
    rw [Fld.st_snoc]
    unfold Fld.stp
    by_cases hb : Fld.blank c = true
    · rw [if_pos hb]
      refine ⟨fun f hf => ?_, by simp⟩
      simp only at hf
      split at hf
      · have := h1 f hf; simp; omega
      · rcases List.mem_append.1 hf with q | q
        · have := h1 f q; simp; omega
        · simp at q; subst q; simp; omega
    · rw [if_neg hb]
      exact ⟨fun f hf => by have := h1 f hf; simp; omega, by simp; omega⟩
theorem fieldsOf_each (l : Bs) : ∀ f ∈ Fld.fieldsOf l, f.length ≤ l.length := by
  intro f hf
  obtain ⟨h1, h2⟩ := field_len l
  unfold Fld.fieldsOf Fld.fin at hf
  split at hf
  · exact h1 f hf
  · rcases List.mem_append.1 hf with q | q
    · exact h1 f q
    · simp at q; subst q; exact h2
theorem rows_ok (l : Bs) (h : l.length ≤ 65536) : RowsOk (Rw.rowsOf l) := by
  intro p hp
  unfold Rw.rowsOf Rw.rowsP at hp
  obtain ⟨x, hx, hp⟩ := List.mem_flatMap.1 hp
  obtain ⟨j, hj⟩ := List.getElem?_of_mem hx
  obtain ⟨q1, li, q2, q3⟩ := Ln.num_get _ _ _ _ hj
  have hjl := (List.getElem?_eq_some_iff.1 hj).1
  have hlen := Ln.items_length l
  have hl2 := Ln.linesOf_len l
  unfold Rw.rowOf at hp
  split at hp
  · cases hp
  · rename_i hne
    simp only [List.mem_singleton] at hp
    subst hp
    refine ⟨by show x.1 ≤ 65536; omega, fun e => hne (by show (Rw.keep _).isEmpty = true; rw [show Rw.keep (Fld.fieldsOf x.2.data.toList) = [] from e]; rfl), fun f hf => ?_⟩
    have hf2 : f ∈ Fld.fieldsOf x.2.data.toList := by
      have hf : f ∈ Rw.keep (Fld.fieldsOf x.2.data.toList) := hf
      rw [Rw.keep_take] at hf
      exact List.mem_of_mem_take hf
    have := fieldsOf_each _ f hf2
    rw [q3] at this
    have e : (Fld.str li).data.toList = li := by simp [Fld.str]
    rw [e] at this
    have := Ln.linesOf_each l h li (List.mem_of_getElem? q2)
    omega
theorem rows_few (l : Bs) : (Rw.rowsOf l).length ≤ l.length := by
  have := Rw.rowsP_len (Ln.items l)
  rw [Ln.items_length] at this
  exact Nat.le_trans this (Ln.linesOf_len l)
theorem fits_get {n : Nat} {W : World} : ∀ {E : List (Nat × Value)} {R : List (Nat × List Bs)}, Fits n W E R → ∀ (j : Nat) r, R[j]? = some r → ∃ e, E[j]? = some e ∧ e.1 = r.1 ∧ StrRow n W e.2 (r.2.map Fld.str)
  | [], [], _, j, r, h => by simp at h
  | [], _ :: _, h, _, _, _ => h.elim
  | _ :: _, [], h, _, _, _ => h.elim
  | e :: E, s :: R, h, 0, r, hj => by
    simp only [List.getElem?_cons_zero, Option.some.injEq] at hj
    subst hj
    exact ⟨e, rfl, h.1.1, h.1.2⟩
  | e :: E, s :: R, h, j + 1, r, hj => by
    rw [List.getElem?_cons_succ] at hj
    obtain ⟨e', h1, h2⟩ := fits_get h.2 j r hj
    exact ⟨e', by rw [List.getElem?_cons_succ]; exact h1, h2⟩
theorem rowsAt_of {B n : Nat} {W : World} {v : Value} {R : List (Nat × List Bs)} (h : RowsAre n 131 W v R) (hB : B ≤ n) (hne : ∀ p ∈ R, p.2 ≠ []) : RowsAt B W v R := by
  obtain ⟨E, hf, ho, -, -⟩ := h
  have hl := hf.length
  obtain ⟨hx, ⟨e1, e2⟩ | ⟨g, cap, cur, e1, h1, hg, h2, h3, h4, h5⟩⟩ := id ho
  · have : R = [] := by cases R with | nil => rfl | cons _ _ => simp at hl; omega
    subst this
    exact ⟨none, 0, e1, Nat.le_refl _, Nat.zero_le _, fun _ => rfl, fun h => absurd rfl h⟩
  · refine ⟨some ⟨g, 0, none⟩, cap, by rw [e1, hl], by omega, h3, (fun e => by cases e), fun _ => ⟨g, 0, cur, rfl, by omega, hg, fun j l fs hj => ?_⟩⟩
    obtain ⟨e, a1, a2, a3⟩ := fits_get hf j _ hj
    obtain ⟨b1, b2⟩ := cellsE_get E j e a1
    have hjl := (List.getElem?_eq_some_iff.1 a1).1
    have key : ∀ i, i < E.length * 2 → cur[i]? = (cellsE E)[i]? := fun i hi => by
      rw [← h5, List.getElem?_take_of_lt hi]
      simp
    refine ⟨e.2, ?_, ?_, a3.mono hB, hne _ (List.mem_of_getElem? hj)⟩
    · rw [Nat.zero_add, key _ (by omega), b1, a2]
    · rw [Nat.zero_add, key _ (by omega), b2]
theorem rows_slice {n : Nat} {t : TypeId} {W : World} {v : Value} {R : List (Nat × List Bs)} (h : RowsAre n t W v R) : ∃ a c m, v = .slice a m c := by
  obtain ⟨E, hf, ho, -, -⟩ := h
  obtain ⟨a, c, e, -, -⟩ := own_len ho
  exact ⟨a, c, _, e⟩
def cutR (R : Rdr) (l : Bs) : Rdr := { R with rows := Rw.rowsOf l, behind := (Ln.linesOf l).length + 1 }
theorem RAt.cut {B rb : Nat} {R : Rdr} {P : Pts} {w w1 : World} {v : Value} (h : RAt B w rb R P) (k : Below w.heap.size w w1) (l : Bs) (hl : l.length ≤ 65536) (hr : RowsAre w.heap.size 131 w1 v (Rw.rowsOf l)) :
    RAt B ((w1.setCell ⟨rb, 1, none⟩ v).setCell ⟨rb, 3, none⟩ (.int .i64 (((Ln.linesOf l).length + 1 : Nat)))) rb (cutR R l) { P with rv := v } ∧ Kt B P.pm P.hm w ((w1.setCell ⟨rb, 1, none⟩ v).setCell ⟨rb, 3, none⟩ (.int .i64 (((Ln.linesOf l).length + 1 : Nat)))) := by
  have h1 := h.below k
  have kp : Kp rb w1 ((w1.setCell ⟨rb, 1, none⟩ v).setCell ⟨rb, 3, none⟩ (.int .i64 (((Ln.linesOf l).length + 1 : Nat)))) := kp_trans (kp_set w1 rb 1 _) (kp_set _ rb 3 _)
  have hlen := Ln.linesOf_len l
  refine ⟨h1.turn kp (set_heap1 (set_heap1 h1.rdr _) _) ?_ (own_kept h1.lns (kp.kept h1.rdr (ne_cells (by decide)))) rfl rfl rfl ⟨by show (Ln.linesOf l).length + 1 ≤ 65537; omega, h.few.2.2⟩ (rows_ok l hl), ?_⟩
  · exact rows_kept (rowsAt_of hr h.base (fun p hp => (rows_ok l hl p hp).2.1)) (kp.kept h1.rdr (ne_cells (by decide))) (kp.kept h1.rdr (ne_cells (by decide)))
  · exact (Kt.of_below k h.base).trans (Kt.of_kp kp (((Below.refl B w1).setCell (p := ⟨rb, 1, none⟩) h.rbB _).setCell (p := ⟨rb, 3, none⟩) h.rbB _) h1.rdr (by decide))
set_option maxHeartbeats 1000000 in
theorem cut_any {B rb : Nat} {R : Rdr} {P : Pts} {w : World} (h : RAt B w rb R P) (hM : Mx B w) (s : ByteArray) :
    Calls Tryz.prog 53 #[ptr rb, .string s] w (Res B rb P w (if 65536 < s.data.toList.length then .error (R.line, 10) else .ok (cutR R s.data.toList))) := by
  obtain ⟨d0, d1, hl, d3, -, -, dz⟩ := h.cells
  have hb := h.lt
  have hz : s.data.toList.length = s.size := by simp
  by_cases hq : 65536 < s.size
  · have HS := hide (fun W => SplW.split_long s W (by omega))
    have HV := hide (leave_no rb R.line 10 w (by decide) (by decide) hl)
    rw [if_pos (by omega)]
    have HB := hide h.base
    clear h hM d0 d1 hl d3 hz hq
    go_enter Tryz.func53, Tryz.ntmps53
    go_wp2_with (first | (go_at_call 68; refine (unhide HS _).mono ?_; rintro e w2 ⟨rfl, rfl⟩) | (go_at_call 69; refine (unhide HV).mono ?_; rintro e w3 ⟨rfl, rfl⟩))
    exact ⟨rfl, Res.no rfl (Kt.refl _ _ _ _)⟩
  · rw [if_neg (by omega)]
    have HS := hide (SplW.split_short s w (by omega) hM.ea)
    have HRW := hide (fun W (b : Below w.heap.size w W) => RowW.rows_short s W (by omega) (hM.low (b.mono h.base)).ea)
    have HL := hide (fun W => leave_ok (ptr rb) W)
    have HC : Hid (∀ w0, Below w.heap.size w w0 → w0.cell? ⟨rb, 1, none⟩ = some P.rv ∧ w0.cell? ⟨rb, 3, none⟩ = some (.int .i64 (R.behind : Nat)) ∧ rb < w0.heap.size ∧ ∀ j, w0.frozen? ⟨rb, j, none⟩ = false) := fun w0 b => by
      have h0 := h.below b
      exact ⟨h0.cells.2.1, h0.cells.2.2.2.1, h0.lt, h0.cells.2.2.2.2.2.2⟩
    have HK := hide (fun w0 w1 (b : Below w.heap.size w w0) (c : Below w0.heap.size w0 w1) v hr => (h.below b).cut c s.data.toList (by omega) (v := v) hr)
    have HB := hide h.base
    have hsm := Ln.linesOf_len s.data.toList
    obtain ⟨N, hN⟩ : ∃ N, (Ln.linesOf s.data.toList).length = N := ⟨_, rfl⟩
    have HNN := hide hN
    rw [hN] at hsm HS HK
    have hsm2 : N ≤ 65536 := by omega
    clear h hM d0 d1 hl d3 hz hq dz hN hsm
    go_enter Tryz.func53, Tryz.ntmps53
    go_wp2_with (first | (go_at_call 68; refine (unhide HS).mono ?_; rintro e w2 ⟨v, rfl, o2, b2⟩; obtain ⟨av, cv, rfl, -, -⟩ := own_len o2; have HB2 := hide b2; clear o2 b2) | (go_at_call 69; refine (unhide HL _).mono ?_; rintro e w3 ⟨rfl, rfl⟩) | (go_at_call 57; refine (unhide HRW _ (unhide HB2)).mono ?_; rintro e w4 ⟨v4, rfl, o4, b4⟩; obtain ⟨av4, cv4, n4, rfl⟩ := rows_slice o4; obtain ⟨f1, f2, f3, f4⟩ := unhide HC _ (btr (unhide HB2) b4); have HB4 := hide b4; have HO4 := hide o4; clear o4 b4))
    go_end0
    obtain ⟨hr, kt⟩ := unhide HK _ _ (unhide HB2) (unhide HB4) _ (unhide HO4)
    rw [show ((N + 1 : Nat) : Int) = (N : Int) + 1 by omega] at hr kt
    exact Res.yes rfl ((Kt.of_below (unhide HB2) (unhide HB)).trans kt) hr rfl rfl rfl
end Af
end Go.Proofs.YtlajdmjpobckhaaGreatDoor
/- The reader: the keywords. -/
namespace Go.Proofs.YtlajdmjpobckhaaGreatDoor
open Go.RowKit
namespace Af
open RowB
def kwV (n : Int) (a : Bool) (f : FuncId) (i : Int) : Value := .agg #[.int .i64 n, .bool a, .func (.func f) #[] #[], .int .i64 i]
/-- what a list of keywords says -/
def kwF (L : List (Bs × Value)) : Lit → Option Value
  | .string s => (L.find? fun p => p.1 == s).map (·.2)
  | _ => none
theorem kwF_snoc (L : List (Bs × Value)) (k : Bs) (v : Value) (h : (L.any fun p => p.1 == k) = false) : kwF (L ++ [(k, v)]) (.string k) = some v ∧ ∀ y, y ≠ .string k → kwF (L ++ [(k, v)]) y = kwF L y := by
  refine ⟨?_, fun y hy => ?_⟩
  · show ((L ++ [(k, v)]).find? fun p => p.1 == k).map (·.2) = some v
    rw [List.find?_append]
    have : L.find? (fun p => p.1 == k) = none := by
      rw [List.find?_eq_none]
      intro p hp
      have := List.any_eq_false.1 h p hp
      simpa using this
    simp [this]
  · cases y with
    | string s =>
      have hne : (k == s) = false := by
        rw [beq_eq_false_iff_ne]
        rintro rfl
        exact hy rfl
      show ((L ++ [(k, v)]).find? fun p => p.1 == s).map (·.2) = (L.find? fun p => p.1 == s).map (·.2)
      rw [List.find?_append]
      cases hq : L.find? (fun p => p.1 == s) with
      | none => simp [hne]
      | some q => simp
    | _ => rfl
def kwL0 : List (Bs × Value) := []
def kwL1 : List (Bs × Value) := kwL0 ++ [([70, 76, 65, 71], kwV 2 false 70 0)]
def kwL2 : List (Bs × Value) := kwL1 ++ [([83, 69, 84], kwV 2 false 71 0)]
def kwL3 : List (Bs × Value) := kwL2 ++ [([84, 82, 89], kwV 2 false 72 0)]
def kwL4 : List (Bs × Value) := kwL3 ++ [([78, 69, 69, 68, 65, 70, 70, 73, 88], kwV 2 false 73 0)]
def kwL5 : List (Bs × Value) := kwL4 ++ [([70, 79, 82, 66, 73, 68, 68, 69, 78, 87, 79, 82, 68], kwV 2 false 73 1)]
def kwL6 : List (Bs × Value) := kwL5 ++ [([75, 69, 69, 80, 67, 65, 83, 69], kwV 2 false 73 2)]
def kwL7 : List (Bs × Value) := kwL6 ++ [([67, 79, 77, 80, 79, 85, 78, 68, 70, 76, 65, 71], kwV 2 false 73 3)]
def kwL8 : List (Bs × Value) := kwL7 ++ [([78, 79, 83, 85, 71, 71, 69, 83, 84], kwV 2 false 73 4)]
def kwL9 : List (Bs × Value) := kwL8 ++ [([67, 79, 77, 80, 79, 85, 78, 68, 77, 73, 78], kwV 2 false 74 0)]
def kwL10 : List (Bs × Value) := kwL9 ++ [([82, 69, 80], kwV 2 false 75 0)]
def kwL11 : List (Bs × Value) := kwL10 ++ [([65, 70], kwV 2 false 76 0)]
def kwL12 : List (Bs × Value) := kwL11 ++ [([80, 70, 88], kwV 4 true 77 1)]
def kwL13 : List (Bs × Value) := kwL12 ++ [([83, 70, 88], kwV 4 true 77 2)]
set_option maxRecDepth 100000 in
set_option maxHeartbeats 2000000 in
theorem keywords_any (w : World) : Calls Tryz.prog 54 #[] w fun e w' => e = .returned (.map (some w.heap.size)) ∧ (∃ n, MapF w' 9 w.heap.size n (kwF kwL13)) ∧ Below w.heap.size w w' := by
  have hmm := @run_makeMap Tryz.prog
  have m0 : MapF (w.alloc (.map #[] 0)) 9 w.heap.size 0 (kwF kwL0) := by
    have := MapF.made w 9
    have e : (fun _ : Lit => (none : Option Value)) = kwF kwL0 := by
      funext y
      cases y <;> rfl
    rw [e] at this
    exact this
  have b0 : Below w.heap.size w (w.alloc (.map #[] 0)) := (Below.refl _ w).alloc (Nat.le_refl _) _
  obtain ⟨w1, r1, p1, g1⟩ := m0.put (t := 125) (key := .string ⟨#[70, 76, 65, 71]⟩) (kl := .string [70, 76, 65, 71]) law9 Tryz.underlying125 (by unfold maxLen; omega) (key9 (s := ⟨#[70, 76, 65, 71]⟩) (by decide)) trivial (kwV 2 false 70 0)
  have m1 := p1 (kwF kwL1) (kwF_snoc kwL0 [70, 76, 65, 71] _ (by decide)).1 (kwF_snoc kwL0 [70, 76, 65, 71] _ (by decide)).2
  have b1 : Below w.heap.size w w1 := b0.grown g1 b0.size (fun k hk => by injection hk with hk; omega)
  obtain ⟨w2, r2, p2, g2⟩ := m1.put (t := 125) (key := .string ⟨#[83, 69, 84]⟩) (kl := .string [83, 69, 84]) law9 Tryz.underlying125 (by unfold maxLen; omega) (key9 (s := ⟨#[83, 69, 84]⟩) (by decide)) trivial (kwV 2 false 71 0)
  have m2 := p2 (kwF kwL2) (kwF_snoc kwL1 [83, 69, 84] _ (by decide)).1 (kwF_snoc kwL1 [83, 69, 84] _ (by decide)).2
  have b2 : Below w.heap.size w w2 := b1.grown g2 b1.size (fun k hk => by injection hk with hk; omega)
  obtain ⟨w3, r3, p3, g3⟩ := m2.put (t := 125) (key := .string ⟨#[84, 82, 89]⟩) (kl := .string [84, 82, 89]) law9 Tryz.underlying125 (by unfold maxLen; omega) (key9 (s := ⟨#[84, 82, 89]⟩) (by decide)) trivial (kwV 2 false 72 0)
  have m3 := p3 (kwF kwL3) (kwF_snoc kwL2 [84, 82, 89] _ (by decide)).1 (kwF_snoc kwL2 [84, 82, 89] _ (by decide)).2
  have b3 : Below w.heap.size w w3 := b2.grown g3 b2.size (fun k hk => by injection hk with hk; omega)
  obtain ⟨w4, r4, p4, g4⟩ := m3.put (t := 125) (key := .string ⟨#[78, 69, 69, 68, 65, 70, 70, 73, 88]⟩) (kl := .string [78, 69, 69, 68, 65, 70, 70, 73, 88]) law9 Tryz.underlying125 (by unfold maxLen; omega) (key9 (s := ⟨#[78, 69, 69, 68, 65, 70, 70, 73, 88]⟩) (by decide)) trivial (kwV 2 false 73 0)
  have m4 := p4 (kwF kwL4) (kwF_snoc kwL3 [78, 69, 69, 68, 65, 70, 70, 73, 88] _ (by decide)).1 (kwF_snoc kwL3 [78, 69, 69, 68, 65, 70, 70, 73, 88] _ (by decide)).2
  have b4 : Below w.heap.size w w4 := b3.grown g4 b3.size (fun k hk => by injection hk with hk; omega)
  obtain ⟨w5, r5, p5, g5⟩ := m4.put (t := 125) (key := .string ⟨#[70, 79, 82, 66, 73, 68, 68, 69, 78, 87, 79, 82, 68]⟩) (kl := .string [70, 79, 82, 66, 73, 68, 68, 69, 78, 87, 79, 82, 68]) law9 Tryz.underlying125 (by unfold maxLen; omega) (key9 (s := ⟨#[70, 79, 82, 66, 73, 68, 68, 69, 78, 87, 79, 82, 68]⟩) (by decide)) trivial (kwV 2 false 73 1)
  have m5 := p5 (kwF kwL5) (kwF_snoc kwL4 [70, 79, 82, 66, 73, 68, 68, 69, 78, 87, 79, 82, 68] _ (by decide)).1 (kwF_snoc kwL4 [70, 79, 82, 66, 73, 68, 68, 69, 78, 87, 79, 82, 68] _ (by decide)).2
  have b5 : Below w.heap.size w w5 := b4.grown g5 b4.size (fun k hk => by injection hk with hk; omega)
  obtain ⟨w6, r6, p6, g6⟩ := m5.put (t := 125) (key := .string ⟨#[75, 69, 69, 80, 67, 65, 83, 69]⟩) (kl := .string [75, 69, 69, 80, 67, 65, 83, 69]) law9 Tryz.underlying125 (by unfold maxLen; omega) (key9 (s := ⟨#[75, 69, 69, 80, 67, 65, 83, 69]⟩) (by decide)) trivial (kwV 2 false 73 2)
  have m6 := p6 (kwF kwL6) (kwF_snoc kwL5 [75, 69, 69, 80, 67, 65, 83, 69] _ (by decide)).1 (kwF_snoc kwL5 [75, 69, 69, 80, 67, 65, 83, 69] _ (by decide)).2
  have b6 : Below w.heap.size w w6 := b5.grown g6 b5.size (fun k hk => by injection hk with hk; omega)
  obtain ⟨w7, r7, p7, g7⟩ := m6.put (t := 125) (key := .string ⟨#[67, 79, 77, 80, 79, 85, 78, 68, 70, 76, 65, 71]⟩) (kl := .string [67, 79, 77, 80, 79, 85, 78, 68, 70, 76, 65, 71]) law9 Tryz.underlying125 (by unfold maxLen; omega) (key9 (s := ⟨#[67, 79, 77, 80, 79, 85, 78, 68, 70, 76, 65, 71]⟩) (by decide)) trivial (kwV 2 false 73 3)
  have m7 := p7 (kwF kwL7) (kwF_snoc kwL6 [67, 79, 77, 80, 79, 85, 78, 68, 70, 76, 65, 71] _ (by decide)).1 (kwF_snoc kwL6 [67, 79, 77, 80, 79, 85, 78, 68, 70, 76, 65, 71] _ (by decide)).2
  have b7 : Below w.heap.size w w7 := b6.grown g7 b6.size (fun k hk => by injection hk with hk; omega)
  obtain ⟨w8, r8, p8, g8⟩ := m7.put (t := 125) (key := .string ⟨#[78, 79, 83, 85, 71, 71, 69, 83, 84]⟩) (kl := .string [78, 79, 83, 85, 71, 71, 69, 83, 84]) law9 Tryz.underlying125 (by unfold maxLen; omega) (key9 (s := ⟨#[78, 79, 83, 85, 71, 71, 69, 83, 84]⟩) (by decide)) trivial (kwV 2 false 73 4)
  have m8 := p8 (kwF kwL8) (kwF_snoc kwL7 [78, 79, 83, 85, 71, 71, 69, 83, 84] _ (by decide)).1 (kwF_snoc kwL7 [78, 79, 83, 85, 71, 71, 69, 83, 84] _ (by decide)).2
  have b8 : Below w.heap.size w w8 := b7.grown g8 b7.size (fun k hk => by injection hk with hk; omega)
  obtain ⟨w9, r9, p9, g9⟩ := m8.put (t := 125) (key := .string ⟨#[67, 79, 77, 80, 79, 85, 78, 68, 77, 73, 78]⟩) (kl := .string [67, 79, 77, 80, 79, 85, 78, 68, 77, 73, 78]) law9 Tryz.underlying125 (by unfold maxLen; omega) (key9 (s := ⟨#[67, 79, 77, 80, 79, 85, 78, 68, 77, 73, 78]⟩) (by decide)) trivial (kwV 2 false 74 0)
  have m9 := p9 (kwF kwL9) (kwF_snoc kwL8 [67, 79, 77, 80, 79, 85, 78, 68, 77, 73, 78] _ (by decide)).1 (kwF_snoc kwL8 [67, 79, 77, 80, 79, 85, 78, 68, 77, 73, 78] _ (by decide)).2
  have b9 : Below w.heap.size w w9 := b8.grown g9 b8.size (fun k hk => by injection hk with hk; omega)
  obtain ⟨w10, r10, p10, g10⟩ := m9.put (t := 125) (key := .string ⟨#[82, 69, 80]⟩) (kl := .string [82, 69, 80]) law9 Tryz.underlying125 (by unfold maxLen; omega) (key9 (s := ⟨#[82, 69, 80]⟩) (by decide)) trivial (kwV 2 false 75 0)
  have m10 := p10 (kwF kwL10) (kwF_snoc kwL9 [82, 69, 80] _ (by decide)).1 (kwF_snoc kwL9 [82, 69, 80] _ (by decide)).2
  have b10 : Below w.heap.size w w10 := b9.grown g10 b9.size (fun k hk => by injection hk with hk; omega)
  obtain ⟨w11, r11, p11, g11⟩ := m10.put (t := 125) (key := .string ⟨#[65, 70]⟩) (kl := .string [65, 70]) law9 Tryz.underlying125 (by unfold maxLen; omega) (key9 (s := ⟨#[65, 70]⟩) (by decide)) trivial (kwV 2 false 76 0)
  have m11 := p11 (kwF kwL11) (kwF_snoc kwL10 [65, 70] _ (by decide)).1 (kwF_snoc kwL10 [65, 70] _ (by decide)).2
  have b11 : Below w.heap.size w w11 := b10.grown g11 b10.size (fun k hk => by injection hk with hk; omega)
  obtain ⟨w12, r12, p12, g12⟩ := m11.put (t := 125) (key := .string ⟨#[80, 70, 88]⟩) (kl := .string [80, 70, 88]) law9 Tryz.underlying125 (by unfold maxLen; omega) (key9 (s := ⟨#[80, 70, 88]⟩) (by decide)) trivial (kwV 4 true 77 1)
  have m12 := p12 (kwF kwL12) (kwF_snoc kwL11 [80, 70, 88] _ (by decide)).1 (kwF_snoc kwL11 [80, 70, 88] _ (by decide)).2
  have b12 : Below w.heap.size w w12 := b11.grown g12 b11.size (fun k hk => by injection hk with hk; omega)
  obtain ⟨w13, r13, p13, g13⟩ := m12.put (t := 125) (key := .string ⟨#[83, 70, 88]⟩) (kl := .string [83, 70, 88]) law9 Tryz.underlying125 (by unfold maxLen; omega) (key9 (s := ⟨#[83, 70, 88]⟩) (by decide)) trivial (kwV 4 true 77 2)
  have m13 := p13 (kwF kwL13) (kwF_snoc kwL12 [83, 70, 88] _ (by decide)).1 (kwF_snoc kwL12 [83, 70, 88] _ (by decide)).2
  have b13 : Below w.heap.size w w13 := b12.grown g13 b12.size (fun k hk => by injection hk with hk; omega)
  have HM := hide m13
  have HB := hide b13
  unfold kwV at r1 r2 r3 r4 r5 r6 r7 r8 r9 r10 r11 r12 r13
  clear m1 p1 g1 b1 m2 p2 g2 b2 m3 p3 g3 b3 m4 p4 g4 b4 m5 p5 g5 b5 m6 p6 g6 b6 m7 p7 g7 b7 m8 p8 g8 b8 m9 p9 g9 b9 m10 p10 g10 b10 m11 p11 g11 b11 m12 p12 g12 b12 m13 p13 g13 b13 m0 b0
  go_enter Tryz.func54, Tryz.ntmps54
  go_wp2
  go_ret
  exact ⟨rfl, ⟨_, unhide HM⟩, unhide HB⟩
end Af
end Go.Proofs.YtlajdmjpobckhaaGreatDoor
/- The reader: what a heading's key does, plain; a keyword is counted; which function reads it. -/
namespace Go.Proofs.YtlajdmjpobckhaaGreatDoor
open Go.RowKit
namespace Af
open RowB
/-! plain: what stays -/
theorem times_rel {f : Rdr → Except Er Rdr} {rel : Rdr → Rdr → Prop} (rf : ∀ R, rel R R) (tr : ∀ a b c, rel a b → rel b c → rel a c) (hf : ∀ R R', f R = .ok R' → rel R R') : ∀ (n : Nat) (R R' : Rdr), times f n R = .ok R' → rel R R'
  | 0, R, R', h => by
    simp only [times, Except.ok.injEq] at h
    subst h
    exact rf _
  | n + 1, R, R', h => by
    rw [times] at h
    cases hq : f R with
    | error e => rw [hq] at h; cases h
    | ok R1 => rw [hq] at h; exact tr _ _ _ (hf _ _ hq) (times_rel rf tr hf n R1 R' h)
structure Mo (R R' : Rdr) : Prop where
  heads : R'.heads = R.heads
  rows : R'.rows.length ≤ R.rows.length
  cls : R'.file.classes = R.file.classes
theorem Mo.refl (R : Rdr) : Mo R R := ⟨rfl, Nat.le_refl _, rfl⟩
theorem Mo.trans {a b c : Rdr} (h : Mo a b) (k : Mo b c) : Mo a c := ⟨k.heads.trans h.heads, Nat.le_trans k.rows h.rows, k.cls.trans h.cls⟩
theorem grow_mo {R R1 : Rdr} {beg row : List Bs} (h : grow R beg = .ok (row, R1)) : Mo R R1 ∧ R1.file = R.file := by
  obtain ⟨l, t, h1, h2⟩ := grow_fld h
  subst h2
  exact ⟨⟨rfl, by rw [h1]; simp, rfl⟩, rfl⟩
theorem repStep_mo {key : Bs} {R R' : Rdr} (h : repStep key R = .ok R') : Mo R R' ∧ R'.file.aliases = R.file.aliases := by
  unfold repStep at h
  split at h
  · cases h
  · rename_i row R1 hg
    obtain ⟨m, e⟩ := grow_mo hg
    split at h
    · cases h
    · injection h with h
      subst h
      exact ⟨⟨m.heads, m.rows, m.cls⟩, by rw [e]⟩
theorem aliStep_mo {key : Bs} {R R' : Rdr} (h : aliStep key R = .ok R') : Mo R R' ∧ R'.file.reps = R.file.reps := by
  unfold aliStep at h
  split at h
  · cases h
  · rename_i row R1 hg
    obtain ⟨m, e⟩ := grow_mo hg
    split at h
    · cases h
    · injection h with h
      subst h
      exact ⟨⟨m.heads, m.rows, m.cls⟩, by rw [e]⟩
theorem rulStep_mo {beg : List Bs} {c : Cls} {R R' : Rdr} (h : rulStep beg c R = .ok R') : Mo R R' ∧ R'.file.reps = R.file.reps ∧ R'.file.aliases = R.file.aliases := by
  unfold rulStep at h
  split at h
  · cases h
  · rename_i row R1 hg
    obtain ⟨m, e⟩ := grow_mo hg
    split at h
    · cases h
    · injection h with h
      subst h
      exact ⟨⟨m.heads, m.rows, m.cls⟩, by rw [e], by rw [e]⟩
/-- what a key does -/
structure Kd (R R' : Rdr) (k : Key) : Prop where
  heads : R'.heads = R.heads
  rows : R'.rows.length ≤ R.rows.length
  cls : R'.file.classes.length ≤ R.file.classes.length + 1
  reps : k ≠ .reps → R'.file.reps = R.file.reps
  alis : k ≠ .aliases → R'.file.aliases = R.file.aliases
theorem doKey_kd {R R' : Rdr} {h : List Bs} {k : Key} (hk : doKey R h k = .ok R') : Kd R R' k := by
  cases k with
  | kind =>
    simp only [doKey, doKind] at hk
    repeat' split at hk
    all_goals first | (cases hk; done) | (injection hk with hk; subst hk; exact ⟨rfl, Nat.le_refl _, Nat.le_succ _, fun _ => rfl, fun _ => rfl⟩)
  | charset =>
    simp only [doKey, doCharset] at hk
    split at hk
    · injection hk with hk; subst hk; exact ⟨rfl, Nat.le_refl _, Nat.le_succ _, fun _ => rfl, fun _ => rfl⟩
    · cases hk
  | letters =>
    simp only [doKey, doLetters] at hk
    split at hk
    · injection hk with hk; subst hk; exact ⟨rfl, Nat.le_refl _, Nat.le_succ _, fun _ => rfl, fun _ => rfl⟩
    · cases hk
  | special i =>
    simp only [doKey, doSpecial] at hk
    split at hk
    · cases hk
    · injection hk with hk; subst hk; exact ⟨rfl, Nat.le_refl _, Nat.le_succ _, fun _ => rfl, fun _ => rfl⟩
  | least =>
    simp only [doKey, doLeast] at hk
    repeat' split at hk
    all_goals first | (cases hk; done) | (injection hk with hk; subst hk; exact ⟨rfl, Nat.le_refl _, Nat.le_succ _, fun _ => rfl, fun _ => rfl⟩)
  | reps =>
    simp only [doKey, doReps] at hk
    split at hk
    · cases hk
    · have m := times_rel (rel := fun R R' => Mo R R' ∧ R'.file.aliases = R.file.aliases) (fun R => ⟨Mo.refl R, rfl⟩) (fun a b c x y => ⟨x.1.trans y.1, y.2.trans x.2⟩) (fun R R' q => repStep_mo q) _ _ _ hk
      exact ⟨m.1.heads, m.1.rows, by rw [m.1.cls]; exact Nat.le_succ _, fun x => absurd rfl x, fun _ => m.2⟩
  | aliases =>
    simp only [doKey, doAliases] at hk
    split at hk
    · cases hk
    · split at hk
      · cases hk
      · have m := times_rel (rel := fun R R' => Mo R R' ∧ R'.file.reps = R.file.reps) (fun R => ⟨Mo.refl R, rfl⟩) (fun a b c x y => ⟨x.1.trans y.1, y.2.trans x.2⟩) (fun R R' q => aliStep_mo q) _ _ _ hk
        exact ⟨m.1.heads, m.1.rows, by rw [m.1.cls]; exact Nat.le_succ _, fun _ => m.2, fun x => absurd rfl x⟩
  | cls kk =>
    simp only [doKey, doClass] at hk
    split at hk
    · cases hk
    · split at hk
      · cases hk
      · split at hk
        · cases hk
        · split at hk
          · cases hk
          · have m := times_rel (rel := fun R R' => Mo R R' ∧ R'.file.reps = R.file.reps ∧ R'.file.aliases = R.file.aliases) (fun R => ⟨Mo.refl R, rfl, rfl⟩) (fun a b c x y => ⟨x.1.trans y.1, y.2.1.trans x.2.1, y.2.2.trans x.2.2⟩) (fun R R' q => rulStep_mo q) _ _ _ hk
            exact ⟨m.1.heads, m.1.rows, by rw [m.1.cls]; simp, fun _ => m.2.1, fun _ => m.2.2⟩
/-- what holds of a reader between two headings -/
structure Inv (R : Rdr) : Prop where
  cls : R.file.classes.length ≤ R.heads.length
  few : R.heads.length + R.rows.length ≤ 65536
  reps : [82, 69, 80] ∉ R.heads → R.file.reps = []
  alis : [65, 70] ∉ R.heads → R.file.aliases = []
theorem kw_reps {s : Bs} {k : Kw} (h : kwOf s = some k) (hk : k.key = .reps) : s = [82, 69, 80] ∧ k.again = false ∧ k.fields = 2 := by
  unfold kwOf at h
  obtain ⟨p, hp, rfl⟩ := Option.map_eq_some_iff.1 h
  have hm := List.mem_of_find?_eq_some hp
  have hs : p.1 = s := by simpa using List.find?_some hp
  subst hs
  simp [kws] at hm
  rcases hm with rfl | rfl | rfl | rfl | rfl | rfl | rfl | rfl | rfl | rfl | rfl | rfl | rfl <;> first | (cases hk; done) | exact ⟨rfl, rfl, rfl⟩
theorem kw_alis {s : Bs} {k : Kw} (h : kwOf s = some k) (hk : k.key = .aliases) : s = [65, 70] ∧ k.again = false ∧ k.fields = 2 := by
  unfold kwOf at h
  obtain ⟨p, hp, rfl⟩ := Option.map_eq_some_iff.1 h
  have hm := List.mem_of_find?_eq_some hp
  have hs : p.1 = s := by simpa using List.find?_some hp
  subst hs
  simp [kws] at hm
  rcases hm with rfl | rfl | rfl | rfl | rfl | rfl | rfl | rfl | rfl | rfl | rfl | rfl | rfl <;> first | (cases hk; done) | exact ⟨rfl, rfl, rfl⟩
theorem heading_inv {R R' : Rdr} {l : Nat} {hd : List Bs} {t : List (Nat × List Bs)} (hi : Inv R) (hr : R.rows = (l, hd) :: t) (h : heading { R with rows := t } l hd = .ok R') : Inv R' ∧ R'.rows.length ≤ t.length := by
  unfold heading at h
  split at h
  · cases h
  · rename_i k hk
    split at h
    · cases h
    · split at h
      · cases h
      · rename_i hag
        split at h
        · cases h
        · rename_i R2 hd2
          injection h with h
          subst h
          have d := doKey_kd hd2
          have hl := hi.few
          have hc := hi.cls
          rw [hr, List.length_cons] at hl
          have e1 : R2.heads = R.heads := d.heads
          have e2 : R2.rows.length ≤ t.length := d.rows
          have e3 : R2.file.classes.length ≤ R.file.classes.length + 1 := d.cls
          refine ⟨⟨?_, ?_, fun hn => ?_, fun hn => ?_⟩, e2⟩
          · simp only [List.length_append, List.length_singleton, e1]; omega
          · simp only [List.length_append, List.length_singleton, e1]; omega
          · simp only [List.mem_append, List.mem_singleton, not_or, e1] at hn
            have : k.key ≠ .reps := fun q => hn.2 (kw_reps hk q).1.symm
            exact (d.reps this).trans (hi.reps hn.1)
          · simp only [List.mem_append, List.mem_singleton, not_or, e1] at hn
            have : k.key ≠ .aliases := fun q => hn.2 (kw_alis hk q).1.symm
            exact (d.alis this).trans (hi.alis hn.1)
/-! which function reads it -/
def fnOf : Key → FuncId
  | .kind => 70
  | .charset => 71
  | .letters => 72
  | .special _ => 73
  | .least => 74
  | .reps => 75
  | .aliases => 76
  | .cls _ => 77
def whOf : Key → Int
  | .special i => i
  | .cls k => k
  | _ => 0
def kval (k : Kw) : Value := kwV k.fields k.again (fnOf k.key) (whOf k.key)
theorem kw_table : kwL13 = kws.map fun p => (p.1, kval p.2) := by rfl
theorem kwF_of (s : Bs) : kwF kwL13 (.string s) = (kwOf s).map kval := by
  show (kwL13.find? fun p => p.1 == s).map (·.2) = _
  rw [kw_table, List.find?_map]
  unfold kwOf
  simp only [Option.map_map]
  rfl
theorem ent_fn (k : Key) (x y z : Value) (W : World) : Sem.run Tryz.prog (callFunc (fnOf k) #[x, y, z]) W = .ok (.enter (fnOf k) #[x, y, z]) W := by
  cases k <;> kernel_rfl
/-- a key's function does what the key does -/
theorem dispatch {B rb : Nat} {R : Rdr} {P : Pts} {w : World} {s : Bs} {k : Kw} (hk : kwOf s = some k) (h : RAt B w rb R P) (hM : Mx B w) (hd : List Bs) (hv : Value) (hrow : StrRow B w hv (hd.map Fld.str)) (hlen : hd.length = k.fields) (hf : ∀ f ∈ hd, f.length ≤ 65536)
    (hcn : R.file.classes.length ≤ 65536) (hre : k.key = .reps → R.file.reps = []) (hal : k.key = .aliases → R.file.aliases = []) :
    Calls Tryz.prog (fnOf k.key) #[ptr rb, hv, .int .i64 (whOf k.key)] w (Res B rb P w (doKey R hd k.key)) := by
  unfold kwOf at hk
  obtain ⟨p, hp, rfl⟩ := Option.map_eq_some_iff.1 hk
  have hm := List.mem_of_find?_eq_some hp
  simp [kws] at hm
  rcases hm with rfl | rfl | rfl | rfl | rfl | rfl | rfl | rfl | rfl | rfl | rfl | rfl | rfl
  · exact readKind_any h _ hd hv hrow hlen
  · exact readCharset_any h _ hd hv hrow hlen hf
  · exact readTry_any h _ hd hv hrow hlen hf
  · exact readSpecial_0 h hd hv hrow hlen hf
  · exact readSpecial_1 h hd hv hrow hlen hf
  · exact readSpecial_2 h hd hv hrow hlen hf
  · exact readSpecial_3 h hd hv hrow hlen hf
  · exact readSpecial_4 h hd hv hrow hlen hf
  · exact readLeast_any h _ hd hv hrow hlen hf
  · exact readReps_any h _ hd hv hrow hlen hf (hre rfl)
  · exact readAliases_any h hM _ hd hv hrow hlen hf (hal rfl)
  · exact readClass_any h hM 1 hd hv hrow hlen hf hcn
  · exact readClass_any h hM 2 hd hv hrow hlen hf hcn
/-! a keyword is counted -/
theorem cnt_getD (H : List Bs) (s : Bs) : (cnt H (.string s)).getD (.int .i64 0) = .int .i64 (H.count s : Nat) := by
  by_cases h : s ∈ H
  · rw [cnt_in h]; rfl
  · rw [cnt_out h, List.count_eq_zero.2 h]; rfl
theorem RAt.head {B rb : Nat} {R : Rdr} {P : Pts} {w : World} (h : RAt B w rb R P) (key : Bs) (hk : key.length ≤ 65536) (hlt : R.heads.length < 65536) :
    (Instr.lookup 93 (.map (some P.hm)) (.string (Fld.str key)) false).run Tryz.prog w = .ok (.int .i64 (R.heads.count key : Nat)) w ∧
    ∃ w', (Instr.mapUpdate 93 (.map (some P.hm)) (.string (Fld.str key)) (.int .i64 ((R.heads.count key : Nat) + 1))).run Tryz.prog w = .ok () w' ∧ RAt B w' rb { R with heads := R.heads ++ [key] } P ∧ Kt B P.pm P.hm w w' := by
  obtain ⟨n, hn, hm⟩ := h.hds
  have hsz : (Fld.str key).size ≤ maxLen := by rw [fstr_wd, Wd.str_size]; unfold maxLen; omega
  have e1 : (Fld.str key).data.toList = key := by simp [Fld.str]
  have hkey := key9 hsz
  rw [e1] at hkey
  have hlook := hm.look law9 Tryz.underlying93 (zero3 w) hkey
  rw [cnt_getD] at hlook
  refine ⟨hlook, ?_⟩
  obtain ⟨w', hr, hput, hg⟩ := hm.put (v := .int .i64 ((R.heads.count key : Nat) + 1)) law9 Tryz.underlying93 (by unfold maxLen; omega) hkey trivial
  obtain ⟨es, c, ee⟩ := hm.isMap
  have kp : Kp P.hm w w' := Kp.of_grown hg
  have kq : Kq [] (· = P.hm) w w' := Kq.kpm kp ee rfl
  have low : Below B w w' := (Below.refl B w).grown hg (Nat.le_of_lt (Nat.lt_of_le_of_lt h.hmB hm.lt)) (fun k hk => by injection hk with hk; rw [← hk]; exact h.hmB)
  have hf : FAt B w' R.file P := h.file.kq kq rfl rfl ((kq.cells _ _ _ _ h.file.fil (by simp)).trans h.file.fil) (.inr ⟨rfl, fun e => h.hne e.symm⟩) (.inr ⟨rfl, rfl, by simp⟩) (.inr ⟨rfl, rfl, rfl, by simp⟩) (.inr ⟨rfl, rfl, by simp⟩) (.inr ⟨rfl, rfl, rfl, by simp⟩) (by simp) h.file.ok
  refine ⟨w', hr, ⟨h.rbB, h.hmB, (kq.cells _ _ _ _ h.rdr (by simp)).trans h.rdr, rows_kept h.rows (fun g cur q => kq.cells g cur _ (0, 0) q (by simp)) (fun g cur q => kq.cells g cur _ (0, 0) q (by simp)), ⟨n + 1, by simp; omega, hput _ ?_ ?_⟩, h.hne, own_kq h.lns kq (by simp), hf, ⟨by simp; omega, h.few.2.1, h.few.2.2⟩, h.rok⟩, kq.kt low (by simp) (fun g e => .inr e)⟩
  · rw [cnt_in (by simp)]
    simp [List.count_append]
  · intro x hx
    cases x with
    | string s =>
      have hne : s ≠ key := fun e => hx (by rw [e])
      simp only [cnt, List.mem_append, List.mem_singleton, hne, or_false, List.count_append]
      rw [List.count_singleton]
      have : (key == s) = false := by simpa using fun e : key = s => hne e.symm
      simp [this]
    | _ => rfl
end Af
end Go.Proofs.YtlajdmjpobckhaaGreatDoor
