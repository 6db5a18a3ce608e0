/- dic.Read, whole: the walk. -/
import Derived.Test.YtlajdmjpobckhaaGreatDoorGd26
import Derived.Test.YtlajdmjpobckhaaGreatDoorGd17
import Derived.Test.YtlajdmjpobckhaaGreatDoorGd24
namespace Go.Proofs.YtlajdmjpobckhaaGreatDoor
open Go.RowKit
namespace Af
open RowB
theorem dicR_code {F : Fil} {s : Bs} {er : Er} (h : dicR F s = .error er) : er.2 ≠ 0 := by
  by_cases hs : 65536 < s.length
  · unfold dicR at h
    rw [if_pos hs] at h
    injection h with h
    subst h
    simp
  · cases hr : Rw.rowsOf s with
    | nil =>
      rw [dicR_nil hs hr] at h
      injection h with h
      subst h
      simp
    | cons p t =>
      obtain ⟨l, row⟩ := p
      rw [dicR_cons hs hr, cntX_eq] at h
      by_cases hc : cntE row = 0
      · rw [if_pos hc] at h
        simp only at h
        cases he : ents F (cntN row).toNat t [] with
        | error e2 =>
          rw [he] at h
          injection h with h
          subst h
          exact ents_code he
        | ok E =>
          rw [he] at h
          simp only at h
          split at h
          · injection h with h; subst h; simp
          · cases h
      · rw [if_neg hc] at h
        injection h with h
        subst h
        have := cntE_nn row
        show (cntE row).toNat ≠ 0
        omega
/-- three cells are stored -/
def swr (w : World) (b : Nat) (x y z : Value) : World := ((w.setCell ⟨b, 0, none⟩ x).setCell ⟨b, 1, none⟩ y).setCell ⟨b, 2, none⟩ z
theorem swr_facts {w : World} {b n0 : Nat} {a0 a1 a2 : Value} (h : w.heap[b]? = some (.cells #[a0, a1, a2] 29 (0, 0))) (hb : n0 ≤ b) (x y z : Value) : (swr w b x y z).heap[b]? = some (.cells #[x, y, z] 29 (0, 0)) ∧ Below n0 w (swr w b x y z) ∧ Kp b w (swr w b x y z) := by
  refine ⟨?_, (((Below.refl _ _).setCell (p := ⟨b, 0, none⟩) hb x).setCell (p := ⟨b, 1, none⟩) hb y).setCell (p := ⟨b, 2, none⟩) hb z, kp_trans (kp_trans (kp_set w b 0 x) (kp_set _ b 1 y)) (kp_set _ b 2 z)⟩
  unfold swr
  rw [set_heap1 (set_heap1 (set_heap1 h x) y) z]
  rfl
theorem DRes.no {w w' : World} {X : Except Er (List Ent)} {l c : Nat} (h : X = .error (l, c)) (k : Below w.heap.size w w') : DRes w X (.returned (.tuple #[.pointer none, .agg #[.int .i64 2, .int .i64 (l : Nat), .int .i64 (c : Nat)]])) w' := by
  subst h
  exact ⟨k, rfl⟩
theorem DRes.yes {w w' : World} {X : Except Er (List Ent)} {E : List Ent} {n0 wb : Nat} {Q : WPts} (h : X = .ok E) (k : Below w.heap.size w w') (hn : w.heap.size ≤ n0) (hw : WA n0 w' wb E E Q) : DRes w X (.returned (.tuple #[.pointer (some ⟨wb, 0, none⟩), .agg #[.int .i64 0, .int .i64 0, .int .i64 0]])) w' := by
  subst h
  exact ⟨k, n0, wb, Q, hn, rfl, hw⟩
set_option maxRecDepth 100000 in
set_option maxHeartbeats 4000000 in
theorem dicNil_any (s : ByteArray) (w : World) : Calls Tryz.prog 13 #[.pointer none, .string s] w fun e w' => e = .returned (.tuple #[.pointer none, .agg #[.int .i64 2, .int .i64 0, .int .i64 1]]) ∧ Below w.heap.size w w' := by
  go_enter Tryz.func13, Tryz.ntmps13
  go_wp2
  refine bodyPost_ret (v := .tuple #[.pointer none, .agg #[.int .i64 2, .int .i64 0, .int .i64 1]]) (by simp [results, Tryz.results13, go_sem]) rfl ?_
  exact ⟨rfl, (Below.refl _ _).alloc (Nat.le_refl _) _⟩
set_option maxRecDepth 100000 in
set_option maxHeartbeats 4000000 in
theorem dicRead_any {B : Nat} {w : World} {F : Fil} {P : Pts} (hF : FAt B w F P) (hM : Mx B w) (hB : B ≤ w.heap.size) (hS : Np Sd F) (hN : Np (fun a => ∀ x ∈ a, 0 ≤ x ∧ x ≤ 65535) F) (hcn : F.classes.length ≤ 1048577) (s : ByteArray) :
    Calls Tryz.prog 13 #[.pointer (some ⟨P.fb, 0, none⟩), .string s] w (DRes w (dicR F s.data.toList)) := by
  have b1 : Below w.heap.size w (w.alloc (.cells #[.int .i64 0, .int .i64 0, .int .i64 0] 29)) := (Below.refl _ _).alloc (Nat.le_refl _) _
  have hF1 := hF.below b1
  have hpm : P.pm < w.heap.size := by obtain ⟨n, -, hm⟩ := hF.plc; exact hm.lt
  have HN : Hid (Calls Tryz.prog 36 #[.pointer (some ⟨P.fb, 0, none⟩)] (w.alloc (.cells #[.int .i64 0, .int .i64 0, .int .i64 0] 29)) fun e w' => ∃ rb wb mb Q, e = .returned (ptr rb) ∧ EnI (w.heap.size + 1) w' w' rb wb mb F P 0 [] Q ∧ w.heap.size + 1 ≤ mb ∧ Below (w.heap.size + 1) (w.alloc (.cells #[.int .i64 0, .int .i64 0, .int .i64 0] 29)) w') := by
    have := newDic_any hF1 hS hcn
    rw [World.size_alloc] at this
    exact this
  have HV := hide (alloc_new w (.cells #[.int .i64 0, .int .i64 0, .int .i64 0] 29))
  have HR := hide (fun rb wb mb Q w2 (hI : EnI (w.heap.size + 1) w2 w2 rb wb mb F P 0 [] Q) (hm : w.heap.size + 1 ≤ mb) (b2 : Below (w.heap.size + 1) (w.alloc (.cells #[.int .i64 0, .int .i64 0, .int .i64 0] 29)) w2) =>
    (show ReadC rb s (w.heap.size + 1) wb mb w2 F P (dicR F s.data.toList) from by
      have b3 : Below w.heap.size w w2 := b1.trans (b2.mono (by omega))
      exact dread_any hI (hF.below b3) (hM.low (b3.mono hB)) (by omega) hN (by omega) s))
  have HB1 := hide b1
  clear b1 hF1 hF hM hS hN hcn hpm
  cases hx : dicR F s.data.toList with
  | error er =>
    have hc0 := dicR_code hx
    have hcb : ((er.2 : Int) == 0) = false := by simpa using hc0
    have HX := hide hx
    clear hx hc0
    go_enter Tryz.func13, Tryz.ntmps13
    go_wp2_with fail
    refine (unhide HN).mono ?_
    rintro e w2 ⟨rb, wb, mb, Q, rfl, hI, hm, b2⟩
    have HRR := hide (unhide HR rb wb mb Q w2 hI hm b2)
    have HB2 := hide b2
    clear hI hm b2
    go_wp2_with fail
    refine (unhide HRR).mono ?_
    rintro e w3 hr3
    rw [unhide HX] at hr3
    obtain ⟨l', E', Q', hI', rfl, rfl⟩ := hr3
    obtain ⟨c7, c6, cz, clt⟩ := hI'.c7
    have hb3 : Below (w.heap.size + 1) (w.alloc (.cells #[.int .i64 0, .int .i64 0, .int .i64 0] 29)) w3 := (unhide HB2).trans hI'.low
    have hv3 := (hb3.block w.heap.size (by omega)).trans (unhide HV)
    have HB3 := hide ((unhide HB1).trans (hb3.mono (by omega)))
    obtain ⟨v0, v1, v2, vz⟩ := fault3 hv3
    have hvl := lt_some hv3
    have HV3 := hide hv3
    clear hI' hb3 hv3 HN HR HV HRR HB2 HB1
    go_wp2
    refine Lst.region_last (ops1 := ?ops1) (o := ?op1) (S := fun w' => w'.cell? ⟨rb, 7, none⟩ = some (.int .i64 (er.1 : Nat))) (by kernel_rfl) ?hp1 ?hb1 ?hk1 (by exact c7) ?hn1
    case hp1 => (simp only [List.pop_toArray, List.dropLast_cons_cons, List.dropLast_singleton]; rfl)
    case hb1 => (simp only [List.back?_toArray, List.getLast?_cons_cons, List.getLast?_singleton]; rfl)
    case hk1 => kernel_rfl
    intro hHeld
    refine wpAnyH_take (i := 6) (v := ?v2) (by simp only [List.getElem?_toArray, List.getElem?_cons_succ, List.getElem?_cons_zero]; rfl) (by kernel_rfl) (by kernel_rfl) (by kernel_rfl) (by exact fun _ _ _ h => h) (Or.inl ⟨by rfl, ?hy2⟩) (by assumption) ?_
    case hy2 => (intro w hSw; (try dsimp only at hSw); go_simp; first | done | (with_reducible rfl))
    (try simp only [Act.put, List.setIfInBounds_toArray, List.set_cons_zero, List.set_cons_succ])
    refine wpAnyH_take (i := 0) (v := ?v3) (by simp only [List.getElem?_toArray, List.getElem?_cons_zero]; rfl) (by kernel_rfl) (by kernel_rfl) (by kernel_rfl) (by exact fun _ _ _ h => h) (Or.inl ⟨by rfl, ?hy3⟩) (by assumption) ?_
    case hy3 => (intro w hSw; (try dsimp only at hSw); go_simp; first | done | (with_reducible rfl))
    (try simp only [Act.put, List.setIfInBounds_toArray, List.set_cons_zero, List.set_cons_succ])
    refine wpAnyH_take (i := 1) (v := ?v4) (by simp only [List.getElem?_toArray, List.getElem?_cons_succ, List.getElem?_cons_zero]; rfl) (by kernel_rfl) (by kernel_rfl) (by kernel_rfl) (by exact fun _ _ _ h => h) (Or.inl ⟨by rfl, ?hy4⟩) (by assumption) ?_
    case hy4 => (intro w hSw; (try dsimp only at hSw); go_simp; first | done | (with_reducible rfl))
    (try simp only [Act.put, List.setIfInBounds_toArray, List.set_cons_zero, List.set_cons_succ])
    refine wpAnyH_take (i := 2) (v := ?v5) (by simp only [List.getElem?_toArray, List.getElem?_cons_succ, List.getElem?_cons_zero]; rfl) (by kernel_rfl) (by kernel_rfl) (by kernel_rfl) (by exact fun _ _ _ h => h) (Or.inl ⟨by rfl, ?hy5⟩) (by assumption) ?_
    case hy5 => (intro w hSw; (try dsimp only at hSw); go_simp; first | done | (with_reducible rfl))
    (try simp only [Act.put, List.setIfInBounds_toArray, List.set_cons_zero, List.set_cons_succ])
    refine wpAnyH_take (i := 3) (v := ?v6) (by simp only [List.getElem?_toArray, List.getElem?_cons_succ, List.getElem?_cons_zero]; rfl) (by kernel_rfl) (by kernel_rfl) (by kernel_rfl) (by exact fun _ _ _ h => h) (Or.inl ⟨by rfl, ?hy6⟩) (by assumption) ?_
    case hy6 => (intro w hSw; (try dsimp only at hSw); go_simp; first | done | (with_reducible rfl))
    (try simp only [Act.put, List.setIfInBounds_toArray, List.set_cons_zero, List.set_cons_succ])
    refine wpAnyH_take (i := 4) (v := ?v7) (by simp only [List.getElem?_toArray, List.getElem?_cons_succ, List.getElem?_cons_zero]; rfl) (by kernel_rfl) (by kernel_rfl) (by kernel_rfl) (by exact fun _ _ _ h => h) (Or.inl ⟨by rfl, ?hy7⟩) (by assumption) ?_
    case hy7 => (intro w hSw; (try dsimp only at hSw); go_simp; first | done | (with_reducible rfl))
    (try simp only [Act.put, List.setIfInBounds_toArray, List.set_cons_zero, List.set_cons_succ])
    refine wpAnyH_take (i := 5) (v := ?v8) (by simp only [List.getElem?_toArray, List.getElem?_cons_succ, List.getElem?_cons_zero]; rfl) (by kernel_rfl) (by kernel_rfl) (by kernel_rfl) (by exact fun _ _ _ h => h) (Or.inl ⟨by rfl, ?hy8⟩) (by assumption) ?_
    case hy8 => (intro w hSw; (try dsimp only at hSw); go_simp; first | done | (with_reducible rfl))
    (try simp only [Act.put, List.setIfInBounds_toArray, List.set_cons_zero, List.set_cons_succ])
    refine wpAnyH_done (by kernel_rfl) ?_ _
    show Oper.wp _ _ _ _ _ _
    go_simp
    rename_i K2 hK2
    apply hK2
    refine gen_world ?_
    intro V hV
    obtain ⟨f1, f2, f3⟩ := swr_facts (n0 := w.heap.size) (unhide HV3) (Nat.le_refl _) (.int .i64 2) (.int .i64 (er.1 : Nat)) (.int .i64 (er.2 : Nat))
    have HF : Hid (V.heap[w.heap.size]? = some (.cells #[.int .i64 2, .int .i64 (er.1 : Nat), .int .i64 (er.2 : Nat)] 29 (0, 0)) ∧ Below w.heap.size w V) := by
      rw [hV]
      exact ⟨f1, ((unhide HB3).trans f2).drew⟩
    clear hV f1 f2 f3
    obtain ⟨m0, m1, m2, mz⟩ := fault3 (unhide HF).1
    go_wp2
    refine bodyPost_ret (v := .tuple #[.pointer none, .agg #[.int .i64 2, .int .i64 (er.1 : Nat), .int .i64 (er.2 : Nat)]]) (by simp [results, Tryz.results13, go_sem, m0, m1, m2]) rfl ?_
    exact DRes.no rfl (unhide HF).2
  | ok E =>
    have HX := hide hx
    clear hx
    go_enter Tryz.func13, Tryz.ntmps13
    go_wp2_with fail
    refine (unhide HN).mono ?_
    rintro e w2 ⟨rb, wb, mb, Q, rfl, hI, hm, b2⟩
    have HRR := hide (unhide HR rb wb mb Q w2 hI hm b2)
    have HB2 := hide b2
    clear hI hm b2
    go_wp2_with fail
    refine (unhide HRR).mono ?_
    rintro e w3 hr3
    rw [unhide HX] at hr3
    obtain ⟨l', E', Q', hI', rfl, rfl⟩ := hr3
    obtain ⟨c7, c6, cz, clt⟩ := hI'.c7
    have hb3 : Below (w.heap.size + 1) (w.alloc (.cells #[.int .i64 0, .int .i64 0, .int .i64 0] 29)) w3 := (unhide HB2).trans hI'.low
    have hv3 := (hb3.block w.heap.size (by omega)).trans (unhide HV)
    have HB3 := hide ((unhide HB1).trans (hb3.mono (by omega)))
    obtain ⟨v0, v1, v2, vz⟩ := fault3 hv3
    have hvl := lt_some hv3
    have HV3 := hide hv3
    have HW3 := hide hI'.wa
    clear hI' hb3 hv3 HN HR HV HRR HB2 HB1
    obtain ⟨f1, f2, f3⟩ := swr_facts (n0 := w.heap.size) (unhide HV3) (Nat.le_refl _) (.int .i64 0) (.int .i64 0) (.int .i64 0)
    obtain ⟨m0, m1, m2, mz⟩ := fault3 f1
    have kz : Kq [29] noM w3 (swr w3 w.heap.size (.int .i64 0) (.int .i64 0) (.int .i64 0)) := Kq.kp f3 (unhide HV3) (by simp)
    have HWF := hide ((unhide HW3).frame kz (by decide) (by decide) (by decide) (by decide) (fun q => q))
    have HBF := hide ((unhide HB3).trans f2)
    clear f1 f2 f3 kz
    go_wp2
    show bodyPost _ _ _ Exit.ret _ (swr w3 w.heap.size (.int .i64 0) (.int .i64 0) (.int .i64 0))
    refine bodyPost_ret (v := .tuple #[.pointer (some ⟨wb, 0, none⟩), .agg #[.int .i64 0, .int .i64 0, .int .i64 0]]) (by simp [results, Tryz.results13, go_sem, m0, m1, m2]) rfl ?_
    exact DRes.yes rfl (unhide HBF) (by omega) (unhide HWF)
end Af
end Go.Proofs.YtlajdmjpobckhaaGreatDoor
/- The entries of a dictionary, in new memory. -/
namespace Go.Proofs
open Go.Shelf
def Tryz.laysCl_ent_ren : Go.Shelf.Ren := ⟨fun | 41 => 38 | n => n, fun | 4 => 4 | 22 => 36 | 23 => 41 | n => n, fun | n => n⟩
theorem Tryz.laysCl_ent : Go.Proofs.SlLaysE0.n41 Tryz.prog Tryz.laysCl_ent_ren := {
  mixed := by kernel_rfl
  f41 := ⟨"slices.Clone[[]hornbook/api.Entry,hornbook/api.Entry]", by decide, Tryz.func38.trans (congrArg some (by kernel_rfl))⟩
  t4 := Tryz.underlying4
  a4 := Tryz.isAgg4
  z4 := Tryz.sizeOf4
  v4 := Tryz.zeroValue4
  t22 := Tryz.underlying36
  a22 := Tryz.isAgg36
  z22 := Tryz.sizeOf36
  v22 := Tryz.zeroValue36 }
end Go.Proofs
namespace Go.Proofs.YtlajdmjpobckhaaGreatDoor
open Go.RowKit
namespace Af
open RowB
theorem clone_ent {B n : Nat} {w : World} {v : Value} {xs : List Value} (h : w.ownsRow B 41 2 v n xs) (h1 : ∀ u ∈ xs, u.oneCell' = true) (hn : n ≤ 1048577) : Calls Tryz.prog 38 #[v] w fun e w' => ∃ v', e = .returned v' ∧ w'.ownsRow w.heap.size 41 2 v' n xs ∧ Below w.heap.size w w' := by
  obtain ⟨i, hi, hz'⟩ := Option.map_eq_some_iff.1 infoE
  simp only [Prod.mk.injEq] at hz'
  obtain ⟨hz0, hz1, hz2⟩ := hz'
  obtain ⟨hl, ⟨rfl, rfl⟩ | ⟨g, cap, cur, rfl, hg, hh, hc, hm, hs, ht⟩⟩ := h
  · refine (AnyE.slices_Clone_nil Tryz.laysCl_ent 0 0 w).mono ?_
    rintro e w' ⟨rfl, rfl⟩
    have : xs = [] := by cases xs with | nil => rfl | cons _ _ => simp at hl
    subst this
    exact ⟨_, rfl, World.ownsRow_nil _ _ _ _, Below.refl _ _⟩
  · refine (AnyE.slices_Clone Tryz.laysCl_ent i _ 2 40 hi hz0 hz1 hz2 rfl (by decide) Tryz.sizeOf41 g 0 n cap xs w hl (by omega) (by omega) (fun j u hj => ?_) h1).mono ?_
    · have hjl := (List.getElem?_eq_some_iff.1 hj).1
      rw [← ht, List.getElem?_take] at hj
      split at hj
      · simpa [World.cell?, hh] using hj
      · cases hj
    · rintro e w' ⟨v', rfl, o, -, b⟩
      exact ⟨v', rfl, o, b⟩
/-- entries in memory: the sets of the first j are new -/
def EntR (n : Nat) (W : World) (E : List Ent) (v : Value) (fv : List Value) (j : Nat) : Prop := W.ownsRow n 41 2 v E.length ((E.zip fv).flatMap fun p => entC p.1 p.2) ∧ fv.length = E.length ∧ ∀ (i : Nat) u x, fv[i]? = some u → E[i]? = some x → FNx (if i < j then n else 0) W u x.flags
theorem EntR.kq {n j : Nat} {W W' : World} {E : List Ent} {v : Value} {fv : List Value} {T : List TypeId} {M : Nat → Prop} (h : EntR n W E v fv j) (k : Kq T M W W') (ht : 41 ∉ T) (ht2 : 61 ∉ T) : EntR n W' E v fv j := ⟨own_kq h.1 k ht, h.2.1, fun i u a q1 q2 => fnx_kq (h.2.2 i u a q1 q2) k ht2⟩
theorem zipE_set {u : Value} : ∀ (rs : List Ent) (nv : List Value) (j : Nat), j < rs.length → nv.length = rs.length → ((rs.zip (nv.set j u)).flatMap fun p => entC p.1 p.2) = ((rs.zip nv).flatMap fun p => entC p.1 p.2).set (j * 2 + 1) u
  | [], _, _, h, _ => by simp at h
  | r :: rs, [], _, _, h => by simp at h
  | r :: rs, v :: nv, 0, h, h2 => by
    simp [entC]
  | r :: rs, v :: nv, j + 1, h, h2 => by
    have ih := zipE_set (u := u) rs nv j (by simpa using h) (by simpa using h2)
    simp only [List.set_cons_succ, List.zip_cons_cons, List.flatMap_cons, ih]
    rw [List.set_append_right _ _ (by simp [entC]; omega)]
    congr 2
    simp [entC]
    omega
theorem EntR.put {n0 j : Nat} {W W' : World} {E : List Ent} {g cap : Nat} {nv : List Value} {u : Value} {r : Ent} (h : EntR n0 W E (.slice (some ⟨g, 0, none⟩) E.length cap) nv j) (hr : E[j]? = some r) (hW : W' = W.setCell ⟨g, j * 2 + 1, none⟩ u) (hu : FNx n0 W u r.flags) : EntR n0 W' E (.slice (some ⟨g, 0, none⟩) E.length cap) (nv.set j u) (j + 1) ∧ Kq [41] noM W W' ∧ n0 ≤ g := by
  subst hW
  obtain ⟨cur, hh, hg⟩ := own_blk h.1
  have k : Kq [41] noM W (W.setCell ⟨g, j * 2 + 1, none⟩ u) := Kq.kp (kp_set _ _ _ _) hh (by simp)
  have hj := (List.getElem?_eq_some_iff.1 hr).1
  refine ⟨⟨?_, by simpa using h.2.1, fun i v q h1 h2 => ?_⟩, k, hg⟩
  · rw [zipE_set _ _ _ hj h.2.1]
    exact own_set h.1 _ (by omega) u
  · by_cases hi : i = j
    · subst hi
      rw [List.getElem?_set_self (by rw [h.2.1]; exact hj)] at h1
      injection h1 with h1
      subst h1
      rw [hr] at h2
      injection h2 with h2
      subst h2
      rw [if_pos (by omega)]
      exact fnx_kq hu k (by decide)
    · rw [List.getElem?_set_ne (fun e => hi e.symm)] at h1
      have := fnx_kq (h.2.2 i v q h1 h2) k (by decide)
      by_cases q1 : i < j
      · rw [if_pos q1] at this
        rw [if_pos (by omega)]
        exact this
      · rw [if_neg q1] at this
        rw [if_neg (by omega)]
        exact this
theorem ent_one {rs : List Ent} {nv : List Value} (h : ∀ v ∈ nv, v.oneCell' = true) : ∀ u ∈ (rs.zip nv).flatMap fun p => entC p.1 p.2, u.oneCell' = true := by
  intro u hu
  obtain ⟨p, hp, hu⟩ := List.mem_flatMap.1 hu
  simp only [entC, List.mem_cons, List.not_mem_nil, or_false] at hu
  rcases hu with rfl | rfl
  · rfl
  · exact h _ (List.of_mem_zip hp).2
theorem flatE_get {E : List Ent} {fv : List Value} (_h2 : fv.length = E.length) {j : Nat} {x : Ent} {u : Value} (hx : E[j]? = some x) (hu : fv[j]? = some u) : ((E.zip fv).flatMap fun p => entC p.1 p.2)[j * 2]? = some (.string (Wd.str x.word)) ∧ ((E.zip fv).flatMap fun p => entC p.1 p.2)[j * 2 + 1]? = some u := by
  have hz : (E.zip fv)[j]? = some (x, u) := by
    rw [List.getElem?_zip_eq_some]
    exact ⟨hx, hu⟩
  have h0 := flat_get (f := fun p : Ent × Value => entC p.1 p.2) (m := 2) (fun _ => rfl) (k := 0) hz (by omega)
  have h1 := flat_get (f := fun p : Ent × Value => entC p.1 p.2) (m := 2) (fun _ => rfl) (k := 1) hz (by omega)
  exact ⟨by simpa [entC] using h0, by simpa [entC] using h1⟩
def EsRes (w : World) (E : List Ent) (e : Ending) (w' : World) : Prop := Below w.heap.size w w' ∧ ∃ v fv, e = .returned v ∧ EntR w.heap.size w' E v fv E.length
set_option maxRecDepth 100000 in
set_option maxHeartbeats 4000000 in
theorem entries_any {n wb : Nat} {w : World} {E : List Ent} {Q : WPts} (h : WA n w wb E E Q) (hfl : ∀ x ∈ E, x.flags.length ≤ 1048577) : Calls Tryz.prog 15 #[ptr wb] w (EsRes w E) := by
  obtain ⟨d0, -, -⟩ := h.cells
  have hlt := h.lt
  obtain ⟨ea, ec, ee⟩ := own_slice h.ents
  have HE := hide (clone_ent h.ents (ent_one (fun v hv => by
    obtain ⟨i, hi⟩ := List.getElem?_of_mem hv
    have hil := (List.getElem?_eq_some_iff.1 hi).1
    rw [h.fvs.1] at hil
    exact fnx_one (h.fvs.2 i v _ hi (List.getElem?_eq_getElem hil)))) (by have := h.few; omega))
  rw [ee] at d0 HE
  have HF := hide h.fvs
  have HL := hide hfl
  have few := h.few
  clear h ee hfl
  obtain ⟨m, hm⟩ : ∃ m, E.length = m := ⟨_, rfl⟩
  have HM := hide hm
  rw [hm] at HE d0 few
  clear hm
  go_enter Tryz.func15, Tryz.ntmps15
  go_wp2_with (go_at_call 38; refine (unhide HE).mono ?_; rintro e w2 ⟨v, rfl, o2, b2⟩; have HO2 := hide o2; have HB2 := hide b2; obtain ⟨va, vc, rfl⟩ := own_slice o2; clear o2 b2)
  go_loopw [15] (fun s15 wr => ∃ j : Nat, s15 = .int .i64 j ∧ j ≤ m ∧ Hid (Below w.heap.size w wr ∧ ∃ fv, EntR w.heap.size wr E (.slice va m vc) fv j)) (fun s15 _ => m - (intOf s15).toNat)
  case atStart => exact ⟨0, rfl, Nat.zero_le _, ⟨unhide HB2, Q.fv, ⟨by rw [unhide HM]; exact unhide HO2, (unhide HF).1, fun i u x a b => by rw [if_neg (by omega)]; exact fnx_below (fnx_low ((unhide HF).2 i u x a b) (Nat.zero_le _)) (unhide HB2)⟩⟩⟩
  case round =>
    obtain ⟨j, rfl, hj, HR⟩ := hrel
    by_cases hlt2 : j < m
    · have hltz : (j : Int) < (m : Int) := by omega
      obtain ⟨hb, fv, hE⟩ := unhide HR
      obtain ⟨x, hx⟩ : ∃ x, E[j]? = some x := ⟨_, List.getElem?_eq_getElem (by rw [unhide HM]; exact hlt2)⟩
      obtain ⟨u, hu⟩ : ∃ u, fv[j]? = some u := ⟨_, List.getElem?_eq_getElem (by rw [hE.2.1, unhide HM]; exact hlt2)⟩
      obtain ⟨gv, cv, ev, -, hgl, -, -, hcur, hcl⟩ := own_at hE.1 (by rw [unhide HM]; omega)
      injection ev with ev1 ev2 ev3
      clear ev2
      subst ev1
      subst ev3
      obtain ⟨k0, k1⟩ := flatE_get hE.2.1 hx hu
      have q0 := (hcl (j * 2) (by rw [unhide HM]; omega)).trans k0
      have q1 := (hcl (j * 2 + 1) (by rw [unhide HM]; omega)).trans k1
      have hfn := hE.2.2 j u x hu hx
      rw [if_neg (by omega)] at hfn
      obtain ⟨ua, un, uc, rfl⟩ := fnx_slice hfn
      have b1 : Below wr.heap.size wr (wr.alloc (.cells #[.string (Wd.str x.word), .slice ua un uc] 41)) := (Below.refl _ _).alloc (Nat.le_refl _) _
      have HCL := hide (fun W (b : Below wr.heap.size wr W) => clone_flg (w := W) (fnx_own (fnx_below hfn b)) (enc_one _) (unhide HL x (List.mem_of_getElem? hx)))
      have HST : Hid (∀ W w3 u, Below wr.heap.size wr W → w3.ownsRow W.heap.size 61 1 u x.flags.length (x.flags.map So.encF) → Below W.heap.size W w3 → ∀ W', W' = w3.setCell ⟨gv, j * 2 + 1, none⟩ u → Below w.heap.size w W' ∧ ∃ fv', EntR w.heap.size W' E (.slice (some ⟨gv, 0, none⟩) m vc) fv' (j + 1)) := by
        intro W w3 u hW o3 b3 W' hW'
        have bb : Below wr.heap.size wr w3 := hW.trans (b3.mono hW.size)
        have h4 := hE.kq (Kq.below (T := []) (M := noM) bb) (by simp) (by simp)
        rw [← unhide HM] at h4
        have hu2 : FNx w.heap.size w3 u x.flags := fnx_low (own_fnx o3) (Nat.le_trans hb.size hW.size)
        obtain ⟨r1, r2, r3⟩ := h4.put hx hW' hu2
        rw [unhide HM] at r1
        refine ⟨?_, _, r1⟩
        rw [hW']
        exact (hb.trans (bb.mono hb.size)).setCell (p := ⟨gv, j * 2 + 1, none⟩) r3 _
      have HRW : Hid (∀ W w3, Below wr.heap.size wr W → Below W.heap.size W w3 → w3.cell? ⟨gv, j * 2 + 1, none⟩ = some (.slice ua un uc) ∧ w3.frozen? ⟨gv, j * 2 + 1, none⟩ = false ∧ gv < w3.heap.size) := by
        intro W w3 hW b3
        have bb : Below wr.heap.size wr w3 := hW.trans (b3.mono hW.size)
        obtain ⟨cur, hcu⟩ := hcur
        have hcur3 := (below_kept bb _ _ hcu).trans hcu
        exact ⟨(bb.cell (p := ⟨gv, j * 2 + 1, none⟩) hgl).trans q1, by simp [World.frozen?, hcur3], lt_some hcur3⟩
      have HB1 := hide b1
      clear HR hE hb hx hu hcl k0 k1 hfn b1 hcur
      generalize Wd.str x.word = sx at *
      go_wp2_with (go_at_call 39; refine (unhide HCL _ (by first | exact unhide HB1 | exact (unhide HB1).drew)).mono ?_; rintro e w3 ⟨u, rfl, o3, b3⟩; obtain ⟨x1, x2, x3⟩ := unhide HRW _ _ (by first | exact unhide HB1 | exact (unhide HB1).drew) b3; have HNX := hide (unhide HST _ _ _ (by first | exact unhide HB1 | exact (unhide HB1).drew) o3 b3); obtain ⟨au, cu2, rfl⟩ := own_slice o3; clear o3 b3)
      go_roundw
      case rel => exact ⟨j + 1, by go_num, by omega, unhide HNX _ rfl⟩
      case measure => simp [intOf]; omega
    · obtain rfl : j = m := by omega
      have hltz : ¬ (j : Int) < (j : Int) := by omega
      go_wp2
      go_ret
      obtain ⟨hb, fv, hE⟩ := unhide HR
      exact ⟨hb, _, fv, rfl, by rw [unhide HM]; exact hE⟩
end Af
end Go.Proofs.YtlajdmjpobckhaaGreatDoor
/- The dictionary whose reading the document fixes. -/
namespace Go.Proofs.YtlajdmjpobckhaaGreatDoor
open Go.RowKit
namespace Af
def wkT2 : Bs := [83, 70, 88, 32, 65, 32, 89, 32, 48, 10]
def wkD : Bs := [50, 10, 102, 108, 121, 47, 65, 10, 105, 110, 92, 47, 111, 117, 116, 10]
def wkF2 : Fil := ⟨1, [], [], [0, 0, 0, 0, 0], 3, [], [], [⟨65, 2, true, 0, 0⟩], []⟩
theorem wk_aff2 : affR wkT2 = .ok wkF2 := by kernel_rfl
theorem wk_dic : dicR wkF2 wkD = .ok [⟨[102, 108, 121], [65]⟩, ⟨[105, 110, 47, 111, 117, 116], []⟩] := by kernel_rfl
/-- what holds of all entries' sets -/
theorem ents_np {p : List Int → Prop} {F : Fil} (p0 : p []) (pf : ∀ s, p (flgS F s)) : ∀ {R : List (Nat × List Bs)} {n : Nat} {E E' : List Ent}, ents F n R E = .ok E' → (∀ x ∈ E, p x.flags) → ∀ x ∈ E', p x.flags
  | [], n, E, E', h, hE => by
    injection h with h
    subst h
    exact hE
  | (l, row) :: t, n, E, E', h, hE => by
    rw [ents] at h
    split at h
    · cases h
    · cases hx : entRow F row with
      | error c => rw [hx] at h; cases h
      | ok x =>
        rw [hx] at h
        refine ents_np p0 pf h fun y hy => ?_
        rcases List.mem_append.1 hy with q | q
        · exact hE y q
        · simp at q
          subst q
          unfold entRow at hx
          split at hx
          · cases hx
          · unfold entE at hx
            split at hx
            · cases hx
            · split at hx
              · cases hx
              · split at hx
                · injection hx with hx; subst hx; exact p0
                · split at hx
                  · cases hx
                  · injection hx with hx; subst hx; exact pf _
theorem dicR_np {p : List Int → Prop} {F : Fil} {s : Bs} {E : List Ent} (p0 : p []) (pf : ∀ s, p (flgS F s)) (h : dicR F s = .ok E) : ∀ x ∈ E, p x.flags := by
  by_cases hs : 65536 < s.length
  · unfold dicR at h
    rw [if_pos hs] at h
    cases h
  · cases hr : Rw.rowsOf s with
    | nil => rw [dicR_nil hs hr] at h; cases h
    | cons q t =>
      obtain ⟨l, row⟩ := q
      rw [dicR_cons hs hr] at h
      cases hc : cntX l row with
      | error e => rw [hc] at h; cases h
      | ok n =>
        rw [hc] at h
        simp only at h
        cases he : ents F n t [] with
        | error e => rw [he] at h; cases h
        | ok E2 =>
          rw [he] at h
          simp only at h
          split at h
          · cases h
          · injection h with h
            subst h
            exact ents_np p0 pf he (fun x hx => by cases hx)
theorem dicR_len {F : Fil} {s : Bs} {E : List Ent} (hS : Np Sd F) (h : dicR F s = .ok E) : ∀ x ∈ E, x.flags.length ≤ 1048577 := by
  intro x hx
  have := dicR_np (p := fun a => a.length ≤ 1048577) (by simp) (fun t => by
    have := flgS_np (p := Sd) (F := F) ⟨rfl, by simp⟩ (fun k s => ?_) hS t
    · have := this.2; omega
    · by_cases he : So.rE k s = 0
      · refine ⟨(rS_set k s he).1, ?_⟩
        unfold So.rS
        rw [if_pos he]
        have hl := (So.setOf_set (So.vals k s)).len
        have : (So.vals k s).length ≤ 64 := by
          unfold So.rE So.readE at he
          repeat (split at he <;> first | omega | skip)
        omega
      · unfold So.rS
        rw [if_neg he]
        exact ⟨rfl, by simp⟩) h
  exact this x hx
/-- dic.Read of a file that was read -/
theorem dic_of {B : Nat} {w : World} {F : Fil} {P : Pts} {a : Bs} (ha : affR a = .ok F) (hF : FAt B w F P) (hM : Mx B w) (hB : B ≤ w.heap.size) (s : ByteArray) : Calls Tryz.prog 13 #[.pointer (some ⟨P.fb, 0, none⟩), .string s] w (DRes w (dicR F s.data.toList)) :=
  dicRead_any hF hM hB (affR_sets ha) (affR_small ha) (Nat.le_trans (affR_cls ha) (by decide)) s
end Af
end Go.Proofs.YtlajdmjpobckhaaGreatDoor
/- Plain: what a reader of an affix file answers hangs on the rows that it took alone; the lines of its rows are told and kept, and never looked at. -/
namespace Go.Proofs.YtlajdmjpobckhaaGreatDoor
namespace Af
/-! faults at a line -/
def tell {α : Type} (l : Nat) : Except Nat α → Except Er α
  | .error c => .error (l, c)
  | .ok a => .ok a
def Tells {α : Type} (X : Nat → Except Er α) : Prop := ∃ Y, (∀ c, Y = .error c → c ≠ 0) ∧ ∀ l, X l = tell l Y
theorem tells_ok {α : Type} (a : α) : Tells (fun _ => .ok a) := ⟨.ok a, (fun c h => by cases h), fun _ => rfl⟩
theorem tells_no {α : Type} (c : Nat) (h : c ≠ 0 := by decide) : Tells (α := α) (fun l => .error (l, c)) := ⟨.error c, (fun d e => by injection e with e; exact e ▸ h), fun _ => rfl⟩
theorem tells_if {α : Type} {p : Prop} [Decidable p] {X Z : Nat → Except Er α} (h : p → Tells X) (k : ¬ p → Tells Z) : Tells (fun l => if p then X l else Z l) := by
  by_cases hp : p
  · obtain ⟨Y, h0, hY⟩ := h hp
    exact ⟨Y, h0, fun l => (if_pos hp).trans (hY l)⟩
  · obtain ⟨Y, h0, hY⟩ := k hp
    exact ⟨Y, h0, fun l => (if_neg hp).trans (hY l)⟩
theorem tells_ite {α : Type} {p : Prop} [Decidable p] {X Z : Nat → Except Er α} (h : Tells X) (k : Tells Z) : Tells (fun l => if p then X l else Z l) := tells_if (fun _ => h) (fun _ => k)
theorem tells_then {α β : Type} {X : Nat → Except Er α} (Z : α → Nat → Except Er β) {W : Nat → Except Er β} (h : Tells X) (k : ∀ a, Tells (Z a)) (h1 : ∀ l e, X l = .error e → W l = .error e) (h2 : ∀ l a, X l = .ok a → W l = Z a l) : Tells W := by
  obtain ⟨Y, h0, hY⟩ := h
  cases Y with
  | error c => exact ⟨.error c, (fun d e => by injection e with e; exact h0 d (by rw [e])), fun l => h1 l _ (hY l)⟩
  | ok a =>
    obtain ⟨Y2, h3, hY2⟩ := k a
    exact ⟨Y2, h3, fun l => (h2 l a (hY l)).trans (hY2 l)⟩
theorem tells_ckB (t : Bs) : Tells (fun l => ckB l t) := by
  unfold ckB
  exact tells_ite (tells_ok _) (tells_no _)
theorem tells_ckA (t : Bs) : Tells (fun l => ckA l t) := by
  unfold ckA
  exact tells_ite (tells_ite (tells_no _) (tells_ok _)) (tells_no _)
theorem tells_piece (f : Bs) : Tells (fun l => piece l f) := by
  unfold piece
  cases Wd.rd [] f with
  | none => exact tells_no _
  | some p =>
    obtain ⟨a, r, c⟩ := p
    refine tells_ite (tells_no _) ?_
    exact tells_then (fun _ _ => .ok a) (tells_ckA a) (fun _ => tells_ok _) (fun l e h => by simp only [h]) (fun l x h => by simp only [h])
theorem tells_piece0 (f : Bs) : Tells (fun l => piece0 l f) := by
  unfold piece0
  exact tells_ite (tells_ok _) (tells_piece f)
theorem tells_numb (f : Bs) (m : Nat) : Tells (fun l => numb l f m) := by
  unfold numb
  exact tells_ite (tells_ok _) (tells_no _)
theorem tells_repRow (row : List Bs) : Tells (fun l => repRow l row) := by
  unfold repRow
  refine tells_ite (tells_no _) ?_
  refine tells_then (fun a l => match piece0 l (fld row 2) with
    | .error e => .error e
    | .ok b => .ok (a, b)) (tells_piece (fld row 1)) (fun a => ?_) (fun l e h => by simp only [h]) (fun l x h => by simp only [h]; cases piece0 l (fld row 2) <;> rfl)
  exact tells_then (fun b _ => .ok (a, b)) (tells_piece0 (fld row 2)) (fun b => tells_ok _) (fun l e h => by simp only [h]) (fun l x h => by simp only [h])
theorem tells_aliRow (F : Fil) (row : List Bs) : Tells (fun l => aliRow F l row) := by
  unfold aliRow
  have := rE_pos F.kind (fld row 1)
  exact tells_ite (tells_no _) (tells_if (fun h => tells_no _ (by omega)) (fun _ => tells_ok _))
theorem tells_addW (a : Bs) : Tells (fun l => addW l a) := by
  unfold addW
  refine tells_ite (tells_ok _) ?_
  exact tells_then (fun _ _ => .ok a) (tells_ckA a) (fun _ => tells_ok _) (fun l e h => by simp only [h]) (fun l x h => by simp only [h])
theorem tells_added (F : Fil) (k : Int) (f : Bs) : Tells (fun l => added F l k f) := by
  unfold added
  cases Wd.rd [] f with
  | none => exact tells_no _
  | some p =>
    obtain ⟨a, r, c⟩ := p
    simp only
    have := flgE_pos F r
    exact tells_then (fun d l => if c = false then .ok (d, []) else if k = 1 then .error (l, 118) else if flgE F r ≠ 0 then .error (l, (flgE F r).toNat) else .ok (d, flgS F r)) (tells_addW a) (fun d => tells_ite (tells_ok _) (tells_ite (tells_no _) (tells_if (fun h => tells_no _ (by omega)) (fun _ => tells_ok _)))) (fun l e h => by simp only [h]) (fun l x h => by simp only [h])
theorem tells_condn (f : Bs) : Tells (fun l => condn l f) := by
  unfold condn
  exact tells_then (fun _ l => if (Cd.rd f).2 ≠ 0 then .error (l, (Cd.rd f).2) else .ok (Cd.sws (Cd.rd f).1)) (tells_ckB f) (fun _ => tells_if (fun h => tells_no _ h) (fun _ => tells_ok _)) (fun l e h => by simp only [h]) (fun l x h => by simp only [h])
/-- a rule without its line -/
def ruleC (_F : Fil) (c : Cls) (row : List Bs) (s : Bs) (p : Bs × List Int) (l : Nat) : Except Er Rul := if row.length = 5 then (match condn l (fld row 4) with
  | .error e => .error e
  | .ok k => .ok ⟨c.kind, c.flag, c.cross, s, p.1, k, p.2, 0⟩) else .ok ⟨c.kind, c.flag, c.cross, s, p.1, [46], p.2, 0⟩
def ruleA (F : Fil) (c : Cls) (row : List Bs) (s : Bs) (l : Nat) : Except Er Rul := match added F l c.kind (fld row 3) with
  | .error e => .error e
  | .ok p => ruleC F c row s p l
def rule0 (F : Fil) (c : Cls) (row : List Bs) (l : Nat) : Except Er Rul :=
  if row.length ≠ 4 ∧ row.length ≠ 5 then .error (l, 111) else match piece0 l (fld row 2) with
  | .error e => .error e
  | .ok s => ruleA F c row s l
theorem tells_rule0 (F : Fil) (c : Cls) (row : List Bs) : Tells (rule0 F c row) := by
  unfold rule0
  refine tells_ite (tells_no _) ?_
  refine tells_then (ruleA F c row) (tells_piece0 (fld row 2)) (fun s => ?_) (fun l e h => by simp only [h]) (fun l x h => by simp only [h])
  unfold ruleA
  refine tells_then (ruleC F c row s) (tells_added F c.kind (fld row 3)) (fun p => ?_) (fun l e h => by simp only [h]) (fun l x h => by simp only [h])
  unfold ruleC
  refine tells_ite ?_ (tells_ok _)
  exact tells_then (fun k _ => .ok ⟨c.kind, c.flag, c.cross, s, p.1, k, p.2, 0⟩) (tells_condn (fld row 4)) (fun k => tells_ok _) (fun l e h => by simp only [h]) (fun l x h => by simp only [h])
theorem rule_eq (F : Fil) (l : Nat) (c : Cls) (row : List Bs) : rule F l c row = match rule0 F c row l with
    | .error e => .error e
    | .ok r => .ok { r with line := l } := by
  unfold rule rule0
  split
  · rfl
  · cases piece0 l (fld row 2) with
    | error e => rfl
    | ok s =>
      simp only
      unfold ruleA
      cases added F l c.kind (fld row 3) with
      | error e => rfl
      | ok p =>
        simp only
        unfold ruleC
        split
        · cases condn l (fld row 4) <;> rfl
        · rfl
def newFlagK (F : Fil) (f : Bs) (l : Nat) : Except Er Int :=
  if One.oneE F.kind f ≠ 0 then .error (l, (One.oneE F.kind f).toNat)
  else if (findC F.classes (One.oneF F.kind f)).isSome ∨ One.oneF F.kind f ∈ F.specials then .error (l, 115)
  else .ok (One.oneF F.kind f)
theorem newFlag_eq (R : Rdr) (f : Bs) : newFlag R f = newFlagK R.file f R.line := rfl
theorem tells_newFlag (F : Fil) (f : Bs) : Tells (newFlagK F f) := by
  unfold newFlagK
  have := oneE_pos F.kind f
  exact tells_if (fun h => tells_no _ (by omega)) (fun _ => tells_ite (tells_no _) (tells_ok _))

/-! what hangs on the rows alone that were taken -/
abbrev RowL := List (Nat × List Bs)
def Rdr.on (R : Rdr) (T : RowL) (b : Nat) : Rdr := { R with rows := T, behind := b }
def lastL (d : Nat) : RowL → Nat
  | [] => d
  | p :: t => lastL p.1 t
theorem lastL_append : ∀ (A B : RowL) (d : Nat), lastL d (A ++ B) = lastL (lastL d A) B
  | [], _, _ => rfl
  | p :: t, B, _d => lastL_append t B p.1
def LocAt (d : Rdr → Nat) (f : Rdr → Except Er Rdr) : Prop := ∀ R,
  (∀ R', f R = .ok R' → ∃ A, R.rows = A ++ R'.rows ∧ R'.behind = R.behind ∧ R'.line = lastL (d R) A ∧ ∀ T b, f (R.on (A ++ T) b) = .ok (R'.on T b)) ∧
  (∀ e, f R = .error e → e.2 ≠ 0 ∧ (e = (R.behind, 116) ∨ ∃ A B, R.rows = A ++ B ∧ e.1 = lastL (d R) A ∧ ∀ T b, f (R.on (A ++ T) b) = .error e))
abbrev Loc (f : Rdr → Except Er Rdr) : Prop := LocAt Rdr.line f
def andThen (f g : Rdr → Except Er Rdr) (R : Rdr) : Except Er Rdr := match f R with
  | .error e => .error e
  | .ok R' => g R'
theorem LocAt.andThen {d : Rdr → Nat} {f g : Rdr → Except Er Rdr} (hf : LocAt d f) (hg : Loc g) : LocAt d (andThen f g) := by
  intro R
  refine ⟨fun R' h => ?_, fun e h => ?_⟩
  · unfold Af.andThen at h
    cases hq : f R with
    | error e => rw [hq] at h; cases h
    | ok R1 =>
      rw [hq] at h
      obtain ⟨A, a1, a2, a3, a4⟩ := (hf R).1 R1 hq
      obtain ⟨A', b1, b2, b3, b4⟩ := (hg R1).1 R' h
      refine ⟨A ++ A', by rw [a1, b1, List.append_assoc], b2.trans a2, by rw [lastL_append, ← a3, b3], fun T b => ?_⟩
      unfold Af.andThen
      rw [List.append_assoc, a4]
      exact b4 T b
  · unfold Af.andThen at h
    cases hq : f R with
    | error e' =>
      rw [hq] at h
      injection h with h
      subst h
      obtain ⟨h0, z | ⟨A, B, a1, a2, a3⟩⟩ := (hf R).2 _ hq
      · exact ⟨h0, .inl z⟩
      · exact ⟨h0, .inr ⟨A, B, a1, a2, fun T b => by unfold Af.andThen; rw [a3]⟩⟩
    | ok R1 =>
      rw [hq] at h
      obtain ⟨A, a1, a2, a3, a4⟩ := (hf R).1 R1 hq
      obtain ⟨h0, z | ⟨A', B, b1, b2, b3⟩⟩ := (hg R1).2 _ h
      · exact ⟨h0, .inl (by rw [z, a2])⟩
      · exact ⟨h0, .inr ⟨A ++ A', B, by rw [a1, b1, List.append_assoc], by rw [lastL_append, ← a3, b2], fun T b => by unfold Af.andThen; rw [List.append_assoc, a4]; exact b3 T b⟩⟩
/-- the file alone changes -/
theorem loc_file (q : Fil → Fil) : Loc (fun R => .ok { R with file := q R.file }) := by
  intro R
  refine ⟨fun R' h => ?_, fun e h => by cases h⟩
  injection h with h
  subst h
  exact ⟨[], rfl, rfl, rfl, fun T b => rfl⟩
theorem loc_ok : Loc (fun R => .ok R) := loc_file id
def taken (k : Nat → List Bs → Fil → Except Er Fil) (R : Rdr) : Except Er Rdr := match R.rows with
  | [] => .error (R.behind, 116)
  | (l, row) :: t => match k l row R.file with
    | .error e => .error e
    | .ok F => .ok { R with rows := t, line := l, file := F }
theorem loc_taken {k : Nat → List Bs → Fil → Except Er Fil} (hk : ∀ l row F e, k l row F = .error e → e.1 = l ∧ e.2 ≠ 0) : Loc (taken k) := by
  intro R
  cases hr : R.rows with
  | nil =>
    refine ⟨fun R' h => ?_, fun e h => ?_⟩
    · unfold taken at h; rw [hr] at h; cases h
    · unfold taken at h; rw [hr] at h; injection h with h; subst h; exact ⟨by simp, .inl rfl⟩
  | cons p t =>
    obtain ⟨l, row⟩ := p
    refine ⟨fun R' h => ?_, fun e h => ?_⟩
    · unfold taken at h
      rw [hr] at h
      simp only at h
      cases hq : k l row R.file with
      | error e => rw [hq] at h; cases h
      | ok F =>
        rw [hq] at h
        injection h with h
        subst h
        refine ⟨[(l, row)], rfl, rfl, rfl, fun T b => ?_⟩
        unfold taken
        show (match k l row R.file with
          | .error e => _
          | .ok F => _) = _
        rw [hq]
        rfl
    · unfold taken at h
      rw [hr] at h
      simp only at h
      cases hq : k l row R.file with
      | ok F => rw [hq] at h; cases h
      | error e' =>
        rw [hq] at h
        injection h with h
        subst h
        refine ⟨(hk _ _ _ _ hq).2, .inr ⟨[(l, row)], t, rfl, (hk _ _ _ _ hq).1, fun T b => ?_⟩⟩
        unfold taken
        show (match k l row R.file with
          | .error e => _
          | .ok F => _) = _
        rw [hq]
def cased {α : Type} (v : List Bs → Fil → Nat → Except Er α) (g : α → Rdr → Except Er Rdr) (R : Rdr) : Except Er Rdr := match v R.heads R.file R.line with
  | .error e => .error e
  | .ok x => g x R
theorem tells_line {α : Type} {X : Nat → Except Er α} (h : Tells X) {l : Nat} {e : Er} (k : X l = .error e) : e.1 = l ∧ e.2 ≠ 0 := by
  obtain ⟨Y, h0, hY⟩ := h
  rw [hY l] at k
  cases Y with
  | error c => injection k with k; subst k; exact ⟨rfl, h0 c rfl⟩
  | ok a => cases k
theorem loc_cased {α : Type} {v : List Bs → Fil → Nat → Except Er α} {g : α → Rdr → Except Er Rdr} (hv : ∀ hs F, Tells (v hs F)) (hg : ∀ x, Loc (g x)) : Loc (cased v g) := by
  intro R
  cases hq : v R.heads R.file R.line with
  | error e =>
    refine ⟨fun R' h => ?_, fun e' h => ?_⟩
    · unfold cased at h; rw [hq] at h; cases h
    · unfold cased at h
      rw [hq] at h
      injection h with h
      subst h
      refine ⟨(tells_line (hv _ _) hq).2, .inr ⟨[], R.rows, rfl, (tells_line (hv _ _) hq).1, fun T b => ?_⟩⟩
      unfold cased
      show (match v R.heads R.file R.line with
        | .error e => _
        | .ok F => _) = _
      rw [hq]
  | ok x =>
    have key : ∀ T b, cased v g (R.on T b) = g x (R.on T b) := fun T b => by
      unfold cased
      show (match v R.heads R.file R.line with
        | .error e => _
        | .ok F => _) = _
      rw [hq]
    have k0 : cased v g R = g x R := by unfold cased; rw [hq]
    rw [k0]
    refine ⟨fun R' h => ?_, fun e h => ?_⟩
    · obtain ⟨A, a1, a2, a3, a4⟩ := (hg x R).1 R' h
      exact ⟨A, a1, a2, a3, fun T b => by rw [key]; exact a4 T b⟩
    · obtain ⟨h0, z | ⟨A, B, a1, a2, a3⟩⟩ := (hg x R).2 _ h
      · exact ⟨h0, .inl z⟩
      · exact ⟨h0, .inr ⟨A, B, a1, a2, fun T b => by rw [key]; exact a3 T b⟩⟩
theorem times_succ (f : Rdr → Except Er Rdr) (n : Nat) : times f (n + 1) = andThen f (times f n) := by
  funext R
  rw [times, andThen]
  cases f R <;> rfl
theorem loc_times {f : Rdr → Except Er Rdr} (hf : Loc f) : ∀ n, Loc (times f n)
  | 0 => by
    rw [show times f 0 = fun R => .ok R from by funext R; rfl]
    exact loc_ok
  | n + 1 => by
    rw [times_succ]
    exact LocAt.andThen hf (loc_times hf n)

/-! lines that are called otherwise -/
variable (g : Nat → Nat)
def mapU {α : Type} : Except Er α → Except Er α
  | .error e => .error (g e.1, e.2)
  | .ok a => .ok a
def mapF (F : Fil) : Fil := { F with rules := F.rules.map fun r => { r with line := g r.line } }
def mapR (R : Rdr) : Rdr := { R with file := mapF g R.file, rows := R.rows.map fun p => (g p.1, p.2), line := g R.line, behind := g R.behind }
def mapX : Except Er Rdr → Except Er Rdr
  | .error e => .error (g e.1, e.2)
  | .ok R => .ok (mapR g R)
def mapY : Except Er Fil → Except Er Fil
  | .error e => .error (g e.1, e.2)
  | .ok F => .ok (mapF g F)
def Eqv (f f' : Rdr → Except Er Rdr) : Prop := ∀ R, f' (mapR g R) = mapX g (f R)
variable {g}
theorem tells_map {α : Type} {X : Nat → Except Er α} (h : Tells X) (l : Nat) : X (g l) = mapU g (X l) := by
  obtain ⟨Y, -, hY⟩ := h
  rw [hY, hY]
  cases Y <;> rfl
theorem eqv_andThen {f f' q q' : Rdr → Except Er Rdr} (hf : Eqv g f f') (hq : Eqv g q q') : Eqv g (andThen f q) (andThen f' q') := by
  intro R
  unfold andThen
  rw [hf R]
  cases f R with
  | error e => rfl
  | ok R1 => exact hq R1
theorem eqv_file {q : Fil → Fil} (hq : ∀ F, q (mapF g F) = mapF g (q F)) : Eqv g (fun R => .ok { R with file := q R.file }) (fun R => .ok { R with file := q R.file }) := by
  intro R
  show Except.ok ({ mapR g R with file := q (mapF g R.file) } : Rdr) = _
  rw [hq]
  rfl
theorem eqv_ok : Eqv g (fun R => .ok R) (fun R => .ok R) := fun _ => rfl
theorem eqv_taken {k : Nat → List Bs → Fil → Except Er Fil} (hk : ∀ l row F, k (g l) row (mapF g F) = mapY g (k l row F)) : Eqv g (taken k) (taken k) := by
  intro R
  unfold taken
  cases hr : R.rows with
  | nil =>
    rw [show (mapR g R).rows = [] by simp [mapR, hr]]
    rfl
  | cons p t =>
    obtain ⟨l, row⟩ := p
    rw [show (mapR g R).rows = (g l, row) :: t.map (fun p => (g p.1, p.2)) by simp [mapR, hr]]
    simp only
    rw [show (mapR g R).file = mapF g R.file from rfl, hk]
    cases k l row R.file <;> rfl
theorem eqv_cased {α : Type} {v : List Bs → Fil → Nat → Except Er α} {q : α → Rdr → Except Er Rdr} (hv : ∀ hs F, Tells (v hs F)) (hm : ∀ hs F l, v hs (mapF g F) l = v hs F l) (hq : ∀ x, Eqv g (q x) (q x)) : Eqv g (cased v q) (cased v q) := by
  intro R
  unfold cased
  rw [show v (mapR g R).heads (mapR g R).file (mapR g R).line = mapU g (v R.heads R.file R.line) from (hm _ _ _).trans (tells_map (hv _ _) _)]
  cases v R.heads R.file R.line with
  | error e => rfl
  | ok x => exact hq x R
theorem eqv_times {f : Rdr → Except Er Rdr} (hf : Eqv g f f) : ∀ n, Eqv g (times f n) (times f n)
  | 0 => by
    rw [show times f 0 = fun R => .ok R from by funext R; rfl]
    exact eqv_ok
  | n + 1 => by
    rw [times_succ]
    exact eqv_andThen hf (eqv_times hf n)
end Af
end Go.Proofs.YtlajdmjpobckhaaGreatDoor
/- Plain: the groups, the headings and the whole of an affix file hang on the rows that they took alone; lines that are called otherwise. -/
namespace Go.Proofs.YtlajdmjpobckhaaGreatDoor
namespace Af
/-! rows of groups -/
def repK (key : Bs) (l : Nat) (row : List Bs) (F : Fil) : Except Er Fil := if row.take [key].length = [key] then (match repRow l row with
  | .error e => .error e
  | .ok p => .ok { F with reps := F.reps ++ [p] }) else .error (l, 116)
def aliK (key : Bs) (l : Nat) (row : List Bs) (F : Fil) : Except Er Fil := if row.take [key].length = [key] then (match aliRow F l row with
  | .error e => .error e
  | .ok p => .ok { F with aliases := F.aliases ++ [p] }) else .error (l, 116)
def rulK (beg : List Bs) (c : Cls) (l : Nat) (row : List Bs) (F : Fil) : Except Er Fil := if row.take beg.length = beg then (match rule0 F c row l with
  | .error e => .error e
  | .ok p => .ok { F with rules := F.rules ++ [{ p with line := l }] }) else .error (l, 116)
theorem repStep_eq (key : Bs) : repStep key = taken (repK key) := by
  funext R
  unfold repStep grow taken repK
  cases R.rows with
  | nil => rfl
  | cons p t =>
    obtain ⟨l, row⟩ := p
    simp only
    by_cases h : row.take [key].length = [key]
    · rw [if_pos h, if_pos h]
      simp only
      cases repRow l row <;> rfl
    · rw [if_neg h, if_neg h]
theorem aliStep_eq (key : Bs) : aliStep key = taken (aliK key) := by
  funext R
  unfold aliStep grow taken aliK
  cases R.rows with
  | nil => rfl
  | cons p t =>
    obtain ⟨l, row⟩ := p
    simp only
    by_cases h : row.take [key].length = [key]
    · rw [if_pos h, if_pos h]
      simp only
      cases aliRow R.file l row <;> rfl
    · rw [if_neg h, if_neg h]
theorem rulStep_eq (beg : List Bs) (c : Cls) : rulStep beg c = taken (rulK beg c) := by
  funext R
  unfold rulStep grow taken rulK
  cases R.rows with
  | nil => rfl
  | cons p t =>
    obtain ⟨l, row⟩ := p
    simp only
    by_cases h : row.take beg.length = beg
    · rw [if_pos h, if_pos h]
      simp only
      rw [rule_eq]
      cases rule0 R.file c row l <;> rfl
    · rw [if_neg h, if_neg h]
theorem loc_repStep (key : Bs) : Loc (repStep key) := by
  rw [repStep_eq]
  refine loc_taken fun l row F e h => ?_
  unfold repK at h
  split at h
  · split at h
    · rename_i e' he
      injection h with h
      subst h
      exact tells_line (tells_repRow row) he
    · cases h
  · injection h with h; subst h; exact ⟨rfl, by simp⟩
theorem loc_aliStep (key : Bs) : Loc (aliStep key) := by
  rw [aliStep_eq]
  refine loc_taken fun l row F e h => ?_
  unfold aliK at h
  split at h
  · split at h
    · rename_i e' he
      injection h with h
      subst h
      exact tells_line (tells_aliRow F row) he
    · cases h
  · injection h with h; subst h; exact ⟨rfl, by simp⟩
theorem loc_rulStep (beg : List Bs) (c : Cls) : Loc (rulStep beg c) := by
  rw [rulStep_eq]
  refine loc_taken fun l row F e h => ?_
  unfold rulK at h
  split at h
  · split at h
    · rename_i e' he
      injection h with h
      subst h
      exact tells_line (tells_rule0 F c row) he
    · cases h
  · injection h with h; subst h; exact ⟨rfl, by simp⟩
variable {g : Nat → Nat}
theorem eqv_repStep (key : Bs) : Eqv g (repStep key) (repStep key) := by
  rw [repStep_eq]
  refine eqv_taken fun l row F => ?_
  unfold repK
  split
  · rw [tells_map (tells_repRow row)]
    cases repRow l row <;> rfl
  · rfl
theorem eqv_aliStep (key : Bs) : Eqv g (aliStep key) (aliStep key) := by
  rw [aliStep_eq]
  refine eqv_taken fun l row F => ?_
  unfold aliK
  split
  · rw [show aliRow (mapF g F) (g l) row = aliRow F (g l) row from rfl, tells_map (tells_aliRow F row)]
    cases aliRow F l row <;> rfl
  · rfl
theorem eqv_rulStep (beg : List Bs) (c : Cls) : Eqv g (rulStep beg c) (rulStep beg c) := by
  rw [rulStep_eq]
  refine eqv_taken fun l row F => ?_
  unfold rulK
  split
  · rw [show rule0 (mapF g F) c row (g l) = rule0 F c row (g l) from rfl, tells_map (tells_rule0 F c row)]
    cases rule0 F c row l with
    | error e => rfl
    | ok p => simp [mapU, mapY, mapF]
  · rfl

/-! keys -/
def kindK (f : Bs) (hs : List Bs) (F : Fil) (l : Nat) : Except Er Int :=
  if (∃ x ∈ F.specials, x ≠ 0) ∨ [65, 70] ∈ hs ∨ F.classes ≠ [] then .error (l, 113)
  else if f = [115, 104, 111, 114, 116] then .ok 1
  else if f = [108, 111, 110, 103] then .ok 2
  else if f = [110, 117, 109] then .ok 3
  else .error (l, 114)
theorem doKind_eq (f : Bs) : (fun R => doKind R f) = cased (kindK f) (fun x R => .ok { R with file := { R.file with kind := x } }) := by
  funext R
  unfold doKind cased kindK
  repeat' split
  all_goals first | rfl | (simp_all; done)
def letK (f : Bs) (_ : List Bs) (_ : Fil) (l : Nat) : Except Er Bs := if VlW.okB f = true then .ok f else .error (l, 21)
theorem doCharset_eq (f : Bs) : (fun R => doCharset R f) = cased (letK f) (fun x R => .ok { R with file := { R.file with charset := x } }) := by
  funext R
  unfold doCharset cased letK
  by_cases h : VlW.okB f = true
  · rw [if_pos h, if_pos h]
  · rw [if_neg h, if_neg h]
theorem doLetters_eq (f : Bs) : (fun R => doLetters R f) = cased (letK f) (fun x R => .ok { R with file := { R.file with letters := Wd.uq [] x } }) := by
  funext R
  unfold doLetters cased letK
  by_cases h : VlW.okB f = true
  · rw [if_pos h, if_pos h]
  · rw [if_neg h, if_neg h]
theorem doSpecial_eq (i : Nat) (f : Bs) : (fun R => doSpecial i R f) = cased (fun _ F => newFlagK F f) (fun x R => .ok { R with file := { R.file with specials := R.file.specials.set i x } }) := by
  funext R
  unfold doSpecial cased
  rw [newFlag_eq]
  simp only
  cases newFlagK R.file f R.line <;> rfl
def leastK (f : Bs) (_ : List Bs) (_ : Fil) (l : Nat) : Except Er Nat := match numb l f 64 with
  | .error e => .error e
  | .ok n => if n = 0 then .error (l, 13) else .ok n
theorem doLeast_eq (f : Bs) : (fun R => doLeast R f) = cased (leastK f) (fun x R => .ok { R with file := { R.file with least := x } }) := by
  funext R
  unfold doLeast cased leastK
  cases numb R.line f 64 with
  | error e => rfl
  | ok n =>
    simp only
    by_cases h : n = 0
    · rw [if_pos h, if_pos h]
    · rw [if_neg h, if_neg h]
theorem doReps_eq (h : List Bs) : (fun R => doReps R h) = cased (fun _ _ l => numb l (fld h 1) 256) (fun n => times (repStep (fld h 0)) n) := by
  funext R
  unfold doReps cased
  simp only
  cases numb R.line (fld h 1) 256 <;> rfl
def aliN (h : List Bs) (_ : List Bs) (F : Fil) (l : Nat) : Except Er Nat := if F.classes ≠ [] then .error (l, 113) else numb l (fld h 1) 1024
theorem doAliases_eq (h : List Bs) : (fun R => doAliases R h) = cased (aliN h) (fun n => times (aliStep (fld h 0)) n) := by
  funext R
  unfold doAliases cased aliN
  by_cases hc : R.file.classes ≠ []
  · rw [if_pos hc, if_pos hc]
  · rw [if_neg hc, if_neg hc]
    cases numb R.line (fld h 1) 1024 <;> rfl
def clsK (k : Int) (h : List Bs) (_ : List Bs) (F : Fil) (l : Nat) : Except Er Cls := match newFlagK F (fld h 1) l with
  | .error e => .error e
  | .ok x => if fld h 2 ≠ [89] ∧ fld h 2 ≠ [78] then .error (l, 114) else match numb l (fld h 3) 1024 with
    | .error e => .error e
    | .ok n => if 1024 < F.rules.length + n then .error (l, 117) else .ok ⟨x, k, fld h 2 == [89], F.rules.length, n⟩
def clsG (h : List Bs) (c : Cls) : Rdr → Except Er Rdr := andThen (fun R => .ok { R with file := { R.file with classes := R.file.classes ++ [c] } }) (times (rulStep [fld h 0, fld h 1] c) c.count)
theorem doClass_eq (k : Int) (h : List Bs) : (fun R => doClass k R h) = cased (clsK k h) (clsG h) := by
  funext R
  unfold doClass cased clsK
  rw [newFlag_eq]
  cases newFlagK R.file (fld h 1) R.line with
  | error e => rfl
  | ok x =>
    simp only
    by_cases h2 : fld h 2 ≠ [89] ∧ fld h 2 ≠ [78]
    · rw [if_pos h2, if_pos h2]
    · rw [if_neg h2, if_neg h2]
      cases numb R.line (fld h 3) 1024 with
      | error e => rfl
      | ok n =>
        simp only
        by_cases h3 : 1024 < R.file.rules.length + n
        · rw [if_pos h3, if_pos h3]
        · rw [if_neg h3, if_neg h3]
          rfl
theorem tells_kindK (f : Bs) (hs : List Bs) (F : Fil) : Tells (kindK f hs F) := by
  unfold kindK
  exact tells_ite (tells_no _) (tells_ite (tells_ok _) (tells_ite (tells_ok _) (tells_ite (tells_ok _) (tells_no _))))
theorem tells_letK (f : Bs) (hs : List Bs) (F : Fil) : Tells (letK f hs F) := by
  unfold letK
  exact tells_ite (tells_ok _) (tells_no _)
theorem tells_leastK (f : Bs) (hs : List Bs) (F : Fil) : Tells (leastK f hs F) := by
  unfold leastK
  exact tells_then (fun n l => if n = 0 then .error (l, 13) else .ok n) (tells_numb f 64) (fun n => tells_ite (tells_no _) (tells_ok _)) (fun l e h => by simp only [h]) (fun l x h => by simp only [h])
theorem tells_aliN (h : List Bs) (hs : List Bs) (F : Fil) : Tells (aliN h hs F) := by
  unfold aliN
  exact tells_ite (tells_no _) (tells_numb _ _)
theorem tells_clsK (k : Int) (h : List Bs) (hs : List Bs) (F : Fil) : Tells (clsK k h hs F) := by
  unfold clsK
  refine tells_then (fun x l => if fld h 2 ≠ [89] ∧ fld h 2 ≠ [78] then .error (l, 114) else match numb l (fld h 3) 1024 with
    | .error e => .error e
    | .ok n => if 1024 < F.rules.length + n then .error (l, 117) else .ok ⟨x, k, fld h 2 == [89], F.rules.length, n⟩) (tells_newFlag F (fld h 1)) (fun x => ?_) (fun l e h => by simp only [h]) (fun l x hx => by simp only [hx])
  refine tells_ite (tells_no _) ?_
  exact tells_then (fun n l => if 1024 < F.rules.length + n then .error (l, 117) else .ok ⟨x, k, fld h 2 == [89], F.rules.length, n⟩) (tells_numb (fld h 3) 1024) (fun n => tells_ite (tells_no _) (tells_ok _)) (fun l e h => by simp only [h]) (fun l x h => by simp only [h])
theorem loc_doKey (h : List Bs) (k : Key) : Loc (fun R => doKey R h k) := by
  cases k with
  | kind =>
    show Loc (fun R => doKind R (fld h 1))
    rw [doKind_eq]
    exact loc_cased (tells_kindK _) fun x => loc_file (fun F => { F with kind := x })
  | charset =>
    show Loc (fun R => doCharset R (fld h 1))
    rw [doCharset_eq]
    exact loc_cased (tells_letK _) fun x => loc_file (fun F => { F with charset := x })
  | letters =>
    show Loc (fun R => doLetters R (fld h 1))
    rw [doLetters_eq]
    exact loc_cased (tells_letK _) fun x => loc_file (fun F => { F with letters := Wd.uq [] x })
  | special i =>
    show Loc (fun R => doSpecial i R (fld h 1))
    rw [doSpecial_eq]
    exact loc_cased (fun _ F => tells_newFlag F _) fun x => loc_file (fun F => { F with specials := F.specials.set i x })
  | least =>
    show Loc (fun R => doLeast R (fld h 1))
    rw [doLeast_eq]
    exact loc_cased (tells_leastK _) fun x => loc_file (fun F => { F with least := x })
  | reps =>
    show Loc (fun R => doReps R h)
    rw [doReps_eq]
    exact loc_cased (fun _ _ => tells_numb _ _) fun n => loc_times (loc_repStep _) n
  | aliases =>
    show Loc (fun R => doAliases R h)
    rw [doAliases_eq]
    exact loc_cased (tells_aliN _) fun n => loc_times (loc_aliStep _) n
  | cls kk =>
    show Loc (fun R => doClass kk R h)
    rw [doClass_eq]
    exact loc_cased (tells_clsK _ _) fun c => LocAt.andThen (loc_file (fun F => { F with classes := F.classes ++ [c] })) (loc_times (loc_rulStep _ _) _)
theorem eqv_doKey (h : List Bs) (k : Key) : Eqv g (fun R => doKey R h k) (fun R => doKey R h k) := by
  cases k with
  | kind =>
    show Eqv g (fun R => doKind R (fld h 1)) (fun R => doKind R (fld h 1))
    rw [doKind_eq]
    exact eqv_cased (tells_kindK _) (fun _ _ _ => rfl) fun x => eqv_file (q := fun F => { F with kind := x }) fun _ => rfl
  | charset =>
    show Eqv g (fun R => doCharset R (fld h 1)) (fun R => doCharset R (fld h 1))
    rw [doCharset_eq]
    exact eqv_cased (tells_letK _) (fun _ _ _ => rfl) fun x => eqv_file (q := fun F => { F with charset := x }) fun _ => rfl
  | letters =>
    show Eqv g (fun R => doLetters R (fld h 1)) (fun R => doLetters R (fld h 1))
    rw [doLetters_eq]
    exact eqv_cased (tells_letK _) (fun _ _ _ => rfl) fun x => eqv_file (q := fun F => { F with letters := Wd.uq [] x }) fun _ => rfl
  | special i =>
    show Eqv g (fun R => doSpecial i R (fld h 1)) (fun R => doSpecial i R (fld h 1))
    rw [doSpecial_eq]
    exact eqv_cased (fun _ F => tells_newFlag F _) (fun _ _ _ => rfl) fun x => eqv_file (q := fun F => { F with specials := F.specials.set i x }) fun _ => rfl
  | least =>
    show Eqv g (fun R => doLeast R (fld h 1)) (fun R => doLeast R (fld h 1))
    rw [doLeast_eq]
    exact eqv_cased (tells_leastK _) (fun _ _ _ => rfl) fun x => eqv_file (q := fun F => { F with least := x }) fun _ => rfl
  | reps =>
    show Eqv g (fun R => doReps R h) (fun R => doReps R h)
    rw [doReps_eq]
    exact eqv_cased (fun _ _ => tells_numb _ _) (fun _ _ _ => rfl) fun n => eqv_times (eqv_repStep _) n
  | aliases =>
    show Eqv g (fun R => doAliases R h) (fun R => doAliases R h)
    rw [doAliases_eq]
    exact eqv_cased (tells_aliN _) (fun _ _ _ => rfl) fun n => eqv_times (eqv_aliStep _) n
  | cls kk =>
    show Eqv g (fun R => doClass kk R h) (fun R => doClass kk R h)
    rw [doClass_eq]
    refine eqv_cased (tells_clsK _ _) (fun hs F l => ?_) fun c => eqv_andThen (eqv_file (q := fun F => { F with classes := F.classes ++ [c] }) fun _ => rfl) (eqv_times (eqv_rulStep _ _) _)
    have e : (mapF g F).rules.length = F.rules.length := by simp [mapF]
    unfold clsK
    rw [e]
    rfl

/-! a heading -/
def headK (h : List Bs) (hs : List Bs) (_ : Fil) (l : Nat) : Except Er Key := match kwOf (fld h 0) with
  | none => .error (l, 110)
  | some k => if h.length ≠ k.fields then .error (l, 111) else if k.again = false ∧ fld h 0 ∈ hs then .error (l, 112) else .ok k.key
theorem tells_headK (h : List Bs) (hs : List Bs) (F : Fil) : Tells (headK h hs F) := by
  unfold headK
  cases kwOf (fld h 0) with
  | none => exact tells_no _
  | some k => exact tells_ite (tells_no _) (tells_ite (tells_no _) (tells_ok _))
def addHead (n : Bs) (R : Rdr) : Except Er Rdr := .ok { R with heads := R.heads ++ [n] }
theorem loc_addHead (n : Bs) : Loc (addHead n) := by
  intro R
  refine ⟨fun R' h => ?_, fun e h => by cases h⟩
  injection h with h
  subst h
  exact ⟨[], rfl, rfl, rfl, fun T b => rfl⟩
theorem eqv_addHead (n : Bs) : Eqv g (addHead n) (addHead n) := fun _ => rfl
def setLine (l : Nat) (R : Rdr) : Except Er Rdr := .ok { R with line := l }
theorem loc_setLine (l : Nat) : LocAt (fun _ => l) (setLine l) := by
  intro R
  refine ⟨fun R' h => ?_, fun e h => by cases h⟩
  injection h with h
  subst h
  exact ⟨[], rfl, rfl, rfl, fun T b => rfl⟩
theorem eqv_setLine (l : Nat) : Eqv g (setLine l) (setLine (g l)) := fun _ => rfl
theorem heading_eq (l : Nat) (h : List Bs) : (fun R => heading R l h) = andThen (setLine l) (cased (headK h) (fun k => andThen (fun R => doKey R h k) (addHead (fld h 0)))) := by
  funext R
  unfold heading andThen setLine cased headK
  simp only
  cases kwOf (fld h 0) with
  | none => rfl
  | some k =>
    simp only
    by_cases h1 : h.length ≠ k.fields
    · rw [if_pos h1, if_pos h1]
    · rw [if_neg h1, if_neg h1]
      by_cases h2 : k.again = false ∧ fld h 0 ∈ R.heads
      · rw [if_pos h2, if_pos h2]
      · rw [if_neg h2, if_neg h2]
        simp only
        cases doKey { R with line := l } h k.key <;> rfl
theorem loc_heading (l : Nat) (h : List Bs) : LocAt (fun _ => l) (fun R => heading R l h) := by
  rw [heading_eq]
  exact LocAt.andThen (loc_setLine l) (loc_cased (tells_headK h) fun k => LocAt.andThen (loc_doKey h k) (loc_addHead _))
theorem eqv_heading (l : Nat) (h : List Bs) : Eqv g (fun R => heading R l h) (fun R => heading R (g l) h) := by
  rw [heading_eq, heading_eq]
  exact eqv_andThen (eqv_setLine l) (eqv_cased (tells_headK h) (fun _ _ _ => rfl) fun k => eqv_andThen (eqv_doKey h k) (eqv_addHead _))

/-! all headings -/
theorem heads_loc : ∀ (n : Nat) (R : Rdr) (e : Er), heads n R = .error e → e.2 ≠ 0 ∧ (e = (R.behind, 116) ∨ ∃ A B, A ≠ [] ∧ R.rows = A ++ B ∧ e.1 = lastL R.line A ∧ ∀ T b m, (A ++ T).length ≤ m → heads m (R.on (A ++ T) b) = .error e)
  | 0, R, e, h => by cases h
  | n + 1, R, e, h => by
    unfold heads at h
    cases hr : R.rows with
    | nil => rw [hr] at h; cases h
    | cons p t =>
      obtain ⟨l, hd⟩ := p
      rw [hr] at h
      simp only at h
      have L := loc_heading l hd { R with rows := t }
      have go : ∀ (A T : RowL) b m, ((l, hd) :: A ++ T).length ≤ m → ∃ m', m = m' + 1 ∧ heads m (R.on ((l, hd) :: A ++ T) b) = (match heading (({ R with rows := t } : Rdr).on (A ++ T) b) l hd with
        | .error e => .error e
        | .ok R' => heads m' R') := by
        intro A T b m hm
        cases m with
        | zero => simp at hm
        | succ m' => exact ⟨m', rfl, rfl⟩
      cases hq : heading { R with rows := t } l hd with
      | error e' =>
        rw [hq] at h
        injection h with h
        subst h
        obtain ⟨h0, z | ⟨A, B, a1, a2, a3⟩⟩ := L.2 _ hq
        · exact ⟨h0, .inl z⟩
        · refine ⟨h0, .inr ⟨(l, hd) :: A, B, by simp, by rw [show t = A ++ B from a1]; rfl, a2, fun T b m hm => ?_⟩⟩
          obtain ⟨m', -, e⟩ := go A T b m hm
          have q := a3 T b
          simp only at q
          rw [e, q]
      | ok R1 =>
        rw [hq] at h
        simp only at h
        obtain ⟨A, a1, a2, a3, a4⟩ := L.1 R1 hq
        have a1 : t = A ++ R1.rows := a1
        have a2 : R1.behind = R.behind := a2
        obtain ⟨h0, z | ⟨A', B, b0, b1, b2, b3⟩⟩ := heads_loc n R1 e h
        · exact ⟨h0, .inl (by rw [z, a2])⟩
        · refine ⟨h0, .inr ⟨(l, hd) :: (A ++ A'), B, by simp, by rw [a1, b1, List.cons_append, List.append_assoc], ?_, fun T b m hm => ?_⟩⟩
          · show e.1 = lastL l (A ++ A')
            rw [lastL_append, ← a3, b2]
          · obtain ⟨m', e1, e2⟩ := go (A ++ A') T b m hm
            have q := a4 (A' ++ T) b
            simp only at q
            rw [e2, List.append_assoc, q]
            refine b3 T b m' ?_
            subst e1
            simp at hm ⊢
            omega
theorem eqv_heads : ∀ n, Eqv g (heads n) (heads n)
  | 0 => fun _ => rfl
  | n + 1 => by
    intro R
    unfold heads
    cases hr : R.rows with
    | nil =>
      rw [show (mapR g R).rows = [] by simp [mapR, hr]]
      rfl
    | cons p t =>
      obtain ⟨l, hd⟩ := p
      rw [show (mapR g R).rows = (g l, hd) :: t.map (fun p => (g p.1, p.2)) by simp [mapR, hr]]
      simp only
      have e := eqv_heading (g := g) l hd { R with rows := t }
      simp only at e
      rw [show ({ mapR g R with rows := t.map fun p => (g p.1, p.2) } : Rdr) = mapR g { R with rows := t } from rfl, e]
      cases heading { R with rows := t } l hd with
      | error e => rfl
      | ok R1 => exact eqv_heads n R1
theorem goesOn_map (F : Fil) (x : Int) : goesOn (mapF g F) x = goesOn F x := rfl
theorem nexts_map (F : Fil) : nexts (mapF g F) = (nexts F).map g := by
  unfold nexts
  show ((F.rules.map fun r => ({ r with line := g r.line } : Rul)).find? _).map _ = _
  rw [List.find?_map, Option.map_map, Option.map_map]
  rfl
end Af
end Go.Proofs.YtlajdmjpobckhaaGreatDoor
/- Plain: lines put together as a text again; rows of many lines; what AffFirst and AffRemarks say, plainly. -/
namespace Go.Proofs.YtlajdmjpobckhaaGreatDoor
namespace Af
def joinL : List Bs → Bs
  | [] => []
  | l :: t => l ++ [13, 10] ++ joinL t
theorem joinL_append : ∀ (A B : List Bs), joinL (A ++ B) = joinL A ++ joinL B
  | [], _ => rfl
  | l :: t, B => by simp [joinL, joinL_append t B]
theorem bef_app : ∀ (a Z : Bs), (10 : UInt8) ∉ a → Ln.bef (a ++ 10 :: Z) = a ∧ Ln.aft (a ++ 10 :: Z) = Z
  | [], Z, _ => by simp [Ln.bef, Ln.aft]
  | c :: t, Z, h => by
    have hc : ¬ c = 10 := fun e => h (by simp [e])
    obtain ⟨h1, h2⟩ := bef_app t Z (fun e => h (by simp [e]))
    simp [Ln.bef, Ln.aft, hc, h1, h2]
theorem bef_no : ∀ (a : Bs), (10 : UInt8) ∉ Ln.bef a
  | [] => by simp [Ln.bef]
  | c :: t => by
    unfold Ln.bef
    split
    · simp
    · rename_i h
      intro e
      rcases List.mem_cons.1 e with e | e
      · exact h e.symm
      · exact bef_no t e
theorem ended_sub (a : Bs) : ∀ x ∈ Ln.ended a, x ∈ a := by
  intro x hx
  unfold Ln.ended at hx
  split at hx
  · exact List.dropLast_subset _ hx
  · exact hx
theorem ln_no : ∀ (n : Nat) (l : Bs), l.length ≤ n → ∀ x ∈ Ln.ln l, (10 : UInt8) ∉ x
  | 0, l, h => by
    have : l = [] := List.eq_nil_of_length_eq_zero (by omega)
    subst this
    simp [Ln.ln_nil]
  | n + 1, l, h => by
    intro x hx
    by_cases hl : l = []
    · subst hl; simp [Ln.ln_nil] at hx
    · have h1 := Ln.aft_lt l hl
      rw [Ln.ln_cons l hl] at hx
      rcases List.mem_cons.1 hx with rfl | hx
      · exact fun e => bef_no l (ended_sub _ _ e)
      · exact ln_no n (Ln.aft l) (by omega) x hx
theorem linesOf_no (l : Bs) : ∀ x ∈ Ln.linesOf l, (10 : UInt8) ∉ x := ln_no _ _ (Nat.le_refl _)
theorem ln_join : ∀ (L : List Bs) (Y : Bs), (∀ x ∈ L, (10 : UInt8) ∉ x) → Ln.ln (joinL L ++ Y) = L ++ Ln.ln Y
  | [], Y, _ => rfl
  | l :: t, Y, h => by
    have e : joinL (l :: t) ++ Y = (l ++ [13]) ++ 10 :: (joinL t ++ Y) := by simp [joinL]
    have hn : (10 : UInt8) ∉ l ++ [13] := by
      intro q
      rcases List.mem_append.1 q with q | q
      · exact h l (by simp) q
      · simp at q
    obtain ⟨h1, h2⟩ := bef_app (l ++ [13]) (joinL t ++ Y) hn
    rw [e, Ln.ln_cons _ (by simp), h1, h2, Ln.ended_yes rfl rfl, ln_join t Y (fun x hx => h x (by simp [hx]))]
    rfl
theorem unmark_no {l : Bs} (h : Lib.hasPrefix l Ln.mark = false) : Ln.unmark l = l := by
  unfold Ln.unmark Lib.trimPrefix
  rw [h]
  rfl
theorem linesOf_join {L : List Bs} {Y : Bs} (hm : Lib.hasPrefix (joinL L ++ Y) Ln.mark = false) (h : ∀ x ∈ L, (10 : UInt8) ∉ x) : Ln.linesOf (joinL L ++ Y) = L ++ Ln.ln Y := by
  unfold Ln.linesOf
  rw [unmark_no hm, ln_join L Y h]
theorem no_mark {l : Bs} (h : ¬ Ln.mark <+: l) : Lib.hasPrefix l Ln.mark = false := by
  cases q : Lib.hasPrefix l Ln.mark with
  | false => rfl
  | true => exact absurd (List.isPrefixOf_iff_prefix.1 q) h
theorem of_mark {l : Bs} (h : Lib.hasPrefix l Ln.mark = false) : ¬ Ln.mark <+: l := fun q => by
  have : Lib.hasPrefix l Ln.mark = true := List.isPrefixOf_iff_prefix.2 q
  rw [h] at this
  cases this
theorem mark_head {L : List Bs} (hL : L ≠ []) (hm : Lib.hasPrefix (joinL L) Ln.mark = false) (Y : Bs) : Lib.hasPrefix (joinL L ++ Y) Ln.mark = false := by
  refine no_mark fun q => ?_
  by_cases hl : 3 ≤ (joinL L).length
  · exact of_mark hm (List.prefix_of_prefix_length_le q (List.prefix_append _ _) (by simpa [Ln.mark] using hl))
  · cases L with
    | nil => exact hL rfl
    | cons l t =>
      simp [joinL] at hl
      have hl0 : l = [] := List.eq_nil_of_length_eq_zero (by omega)
      subst hl0
      obtain ⟨z, hz⟩ := q
      simp [joinL, Ln.mark] at hz
theorem mark_left {a b : Bs} (h : Lib.hasPrefix (a ++ b) Ln.mark = false) : Lib.hasPrefix a Ln.mark = false :=
  no_mark fun q => of_mark h (q.trans (List.prefix_append _ _))

/-! rows of many lines -/
def rowsN (k : Nat) (L : List Bs) : RowL := Rw.rowsP (Ln.num k L)
theorem rowsOf_eq (l : Bs) : Rw.rowsOf l = rowsN 1 (Ln.linesOf l) := rfl
theorem rowsN_cons (k : Nat) (l : Bs) (t : List Bs) : rowsN k (l :: t) = Rw.rowOf k l ++ rowsN (k + 1) t := by
  show Rw.rowOf k (Fld.str l).data.toList ++ _ = _
  rw [show (Fld.str l).data.toList = l by simp [Fld.str]]
  rfl
theorem rowsN_nil (k : Nat) : rowsN k [] = [] := rfl
theorem rowsN_append : ∀ (A B : List Bs) (k : Nat), rowsN k (A ++ B) = rowsN k A ++ rowsN (k + A.length) B
  | [], B, k => rfl
  | l :: t, B, k => by
    rw [List.cons_append, rowsN_cons, rowsN_cons, rowsN_append t B (k + 1), List.append_assoc]
    congr 2
    simp
    congr 1
    omega
theorem rowOf_line {k : Nat} {l : Bs} {p : Nat × List Bs} (h : p ∈ Rw.rowOf k l) : p.1 = k := by
  unfold Rw.rowOf at h
  split at h
  · cases h
  · simp at h; rw [h]
theorem rowsN_line : ∀ (L : List Bs) (k : Nat) (p : Nat × List Bs), p ∈ rowsN k L → k ≤ p.1 ∧ p.1 < k + L.length
  | [], k, p, h => by cases h
  | l :: t, k, p, h => by
    rw [rowsN_cons] at h
    rcases List.mem_append.1 h with h | h
    · have := rowOf_line h; simp; omega
    · have := rowsN_line t (k + 1) p h; simp; omega
theorem rowOf_sorted (k : Nat) (l : Bs) : (Rw.rowOf k l).Pairwise fun a b => a.1 < b.1 := by
  unfold Rw.rowOf
  split <;> simp
theorem rowsN_sorted : ∀ (L : List Bs) (k : Nat), (rowsN k L).Pairwise fun a b => a.1 < b.1
  | [], k => by simp [rowsN_nil]
  | l :: t, k => by
    rw [rowsN_cons, List.pairwise_append]
    refine ⟨rowOf_sorted k l, rowsN_sorted t (k + 1), fun a ha b hb => ?_⟩
    have := rowOf_line ha
    have := rowsN_line t (k + 1) b hb
    omega
theorem rowOf_map (g : Nat → Nat) (k : Nat) (l : Bs) : (Rw.rowOf k l).map (fun p => (g p.1, p.2)) = Rw.rowOf (g k) l := by
  unfold Rw.rowOf
  split <;> simp
theorem rowsN_map (g : Nat → Nat) : ∀ (L : List Bs) (k k' : Nat), (∀ j, j < L.length → g (k + j) = k' + j) → (rowsN k L).map (fun p => (g p.1, p.2)) = rowsN k' L
  | [], _, _, _ => rfl
  | l :: t, k, k', h => by
    have h0 := h 0 (by simp)
    simp only [Nat.add_zero] at h0
    rw [rowsN_cons, rowsN_cons, List.map_append, rowOf_map, h0, rowsN_map g t (k + 1) (k' + 1) fun j hj => ?_]
    have := h (j + 1) (by simpa using hj)
    rw [show k + 1 + j = k + (j + 1) by omega, this]
    omega
theorem lastL_mem : ∀ (A : RowL) (d : Nat), A ≠ [] → ∃ A0 a, A = A0 ++ [a] ∧ lastL d A = a.1
  | [], _, h => absurd rfl h
  | [p], d, _ => ⟨[], p, rfl, rfl⟩
  | p :: q :: t, d, _ => by
    obtain ⟨A0, a, h1, h2⟩ := lastL_mem (q :: t) p.1 (by simp)
    exact ⟨p :: A0, a, by rw [h1]; rfl, h2⟩
theorem cut_rows {L : List Bs} {A B : RowL} {d k : Nat} (h : rowsN 1 L = A ++ B) (hA : A ≠ []) (hk : lastL d A = k) : 1 ≤ k ∧ k ≤ L.length ∧ rowsN 1 (L.take k) = A := by
  obtain ⟨A0, a, rfl, h2⟩ := lastL_mem A d hA
  have hak : a.1 = k := by rw [← hk, h2]
  have hs := rowsN_sorted L 1
  rw [h, List.append_assoc, List.pairwise_append] at hs
  obtain ⟨s1, s2, s3⟩ := hs
  rw [List.singleton_append, List.pairwise_cons] at s2
  have ha := rowsN_line L 1 a (by rw [h]; simp)
  have hkl : k ≤ L.length := by omega
  refine ⟨by omega, hkl, ?_⟩
  have e : rowsN 1 L = rowsN 1 (L.take k) ++ rowsN (1 + k) (L.drop k) := by
    have := rowsN_append (L.take k) (L.drop k) 1
    rw [List.take_append_drop, List.length_take, Nat.min_eq_left hkl] at this
    exact this
  have f1 : (rowsN 1 L).filter (fun p => decide (p.1 ≤ k)) = A0 ++ [a] := by
    rw [h, List.filter_append]
    have x1 : (A0 ++ [a]).filter (fun p => decide (p.1 ≤ k)) = A0 ++ [a] := by
      rw [List.filter_eq_self]
      intro p hp
      rcases List.mem_append.1 hp with hp | hp
      · have := s3 p hp a (by simp)
        simp
        omega
      · simp at hp
        subst hp
        simp
        omega
    have x2 : B.filter (fun p => decide (p.1 ≤ k)) = [] := by
      rw [List.filter_eq_nil_iff]
      intro p hp
      have := s2.1 p hp
      simp
      omega
    rw [x1, x2, List.append_nil]
  have f2 : (rowsN 1 L).filter (fun p => decide (p.1 ≤ k)) = rowsN 1 (L.take k) := by
    rw [e, List.filter_append]
    have x1 : (rowsN 1 (L.take k)).filter (fun p => decide (p.1 ≤ k)) = rowsN 1 (L.take k) := by
      rw [List.filter_eq_self]
      intro p hp
      have := rowsN_line _ _ p hp
      rw [List.length_take, Nat.min_eq_left hkl] at this
      simp
      omega
    have x2 : (rowsN (1 + k) (L.drop k)).filter (fun p => decide (p.1 ≤ k)) = [] := by
      rw [List.filter_eq_nil_iff]
      intro p hp
      have := rowsN_line _ _ p hp
      simp
      omega
    rw [x1, x2, List.append_nil]
  rw [← f2, f1]

/-! AffFirst -/
theorem affR_error {l : Bs} (hl : ¬ 65536 < l.length) {e : Er} (h : heads (Rw.rowsOf l).length (start l) = .error e) : affR l = .error e := by
  rw [affR_short hl, h]
  rfl
theorem of_affR {l : Bs} (hl : ¬ 65536 < l.length) {e : Er} (h : affR l = .error e) (hc : e.2 ≠ 118) : heads (Rw.rowsOf l).length (start l) = .error e := by
  rw [affR_short hl] at h
  cases hh : heads (Rw.rowsOf l).length (start l) with
  | error e' =>
    rw [hh] at h
    unfold affEnd at h
    injection h with h
    rw [h]
  | ok R =>
    rw [hh] at h
    unfold affEnd at h
    simp only at h
    split at h
    · injection h with h
      subst h
      exact absurd rfl hc
    · cases h
theorem affR_code {l : Bs} {e : Er} (h : affR l = .error e) : e.2 ≠ 0 := by
  by_cases hl : 65536 < l.length
  · unfold affR at h
    rw [if_pos hl] at h
    injection h with h
    subst h
    simp
  · by_cases hc : e.2 = 118
    · rw [hc]; decide
    · exact (heads_loc _ _ _ (of_affR hl h hc)).1
theorem first_law {l : Bs} (hl : ¬ 65536 < l.length) {k c : Nat} (h : affR l = .error (k, c)) (hc : c ≠ 118) :
    (k = (Ln.linesOf l).length + 1 ∧ c = 116) ∨ (1 ≤ k ∧ k ≤ (Ln.linesOf l).length ∧
      (∀ Y, ¬ 65536 < (joinL ((Ln.linesOf l).take k) ++ Y).length → Lib.hasPrefix (joinL ((Ln.linesOf l).take k)) Ln.mark = false → affR (joinL ((Ln.linesOf l).take k) ++ Y) = .error (k, c)) ∧
      (¬ 65536 < (joinL ((Ln.linesOf l).take (k - 1))).length → Lib.hasPrefix (joinL ((Ln.linesOf l).take (k - 1))) Ln.mark = false → ∀ e, affR (joinL ((Ln.linesOf l).take (k - 1))) = .error e → e.2 = 118 ∨ e = (k, 116))) := by
  have hh := of_affR hl h hc
  obtain ⟨-, z | ⟨A, B, hA, a1, a2, a3⟩⟩ := heads_loc _ _ _ hh
  · have z : (k, c) = ((Ln.linesOf l).length + 1, 116) := z
    injection z with z1 z2
    exact .inl ⟨z1, z2⟩
  · have a1 : rowsN 1 (Ln.linesOf l) = A ++ B := a1
    have a2 : k = lastL 0 A := a2
    obtain ⟨k1, k2, k3⟩ := cut_rows a1 hA a2.symm
    refine .inr ⟨k1, k2, fun Y hY hm => ?_, fun hb hm e he => ?_⟩
    · have hne : (Ln.linesOf l).take k ≠ [] := by
        intro q
        have := congrArg List.length q
        rw [List.length_take, List.length_nil] at this
        omega
      have hln := linesOf_join (Y := Y) (mark_head hne hm Y) (fun x hx => linesOf_no l x (List.mem_of_mem_take hx))
      have hrows : Rw.rowsOf (joinL ((Ln.linesOf l).take k) ++ Y) = A ++ rowsN (1 + k) (Ln.ln Y) := by
        rw [rowsOf_eq, hln, rowsN_append, k3, List.length_take, Nat.min_eq_left k2]
      refine affR_error hY ?_
      rw [show start (joinL ((Ln.linesOf l).take k) ++ Y) = (start l).on (A ++ rowsN (1 + k) (Ln.ln Y)) ((Ln.linesOf (joinL ((Ln.linesOf l).take k) ++ Y)).length + 1) from by rw [← hrows]; rfl, hrows]
      exact a3 _ _ _ (Nat.le_refl _)
    · by_cases hc2 : e.2 = 118
      · exact .inl hc2
      · have hln : Ln.linesOf (joinL ((Ln.linesOf l).take (k - 1))) = (Ln.linesOf l).take (k - 1) := by
          have := linesOf_join (L := (Ln.linesOf l).take (k - 1)) (Y := []) (by rw [List.append_nil]; exact hm) (fun x hx => linesOf_no l x (List.mem_of_mem_take hx))
          rw [List.append_nil] at this
          rw [this]
          exact List.append_nil _
        have hk1 : ((Ln.linesOf l).take (k - 1)).length = k - 1 := by simp; omega
        have hh2 := of_affR hb he hc2
        obtain ⟨-, z | ⟨A', B', hA', b1, b2, b3⟩⟩ := heads_loc _ _ _ hh2
        · have z : e = ((Ln.linesOf (joinL ((Ln.linesOf l).take (k - 1)))).length + 1, 116) := z
          rw [hln, hk1] at z
          right
          rw [z]
          have : k - 1 + 1 = k := by omega
          rw [this]
        · have b1 : rowsN 1 (Ln.linesOf (joinL ((Ln.linesOf l).take (k - 1)))) = A' ++ B' := b1
          have b2 : e.1 = lastL 0 A' := b2
          obtain ⟨j1, j2, -⟩ := cut_rows b1 hA' b2.symm
          rw [hln] at b1 j2
          rw [hk1] at j2
          exfalso
          have hrows : rowsN 1 (Ln.linesOf l) = A' ++ (B' ++ rowsN (1 + (k - 1)) ((Ln.linesOf l).drop (k - 1))) := by
            have := rowsN_append ((Ln.linesOf l).take (k - 1)) ((Ln.linesOf l).drop (k - 1)) 1
            rw [List.take_append_drop, b1, hk1, List.append_assoc] at this
            exact this
          have hst : start l = (start (joinL ((Ln.linesOf l).take (k - 1)))).on (A' ++ (B' ++ rowsN (1 + (k - 1)) ((Ln.linesOf l).drop (k - 1)))) ((Ln.linesOf l).length + 1) := by
            rw [← hrows]; rfl
          have q := b3 (B' ++ rowsN (1 + (k - 1)) ((Ln.linesOf l).drop (k - 1))) ((Ln.linesOf l).length + 1) (Rw.rowsOf l).length (by rw [← hrows]; exact Nat.le_refl _)
          rw [← hst, hh] at q
          injection q with q
          rw [← q] at j2
          simp only at j2
          omega

/-! AffRemarks -/
def mapV (g : Nat → Nat) : Except Er Fil → Except Er Fil
  | .error e => .error (g e.1, e.2)
  | .ok F => .ok (mapF g F)
theorem affEnd_map (g : Nat → Nat) (X : Except Er Rdr) : affEnd (mapX g X) = mapV g (affEnd X) := by
  cases X with
  | error e => rfl
  | ok R =>
    show (match nexts (mapF g R.file) with
      | some k => _
      | none => _) = mapV g (match nexts R.file with
      | some k => _
      | none => _)
    rw [nexts_map]
    cases nexts R.file <;> rfl
theorem fields_remark (t : Bs) : ∃ f r, Fld.fieldsOf (35 :: t) = (35 :: f) :: r := by
  have key : ∀ t : Bs, (Fld.st (35 :: t)).1 = [] ∧ (∃ f, (Fld.st (35 :: t)).2 = 35 :: f) ∨ ∃ f r, (Fld.st (35 :: t)).1 = (35 :: f) :: r := by
    intro t
    refine Fld.snoc_ind (P := fun t => (Fld.st (35 :: t)).1 = [] ∧ (∃ f, (Fld.st (35 :: t)).2 = 35 :: f) ∨ ∃ f r, (Fld.st (35 :: t)).1 = (35 :: f) :: r) ?_ ?_ t
    · exact .inl ⟨rfl, [], rfl⟩
    · intro t c ih
      have e : Fld.st (35 :: (t ++ [c])) = Fld.stp (Fld.st (35 :: t)) c := by rw [← Fld.st_snoc]; rfl
      rw [e]
      unfold Fld.stp
      by_cases hb : Fld.blank c = true
      · rw [if_pos hb]
        rcases ih with ⟨h1, f, h2⟩ | ⟨f, r, h1⟩
        · rw [h1, h2]
          exact .inr ⟨f, [], by simp⟩
        · refine .inr ?_
          rw [h1]
          by_cases h2 : (Fld.st (35 :: t)).2.isEmpty = true
          · rw [if_pos h2]; exact ⟨f, r, rfl⟩
          · rw [if_neg h2]; exact ⟨f, r ++ [(Fld.st (35 :: t)).2], rfl⟩
      · rw [if_neg hb]
        rcases ih with ⟨h1, f, h2⟩ | ⟨f, r, h1⟩
        · exact .inl ⟨h1, f ++ [c], by rw [h2]; rfl⟩
        · exact .inr ⟨f, r, h1⟩
  unfold Fld.fieldsOf Fld.fin
  rcases key t with ⟨h1, f, h2⟩ | ⟨f, r, h1⟩
  · rw [h1, h2]
    exact ⟨f, [], rfl⟩
  · rw [h1]
    split
    · exact ⟨f, r, rfl⟩
    · exact ⟨f, r ++ [(Fld.st (35 :: t)).2], rfl⟩
theorem rowOf_remark (k : Nat) (t : Bs) : Rw.rowOf k (35 :: t) = [] := by
  obtain ⟨f, r, h⟩ := fields_remark t
  unfold Rw.rowOf Rw.keep
  rw [h, List.takeWhile_cons, show (!Rw.rem (35 :: f)) = false from by rw [Rw.rem_head _ 35 f rfl]; rfl]
  rfl
theorem rowOf_nil (k : Nat) : Rw.rowOf k [] = [] := rfl
theorem rowOf_blank (k : Nat) : Rw.rowOf k [32, 9] = [] := rfl
def shift3 (a l : Nat) : Nat := if a < l then l + 3 else l
theorem remarks_law {L : List Bs} {a : Nat} (ha : a ≤ L.length) (hL : ∀ x ∈ L, (10 : UInt8) ∉ x) {t : Bs} (ht : (10 : UInt8) ∉ t)
    (h2 : ¬ 65536 < (joinL (L.take a ++ [[], 35 :: t, [32, 9]] ++ L.drop a)).length) (hm : Lib.hasPrefix (joinL L) Ln.mark = false) :
    ¬ 65536 < (joinL L).length ∧ affR (joinL (L.take a ++ [[], 35 :: t, [32, 9]] ++ L.drop a)) = mapV (shift3 a) (affR (joinL L)) := by
  have hj : joinL L = joinL (L.take a) ++ joinL (L.drop a) := by rw [← joinL_append, List.take_append_drop]
  have h1 : ¬ 65536 < (joinL L).length := by
    rw [joinL_append, joinL_append] at h2
    rw [hj]
    simp only [List.length_append] at h2 ⊢
    omega
  refine ⟨h1, ?_⟩
  have hno : ∀ x ∈ L.take a ++ [[], 35 :: t, [32, 9]] ++ L.drop a, (10 : UInt8) ∉ x := by
    intro x hx
    rcases List.mem_append.1 hx with hx | hx
    · rcases List.mem_append.1 hx with hx | hx
      · exact hL x (List.mem_of_mem_take hx)
      · simp at hx
        rcases hx with rfl | rfl | rfl
        · simp
        · simpa using ht
        · decide
    · exact hL x (List.mem_of_mem_drop hx)
  have hm2 : Lib.hasPrefix (joinL (L.take a ++ [[], 35 :: t, [32, 9]] ++ L.drop a)) Ln.mark = false := by
    by_cases h0 : L.take a = []
    · rw [h0]
      refine no_mark fun q => ?_
      obtain ⟨z, hz⟩ := q
      simp [joinL, Ln.mark] at hz
    · rw [List.append_assoc, joinL_append]
      refine mark_head h0 ?_ _
      rw [hj] at hm
      exact mark_left hm
  have e1 : Ln.linesOf (joinL L) = L := by
    have := linesOf_join (L := L) (Y := []) (by rw [List.append_nil]; exact hm) hL
    rw [List.append_nil] at this
    rw [this]
    exact List.append_nil _
  have e2 : Ln.linesOf (joinL (L.take a ++ [[], 35 :: t, [32, 9]] ++ L.drop a)) = L.take a ++ [[], 35 :: t, [32, 9]] ++ L.drop a := by
    have := linesOf_join (Y := []) (by rw [List.append_nil]; exact hm2) hno
    rw [List.append_nil] at this
    rw [this]
    exact List.append_nil _
  have hla : (L.take a).length = a := by simp; omega
  have er : Rw.rowsOf (joinL (L.take a ++ [[], 35 :: t, [32, 9]] ++ L.drop a)) = (Rw.rowsOf (joinL L)).map (fun p => (shift3 a p.1, p.2)) := by
    rw [rowsOf_eq, rowsOf_eq, e1, e2]
    have s1 : rowsN 1 L = rowsN 1 (L.take a) ++ rowsN (1 + a) (L.drop a) := by
      have := rowsN_append (L.take a) (L.drop a) 1
      rw [List.take_append_drop, hla] at this
      exact this
    rw [s1, List.map_append, rowsN_map (shift3 a) (L.take a) 1 1 (fun j hj => by unfold shift3; rw [hla] at hj; rw [if_neg (by omega)]),
      rowsN_map (shift3 a) (L.drop a) (1 + a) (1 + a + 3) (fun j hj => by unfold shift3; rw [if_pos (by omega)]; omega), List.append_assoc, rowsN_append, hla]
    congr 1
    show rowsN (1 + a) ([] :: (35 :: t) :: [32, 9] :: L.drop a) = _
    rw [rowsN_cons, rowsN_cons, rowsN_cons, rowOf_nil, rowOf_remark, rowOf_blank]
    rfl
  have es : start (joinL (L.take a ++ [[], 35 :: t, [32, 9]] ++ L.drop a)) = mapR (shift3 a) (start (joinL L)) := by
    unfold start mapR mapF
    simp only [Rdr.mk.injEq, and_true]
    refine ⟨by simp, er, by simp [shift3], ?_⟩
    rw [e1, e2]
    unfold shift3
    rw [if_pos (by omega)]
    simp
    omega
  rw [affR_short h2, affR_short h1, es, er, List.length_map, eqv_heads, affEnd_map]
end Af
end Go.Proofs.YtlajdmjpobckhaaGreatDoor
