/- dic.Read, whole: the walk. -/
import Derived.Test.YtlajdmjpobckhaaGreatDoorGd26
namespace Go.Proofs.YtlajdmjpobckhaaGreatDoor
open Go.RowKit
namespace Af
open RowB
theorem dicR_code {F : Fil} {s : Bs} {er : Er} (h : dicR F s = .error er) : er.2 ≠ 0 := by
  by_cases hs : 65536 < s.length
  · unfold dicR at h
    rw [if_pos hs] at h
    injection h with h
    subst h
    simp
  · cases hr : Rw.rowsOf s with
    | nil =>
      rw [dicR_nil hs hr] at h
      injection h with h
      subst h
      simp
    | cons p t =>
      obtain ⟨l, row⟩ := p
      rw [dicR_cons hs hr, cntX_eq] at h
      by_cases hc : cntE row = 0
      · rw [if_pos hc] at h
        simp only at h
        cases he : ents F (cntN row).toNat t [] with
        | error e2 =>
          rw [he] at h
          injection h with h
          subst h
          exact ents_code he
        | ok E =>
          rw [he] at h
          simp only at h
          split at h
          · injection h with h; subst h; simp
          · cases h
      · rw [if_neg hc] at h
        injection h with h
        subst h
        have := cntE_nn row
        show (cntE row).toNat ≠ 0
        omega
/-- three cells are stored -/
def swr (w : World) (b : Nat) (x y z : Value) : World := ((w.setCell ⟨b, 0, none⟩ x).setCell ⟨b, 1, none⟩ y).setCell ⟨b, 2, none⟩ z
theorem swr_facts {w : World} {b n0 : Nat} {a0 a1 a2 : Value} (h : w.heap[b]? = some (.cells #[a0, a1, a2] 29 (0, 0))) (hb : n0 ≤ b) (x y z : Value) : (swr w b x y z).heap[b]? = some (.cells #[x, y, z] 29 (0, 0)) ∧ Below n0 w (swr w b x y z) ∧ Kp b w (swr w b x y z) := by
  refine ⟨?_, (((Below.refl _ _).setCell (p := ⟨b, 0, none⟩) hb x).setCell (p := ⟨b, 1, none⟩) hb y).setCell (p := ⟨b, 2, none⟩) hb z, kp_trans (kp_trans (kp_set w b 0 x) (kp_set _ b 1 y)) (kp_set _ b 2 z)⟩
  unfold swr
  rw [set_heap1 (set_heap1 (set_heap1 h x) y) z]
  rfl
theorem DRes.no {w w' : World} {X : Except Er (List Ent)} {l c : Nat} (h : X = .error (l, c)) (k : Below w.heap.size w w') : DRes w X (.returned (.tuple #[.pointer none, .agg #[.int .i64 2, .int .i64 (l : Nat), .int .i64 (c : Nat)]])) w' := by
  subst h
  exact ⟨k, rfl⟩
theorem DRes.yes {w w' : World} {X : Except Er (List Ent)} {E : List Ent} {n0 wb : Nat} {Q : WPts} (h : X = .ok E) (k : Below w.heap.size w w') (hn : w.heap.size ≤ n0) (hw : WA n0 w' wb E E Q) : DRes w X (.returned (.tuple #[.pointer (some ⟨wb, 0, none⟩), .agg #[.int .i64 0, .int .i64 0, .int .i64 0]])) w' := by
  subst h
  exact ⟨k, n0, wb, Q, hn, rfl, hw⟩
set_option maxRecDepth 100000 in
set_option maxHeartbeats 4000000 in
theorem dicNil_any (s : ByteArray) (w : World) : Calls Tryz.prog 13 #[.pointer none, .string s] w fun e w' => e = .returned (.tuple #[.pointer none, .agg #[.int .i64 2, .int .i64 0, .int .i64 1]]) ∧ Below w.heap.size w w' := by
  go_enter Tryz.func13, Tryz.ntmps13
  go_wp2
  refine bodyPost_ret (v := .tuple #[.pointer none, .agg #[.int .i64 2, .int .i64 0, .int .i64 1]]) (by simp [results, Tryz.results13, go_sem]) rfl ?_
  exact ⟨rfl, (Below.refl _ _).alloc (Nat.le_refl _) _⟩
set_option maxRecDepth 100000 in
set_option maxHeartbeats 4000000 in
theorem dicRead_any {B : Nat} {w : World} {F : Fil} {P : Pts} (hF : FAt B w F P) (hM : Mx B w) (hB : B ≤ w.heap.size) (hS : Np Sd F) (hN : Np (fun a => ∀ x ∈ a, 0 ≤ x ∧ x ≤ 65535) F) (hcn : F.classes.length ≤ 1048577) (s : ByteArray) :
    Calls Tryz.prog 13 #[.pointer (some ⟨P.fb, 0, none⟩), .string s] w (DRes w (dicR F s.data.toList)) := by
  have b1 : Below w.heap.size w (w.alloc (.cells #[.int .i64 0, .int .i64 0, .int .i64 0] 29)) := (Below.refl _ _).alloc (Nat.le_refl _) _
  have hF1 := hF.below b1
  have hpm : P.pm < w.heap.size := by obtain ⟨n, -, hm⟩ := hF.plc; exact hm.lt
  have HN : Hid (Calls Tryz.prog 36 #[.pointer (some ⟨P.fb, 0, none⟩)] (w.alloc (.cells #[.int .i64 0, .int .i64 0, .int .i64 0] 29)) fun e w' => ∃ rb wb mb Q, e = .returned (ptr rb) ∧ EnI (w.heap.size + 1) w' w' rb wb mb F P 0 [] Q ∧ w.heap.size + 1 ≤ mb ∧ Below (w.heap.size + 1) (w.alloc (.cells #[.int .i64 0, .int .i64 0, .int .i64 0] 29)) w') := by
    have := newDic_any hF1 hS hcn
    rw [World.size_alloc] at this
    exact this
  have HV := hide (alloc_new w (.cells #[.int .i64 0, .int .i64 0, .int .i64 0] 29))
  have HR := hide (fun rb wb mb Q w2 (hI : EnI (w.heap.size + 1) w2 w2 rb wb mb F P 0 [] Q) (hm : w.heap.size + 1 ≤ mb) (b2 : Below (w.heap.size + 1) (w.alloc (.cells #[.int .i64 0, .int .i64 0, .int .i64 0] 29)) w2) =>
    (show ReadC rb s (w.heap.size + 1) wb mb w2 F P (dicR F s.data.toList) from by
      have b3 : Below w.heap.size w w2 := b1.trans (b2.mono (by omega))
      exact dread_any hI (hF.below b3) (hM.low (b3.mono hB)) (by omega) hN (by omega) s))
  have HB1 := hide b1
  clear b1 hF1 hF hM hS hN hcn hpm
  cases hx : dicR F s.data.toList with
  | error er =>
    have hc0 := dicR_code hx
    have hcb : ((er.2 : Int) == 0) = false := by simpa using hc0
    have HX := hide hx
    clear hx hc0
    go_enter Tryz.func13, Tryz.ntmps13
    go_wp2_with fail
    refine (unhide HN).mono ?_
    rintro e w2 ⟨rb, wb, mb, Q, rfl, hI, hm, b2⟩
    have HRR := hide (unhide HR rb wb mb Q w2 hI hm b2)
    have HB2 := hide b2
    clear hI hm b2
    go_wp2_with fail
    refine (unhide HRR).mono ?_
    rintro e w3 hr3
    rw [unhide HX] at hr3
    obtain ⟨l', E', Q', hI', rfl, rfl⟩ := hr3
    obtain ⟨c7, c6, cz, clt⟩ := hI'.c7
    have hb3 : Below (w.heap.size + 1) (w.alloc (.cells #[.int .i64 0, .int .i64 0, .int .i64 0] 29)) w3 := (unhide HB2).trans hI'.low
    have hv3 := (hb3.block w.heap.size (by omega)).trans (unhide HV)
    have HB3 := hide ((unhide HB1).trans (hb3.mono (by omega)))
    obtain ⟨v0, v1, v2, vz⟩ := fault3 hv3
    have hvl := lt_some hv3
    have HV3 := hide hv3
    clear hI' hb3 hv3 HN HR HV HRR HB2 HB1
    go_wp2
    refine Lst.region_last (ops1 := ?ops1) (o := ?op1) (S := fun w' => w'.cell? ⟨rb, 7, none⟩ = some (.int .i64 (er.1 : Nat))) (by kernel_rfl) ?hp1 ?hb1 ?hk1 (by exact c7) ?hn1
    case hp1 => (simp only [List.pop_toArray, List.dropLast_cons_cons, List.dropLast_singleton]; rfl)
    case hb1 => (simp only [List.back?_toArray, List.getLast?_cons_cons, List.getLast?_singleton]; rfl)
    case hk1 => kernel_rfl
    intro hHeld
    refine wpAnyH_take (i := 6) (v := ?v2) (by simp only [List.getElem?_toArray, List.getElem?_cons_succ, List.getElem?_cons_zero]; rfl) (by kernel_rfl) (by kernel_rfl) (by kernel_rfl) (by exact fun _ _ _ h => h) (Or.inl ⟨by rfl, ?hy2⟩) (by assumption) ?_
    case hy2 => (intro w hSw; (try dsimp only at hSw); go_simp; first | done | (with_reducible rfl))
    (try simp only [Act.put, List.setIfInBounds_toArray, List.set_cons_zero, List.set_cons_succ])
    refine wpAnyH_take (i := 0) (v := ?v3) (by simp only [List.getElem?_toArray, List.getElem?_cons_zero]; rfl) (by kernel_rfl) (by kernel_rfl) (by kernel_rfl) (by exact fun _ _ _ h => h) (Or.inl ⟨by rfl, ?hy3⟩) (by assumption) ?_
    case hy3 => (intro w hSw; (try dsimp only at hSw); go_simp; first | done | (with_reducible rfl))
    (try simp only [Act.put, List.setIfInBounds_toArray, List.set_cons_zero, List.set_cons_succ])
    refine wpAnyH_take (i := 1) (v := ?v4) (by simp only [List.getElem?_toArray, List.getElem?_cons_succ, List.getElem?_cons_zero]; rfl) (by kernel_rfl) (by kernel_rfl) (by kernel_rfl) (by exact fun _ _ _ h => h) (Or.inl ⟨by rfl, ?hy4⟩) (by assumption) ?_
    case hy4 => (intro w hSw; (try dsimp only at hSw); go_simp; first | done | (with_reducible rfl))
    (try simp only [Act.put, List.setIfInBounds_toArray, List.set_cons_zero, List.set_cons_succ])
    refine wpAnyH_take (i := 2) (v := ?v5) (by simp only [List.getElem?_toArray, List.getElem?_cons_succ, List.getElem?_cons_zero]; rfl) (by kernel_rfl) (by kernel_rfl) (by kernel_rfl) (by exact fun _ _ _ h => h) (Or.inl ⟨by rfl, ?hy5⟩) (by assumption) ?_
    case hy5 => (intro w hSw; (try dsimp only at hSw); go_simp; first | done | (with_reducible rfl))
    (try simp only [Act.put, List.setIfInBounds_toArray, List.set_cons_zero, List.set_cons_succ])
    refine wpAnyH_take (i := 3) (v := ?v6) (by simp only [List.getElem?_toArray, List.getElem?_cons_succ, List.getElem?_cons_zero]; rfl) (by kernel_rfl) (by kernel_rfl) (by kernel_rfl) (by exact fun _ _ _ h => h) (Or.inl ⟨by rfl, ?hy6⟩) (by assumption) ?_
    case hy6 => (intro w hSw; (try dsimp only at hSw); go_simp; first | done | (with_reducible rfl))
    (try simp only [Act.put, List.setIfInBounds_toArray, List.set_cons_zero, List.set_cons_succ])
    refine wpAnyH_take (i := 4) (v := ?v7) (by simp only [List.getElem?_toArray, List.getElem?_cons_succ, List.getElem?_cons_zero]; rfl) (by kernel_rfl) (by kernel_rfl) (by kernel_rfl) (by exact fun _ _ _ h => h) (Or.inl ⟨by rfl, ?hy7⟩) (by assumption) ?_
    case hy7 => (intro w hSw; (try dsimp only at hSw); go_simp; first | done | (with_reducible rfl))
    (try simp only [Act.put, List.setIfInBounds_toArray, List.set_cons_zero, List.set_cons_succ])
    refine wpAnyH_take (i := 5) (v := ?v8) (by simp only [List.getElem?_toArray, List.getElem?_cons_succ, List.getElem?_cons_zero]; rfl) (by kernel_rfl) (by kernel_rfl) (by kernel_rfl) (by exact fun _ _ _ h => h) (Or.inl ⟨by rfl, ?hy8⟩) (by assumption) ?_
    case hy8 => (intro w hSw; (try dsimp only at hSw); go_simp; first | done | (with_reducible rfl))
    (try simp only [Act.put, List.setIfInBounds_toArray, List.set_cons_zero, List.set_cons_succ])
    refine wpAnyH_done (by kernel_rfl) ?_ _
    show Oper.wp _ _ _ _ _ _
    go_simp
    rename_i K2 hK2
    apply hK2
    refine gen_world ?_
    intro V hV
    obtain ⟨f1, f2, f3⟩ := swr_facts (n0 := w.heap.size) (unhide HV3) (Nat.le_refl _) (.int .i64 2) (.int .i64 (er.1 : Nat)) (.int .i64 (er.2 : Nat))
    have HF : Hid (V.heap[w.heap.size]? = some (.cells #[.int .i64 2, .int .i64 (er.1 : Nat), .int .i64 (er.2 : Nat)] 29 (0, 0)) ∧ Below w.heap.size w V) := by
      rw [hV]
      exact ⟨f1, ((unhide HB3).trans f2).drew⟩
    clear hV f1 f2 f3
    obtain ⟨m0, m1, m2, mz⟩ := fault3 (unhide HF).1
    go_wp2
    refine bodyPost_ret (v := .tuple #[.pointer none, .agg #[.int .i64 2, .int .i64 (er.1 : Nat), .int .i64 (er.2 : Nat)]]) (by simp [results, Tryz.results13, go_sem, m0, m1, m2]) rfl ?_
    exact DRes.no rfl (unhide HF).2
  | ok E =>
    have HX := hide hx
    clear hx
    go_enter Tryz.func13, Tryz.ntmps13
    go_wp2_with fail
    refine (unhide HN).mono ?_
    rintro e w2 ⟨rb, wb, mb, Q, rfl, hI, hm, b2⟩
    have HRR := hide (unhide HR rb wb mb Q w2 hI hm b2)
    have HB2 := hide b2
    clear hI hm b2
    go_wp2_with fail
    refine (unhide HRR).mono ?_
    rintro e w3 hr3
    rw [unhide HX] at hr3
    obtain ⟨l', E', Q', hI', rfl, rfl⟩ := hr3
    obtain ⟨c7, c6, cz, clt⟩ := hI'.c7
    have hb3 : Below (w.heap.size + 1) (w.alloc (.cells #[.int .i64 0, .int .i64 0, .int .i64 0] 29)) w3 := (unhide HB2).trans hI'.low
    have hv3 := (hb3.block w.heap.size (by omega)).trans (unhide HV)
    have HB3 := hide ((unhide HB1).trans (hb3.mono (by omega)))
    obtain ⟨v0, v1, v2, vz⟩ := fault3 hv3
    have hvl := lt_some hv3
    have HV3 := hide hv3
    have HW3 := hide hI'.wa
    clear hI' hb3 hv3 HN HR HV HRR HB2 HB1
    obtain ⟨f1, f2, f3⟩ := swr_facts (n0 := w.heap.size) (unhide HV3) (Nat.le_refl _) (.int .i64 0) (.int .i64 0) (.int .i64 0)
    obtain ⟨m0, m1, m2, mz⟩ := fault3 f1
    have kz : Kq [29] noM w3 (swr w3 w.heap.size (.int .i64 0) (.int .i64 0) (.int .i64 0)) := Kq.kp f3 (unhide HV3) (by simp)
    have HWF := hide ((unhide HW3).frame kz (by decide) (by decide) (by decide) (by decide) (fun q => q))
    have HBF := hide ((unhide HB3).trans f2)
    clear f1 f2 f3 kz
    go_wp2
    show bodyPost _ _ _ Exit.ret _ (swr w3 w.heap.size (.int .i64 0) (.int .i64 0) (.int .i64 0))
    refine bodyPost_ret (v := .tuple #[.pointer (some ⟨wb, 0, none⟩), .agg #[.int .i64 0, .int .i64 0, .int .i64 0]]) (by simp [results, Tryz.results13, go_sem, m0, m1, m2]) rfl ?_
    exact DRes.yes rfl (unhide HBF) (by omega) (unhide HWF)
end Af
end Go.Proofs.YtlajdmjpobckhaaGreatDoor
/- The entries of a dictionary, in new memory. -/
namespace Go.Proofs
open Go.Shelf
def Tryz.laysCl_ent_ren : Go.Shelf.Ren := ⟨fun | 41 => 38 | n => n, fun | 4 => 4 | 22 => 36 | 23 => 41 | n => n, fun | n => n⟩
theorem Tryz.laysCl_ent : Go.Proofs.SlLaysE0.n41 Tryz.prog Tryz.laysCl_ent_ren := {
  mixed := by kernel_rfl
  f41 := ⟨"slices.Clone[[]hornbook/api.Entry,hornbook/api.Entry]", by decide, Tryz.func38.trans (congrArg some (by kernel_rfl))⟩
  t4 := Tryz.underlying4
  a4 := Tryz.isAgg4
  z4 := Tryz.sizeOf4
  v4 := Tryz.zeroValue4
  t22 := Tryz.underlying36
  a22 := Tryz.isAgg36
  z22 := Tryz.sizeOf36
  v22 := Tryz.zeroValue36 }
end Go.Proofs
namespace Go.Proofs.YtlajdmjpobckhaaGreatDoor
open Go.RowKit
namespace Af
open RowB
theorem clone_ent {B n : Nat} {w : World} {v : Value} {xs : List Value} (h : w.ownsRow B 41 2 v n xs) (h1 : ∀ u ∈ xs, u.oneCell' = true) (hn : n ≤ 1048577) : Calls Tryz.prog 38 #[v] w fun e w' => ∃ v', e = .returned v' ∧ w'.ownsRow w.heap.size 41 2 v' n xs ∧ Below w.heap.size w w' := by
  obtain ⟨i, hi, hz'⟩ := Option.map_eq_some_iff.1 infoE
  simp only [Prod.mk.injEq] at hz'
  obtain ⟨hz0, hz1, hz2⟩ := hz'
  obtain ⟨hl, ⟨rfl, rfl⟩ | ⟨g, cap, cur, rfl, hg, hh, hc, hm, hs, ht⟩⟩ := h
  · refine (AnyE.slices_Clone_nil Tryz.laysCl_ent 0 0 w).mono ?_
    rintro e w' ⟨rfl, rfl⟩
    have : xs = [] := by cases xs with | nil => rfl | cons _ _ => simp at hl
    subst this
    exact ⟨_, rfl, World.ownsRow_nil _ _ _ _, Below.refl _ _⟩
  · refine (AnyE.slices_Clone Tryz.laysCl_ent i _ 2 40 hi hz0 hz1 hz2 rfl (by decide) Tryz.sizeOf41 g 0 n cap xs w hl (by omega) (by omega) (fun j u hj => ?_) h1).mono ?_
    · have hjl := (List.getElem?_eq_some_iff.1 hj).1
      rw [← ht, List.getElem?_take] at hj
      split at hj
      · simpa [World.cell?, hh] using hj
      · cases hj
    · rintro e w' ⟨v', rfl, o, -, b⟩
      exact ⟨v', rfl, o, b⟩
/-- entries in memory: the sets of the first j are new -/
def EntR (n : Nat) (W : World) (E : List Ent) (v : Value) (fv : List Value) (j : Nat) : Prop := W.ownsRow n 41 2 v E.length ((E.zip fv).flatMap fun p => entC p.1 p.2) ∧ fv.length = E.length ∧ ∀ (i : Nat) u x, fv[i]? = some u → E[i]? = some x → FNx (if i < j then n else 0) W u x.flags
theorem EntR.kq {n j : Nat} {W W' : World} {E : List Ent} {v : Value} {fv : List Value} {T : List TypeId} {M : Nat → Prop} (h : EntR n W E v fv j) (k : Kq T M W W') (ht : 41 ∉ T) (ht2 : 61 ∉ T) : EntR n W' E v fv j := ⟨own_kq h.1 k ht, h.2.1, fun i u a q1 q2 => fnx_kq (h.2.2 i u a q1 q2) k ht2⟩
theorem zipE_set {u : Value} : ∀ (rs : List Ent) (nv : List Value) (j : Nat), j < rs.length → nv.length = rs.length → ((rs.zip (nv.set j u)).flatMap fun p => entC p.1 p.2) = ((rs.zip nv).flatMap fun p => entC p.1 p.2).set (j * 2 + 1) u
  | [], _, _, h, _ => by simp at h
  | r :: rs, [], _, _, h => by simp at h
  | r :: rs, v :: nv, 0, h, h2 => by
    simp [entC]
  | r :: rs, v :: nv, j + 1, h, h2 => by
    have ih := zipE_set (u := u) rs nv j (by simpa using h) (by simpa using h2)
    simp only [List.set_cons_succ, List.zip_cons_cons, List.flatMap_cons, ih]
    rw [List.set_append_right _ _ (by simp [entC]; omega)]
    congr 2
    simp [entC]
    omega
theorem EntR.put {n0 j : Nat} {W W' : World} {E : List Ent} {g cap : Nat} {nv : List Value} {u : Value} {r : Ent} (h : EntR n0 W E (.slice (some ⟨g, 0, none⟩) E.length cap) nv j) (hr : E[j]? = some r) (hW : W' = W.setCell ⟨g, j * 2 + 1, none⟩ u) (hu : FNx n0 W u r.flags) : EntR n0 W' E (.slice (some ⟨g, 0, none⟩) E.length cap) (nv.set j u) (j + 1) ∧ Kq [41] noM W W' ∧ n0 ≤ g := by
  subst hW
  obtain ⟨cur, hh, hg⟩ := own_blk h.1
  have k : Kq [41] noM W (W.setCell ⟨g, j * 2 + 1, none⟩ u) := Kq.kp (kp_set _ _ _ _) hh (by simp)
  have hj := (List.getElem?_eq_some_iff.1 hr).1
  refine ⟨⟨?_, by simpa using h.2.1, fun i v q h1 h2 => ?_⟩, k, hg⟩
  · rw [zipE_set _ _ _ hj h.2.1]
    exact own_set h.1 _ (by omega) u
  · by_cases hi : i = j
    · subst hi
      rw [List.getElem?_set_self (by rw [h.2.1]; exact hj)] at h1
      injection h1 with h1
      subst h1
      rw [hr] at h2
      injection h2 with h2
      subst h2
      rw [if_pos (by omega)]
      exact fnx_kq hu k (by decide)
    · rw [List.getElem?_set_ne (fun e => hi e.symm)] at h1
      have := fnx_kq (h.2.2 i v q h1 h2) k (by decide)
      by_cases q1 : i < j
      · rw [if_pos q1] at this
        rw [if_pos (by omega)]
        exact this
      · rw [if_neg q1] at this
        rw [if_neg (by omega)]
        exact this
theorem ent_one {rs : List Ent} {nv : List Value} (h : ∀ v ∈ nv, v.oneCell' = true) : ∀ u ∈ (rs.zip nv).flatMap fun p => entC p.1 p.2, u.oneCell' = true := by
  intro u hu
  obtain ⟨p, hp, hu⟩ := List.mem_flatMap.1 hu
  simp only [entC, List.mem_cons, List.not_mem_nil, or_false] at hu
  rcases hu with rfl | rfl
  · rfl
  · exact h _ (List.of_mem_zip hp).2
theorem flatE_get {E : List Ent} {fv : List Value} (_h2 : fv.length = E.length) {j : Nat} {x : Ent} {u : Value} (hx : E[j]? = some x) (hu : fv[j]? = some u) : ((E.zip fv).flatMap fun p => entC p.1 p.2)[j * 2]? = some (.string (Wd.str x.word)) ∧ ((E.zip fv).flatMap fun p => entC p.1 p.2)[j * 2 + 1]? = some u := by
  have hz : (E.zip fv)[j]? = some (x, u) := by
    rw [List.getElem?_zip_eq_some]
    exact ⟨hx, hu⟩
  have h0 := flat_get (f := fun p : Ent × Value => entC p.1 p.2) (m := 2) (fun _ => rfl) (k := 0) hz (by omega)
  have h1 := flat_get (f := fun p : Ent × Value => entC p.1 p.2) (m := 2) (fun _ => rfl) (k := 1) hz (by omega)
  exact ⟨by simpa [entC] using h0, by simpa [entC] using h1⟩
def EsRes (w : World) (E : List Ent) (e : Ending) (w' : World) : Prop := Below w.heap.size w w' ∧ ∃ v fv, e = .returned v ∧ EntR w.heap.size w' E v fv E.length
set_option maxRecDepth 100000 in
set_option maxHeartbeats 4000000 in
theorem entries_any {n wb : Nat} {w : World} {E : List Ent} {Q : WPts} (h : WA n w wb E E Q) (hfl : ∀ x ∈ E, x.flags.length ≤ 1048577) : Calls Tryz.prog 15 #[ptr wb] w (EsRes w E) := by
  obtain ⟨d0, -, -⟩ := h.cells
  have hlt := h.lt
  obtain ⟨ea, ec, ee⟩ := own_slice h.ents
  have HE := hide (clone_ent h.ents (ent_one (fun v hv => by
    obtain ⟨i, hi⟩ := List.getElem?_of_mem hv
    have hil := (List.getElem?_eq_some_iff.1 hi).1
    rw [h.fvs.1] at hil
    exact fnx_one (h.fvs.2 i v _ hi (List.getElem?_eq_getElem hil)))) (by have := h.few; omega))
  rw [ee] at d0 HE
  have HF := hide h.fvs
  have HL := hide hfl
  have few := h.few
  clear h ee hfl
  obtain ⟨m, hm⟩ : ∃ m, E.length = m := ⟨_, rfl⟩
  have HM := hide hm
  rw [hm] at HE d0 few
  clear hm
  go_enter Tryz.func15, Tryz.ntmps15
  go_wp2_with (go_at_call 38; refine (unhide HE).mono ?_; rintro e w2 ⟨v, rfl, o2, b2⟩; have HO2 := hide o2; have HB2 := hide b2; obtain ⟨va, vc, rfl⟩ := own_slice o2; clear o2 b2)
  go_loopw [15] (fun s15 wr => ∃ j : Nat, s15 = .int .i64 j ∧ j ≤ m ∧ Hid (Below w.heap.size w wr ∧ ∃ fv, EntR w.heap.size wr E (.slice va m vc) fv j)) (fun s15 _ => m - (intOf s15).toNat)
  case atStart => exact ⟨0, rfl, Nat.zero_le _, ⟨unhide HB2, Q.fv, ⟨by rw [unhide HM]; exact unhide HO2, (unhide HF).1, fun i u x a b => by rw [if_neg (by omega)]; exact fnx_below (fnx_low ((unhide HF).2 i u x a b) (Nat.zero_le _)) (unhide HB2)⟩⟩⟩
  case round =>
    obtain ⟨j, rfl, hj, HR⟩ := hrel
    by_cases hlt2 : j < m
    · have hltz : (j : Int) < (m : Int) := by omega
      obtain ⟨hb, fv, hE⟩ := unhide HR
      obtain ⟨x, hx⟩ : ∃ x, E[j]? = some x := ⟨_, List.getElem?_eq_getElem (by rw [unhide HM]; exact hlt2)⟩
      obtain ⟨u, hu⟩ : ∃ u, fv[j]? = some u := ⟨_, List.getElem?_eq_getElem (by rw [hE.2.1, unhide HM]; exact hlt2)⟩
      obtain ⟨gv, cv, ev, -, hgl, -, -, hcur, hcl⟩ := own_at hE.1 (by rw [unhide HM]; omega)
      injection ev with ev1 ev2 ev3
      clear ev2
      subst ev1
      subst ev3
      obtain ⟨k0, k1⟩ := flatE_get hE.2.1 hx hu
      have q0 := (hcl (j * 2) (by rw [unhide HM]; omega)).trans k0
      have q1 := (hcl (j * 2 + 1) (by rw [unhide HM]; omega)).trans k1
      have hfn := hE.2.2 j u x hu hx
      rw [if_neg (by omega)] at hfn
      obtain ⟨ua, un, uc, rfl⟩ := fnx_slice hfn
      have b1 : Below wr.heap.size wr (wr.alloc (.cells #[.string (Wd.str x.word), .slice ua un uc] 41)) := (Below.refl _ _).alloc (Nat.le_refl _) _
      have HCL := hide (fun W (b : Below wr.heap.size wr W) => clone_flg (w := W) (fnx_own (fnx_below hfn b)) (enc_one _) (unhide HL x (List.mem_of_getElem? hx)))
      have HST : Hid (∀ W w3 u, Below wr.heap.size wr W → w3.ownsRow W.heap.size 61 1 u x.flags.length (x.flags.map So.encF) → Below W.heap.size W w3 → ∀ W', W' = w3.setCell ⟨gv, j * 2 + 1, none⟩ u → Below w.heap.size w W' ∧ ∃ fv', EntR w.heap.size W' E (.slice (some ⟨gv, 0, none⟩) m vc) fv' (j + 1)) := by
        intro W w3 u hW o3 b3 W' hW'
        have bb : Below wr.heap.size wr w3 := hW.trans (b3.mono hW.size)
        have h4 := hE.kq (Kq.below (T := []) (M := noM) bb) (by simp) (by simp)
        rw [← unhide HM] at h4
        have hu2 : FNx w.heap.size w3 u x.flags := fnx_low (own_fnx o3) (Nat.le_trans hb.size hW.size)
        obtain ⟨r1, r2, r3⟩ := h4.put hx hW' hu2
        rw [unhide HM] at r1
        refine ⟨?_, _, r1⟩
        rw [hW']
        exact (hb.trans (bb.mono hb.size)).setCell (p := ⟨gv, j * 2 + 1, none⟩) r3 _
      have HRW : Hid (∀ W w3, Below wr.heap.size wr W → Below W.heap.size W w3 → w3.cell? ⟨gv, j * 2 + 1, none⟩ = some (.slice ua un uc) ∧ w3.frozen? ⟨gv, j * 2 + 1, none⟩ = false ∧ gv < w3.heap.size) := by
        intro W w3 hW b3
        have bb : Below wr.heap.size wr w3 := hW.trans (b3.mono hW.size)
        obtain ⟨cur, hcu⟩ := hcur
        have hcur3 := (below_kept bb _ _ hcu).trans hcu
        exact ⟨(bb.cell (p := ⟨gv, j * 2 + 1, none⟩) hgl).trans q1, by simp [World.frozen?, hcur3], lt_some hcur3⟩
      have HB1 := hide b1
      clear HR hE hb hx hu hcl k0 k1 hfn b1 hcur
      generalize Wd.str x.word = sx at *
      go_wp2_with (go_at_call 39; refine (unhide HCL _ (by first | exact unhide HB1 | exact (unhide HB1).drew)).mono ?_; rintro e w3 ⟨u, rfl, o3, b3⟩; obtain ⟨x1, x2, x3⟩ := unhide HRW _ _ (by first | exact unhide HB1 | exact (unhide HB1).drew) b3; have HNX := hide (unhide HST _ _ _ (by first | exact unhide HB1 | exact (unhide HB1).drew) o3 b3); obtain ⟨au, cu2, rfl⟩ := own_slice o3; clear o3 b3)
      go_roundw
      case rel => exact ⟨j + 1, by go_num, by omega, unhide HNX _ rfl⟩
      case measure => simp [intOf]; omega
    · obtain rfl : j = m := by omega
      have hltz : ¬ (j : Int) < (j : Int) := by omega
      go_wp2
      go_ret
      obtain ⟨hb, fv, hE⟩ := unhide HR
      exact ⟨hb, _, fv, rfl, by rw [unhide HM]; exact hE⟩
end Af
end Go.Proofs.YtlajdmjpobckhaaGreatDoor
/- The dictionary whose reading the document fixes. -/
namespace Go.Proofs.YtlajdmjpobckhaaGreatDoor
open Go.RowKit
namespace Af
def wkT2 : Bs := [83, 70, 88, 32, 65, 32, 89, 32, 48, 10]
def wkD : Bs := [50, 10, 102, 108, 121, 47, 65, 10, 105, 110, 92, 47, 111, 117, 116, 10]
def wkF2 : Fil := ⟨1, [], [], [0, 0, 0, 0, 0], 3, [], [], [⟨65, 2, true, 0, 0⟩], []⟩
theorem wk_aff2 : affR wkT2 = .ok wkF2 := by kernel_rfl
theorem wk_dic : dicR wkF2 wkD = .ok [⟨[102, 108, 121], [65]⟩, ⟨[105, 110, 47, 111, 117, 116], []⟩] := by kernel_rfl
/-- what holds of all entries' sets -/
theorem ents_np {p : List Int → Prop} {F : Fil} (p0 : p []) (pf : ∀ s, p (flgS F s)) : ∀ {R : List (Nat × List Bs)} {n : Nat} {E E' : List Ent}, ents F n R E = .ok E' → (∀ x ∈ E, p x.flags) → ∀ x ∈ E', p x.flags
  | [], n, E, E', h, hE => by
    injection h with h
    subst h
    exact hE
  | (l, row) :: t, n, E, E', h, hE => by
    rw [ents] at h
    split at h
    · cases h
    · cases hx : entRow F row with
      | error c => rw [hx] at h; cases h
      | ok x =>
        rw [hx] at h
        refine ents_np p0 pf h fun y hy => ?_
        rcases List.mem_append.1 hy with q | q
        · exact hE y q
        · simp at q
          subst q
          unfold entRow at hx
          split at hx
          · cases hx
          · unfold entE at hx
            split at hx
            · cases hx
            · split at hx
              · cases hx
              · split at hx
                · injection hx with hx; subst hx; exact p0
                · split at hx
                  · cases hx
                  · injection hx with hx; subst hx; exact pf _
theorem dicR_np {p : List Int → Prop} {F : Fil} {s : Bs} {E : List Ent} (p0 : p []) (pf : ∀ s, p (flgS F s)) (h : dicR F s = .ok E) : ∀ x ∈ E, p x.flags := by
  by_cases hs : 65536 < s.length
  · unfold dicR at h
    rw [if_pos hs] at h
    cases h
  · cases hr : Rw.rowsOf s with
    | nil => rw [dicR_nil hs hr] at h; cases h
    | cons q t =>
      obtain ⟨l, row⟩ := q
      rw [dicR_cons hs hr] at h
      cases hc : cntX l row with
      | error e => rw [hc] at h; cases h
      | ok n =>
        rw [hc] at h
        simp only at h
        cases he : ents F n t [] with
        | error e => rw [he] at h; cases h
        | ok E2 =>
          rw [he] at h
          simp only at h
          split at h
          · cases h
          · injection h with h
            subst h
            exact ents_np p0 pf he (fun x hx => by cases hx)
theorem dicR_len {F : Fil} {s : Bs} {E : List Ent} (hS : Np Sd F) (h : dicR F s = .ok E) : ∀ x ∈ E, x.flags.length ≤ 1048577 := by
  intro x hx
  have := dicR_np (p := fun a => a.length ≤ 1048577) (by simp) (fun t => by
    have := flgS_np (p := Sd) (F := F) ⟨rfl, by simp⟩ (fun k s => ?_) hS t
    · have := this.2; omega
    · by_cases he : So.rE k s = 0
      · refine ⟨(rS_set k s he).1, ?_⟩
        unfold So.rS
        rw [if_pos he]
        have hl := (So.setOf_set (So.vals k s)).len
        have : (So.vals k s).length ≤ 64 := by
          unfold So.rE So.readE at he
          repeat (split at he <;> first | omega | skip)
        omega
      · unfold So.rS
        rw [if_neg he]
        exact ⟨rfl, by simp⟩) h
  exact this x hx
/-- dic.Read of a file that was read -/
theorem dic_of {B : Nat} {w : World} {F : Fil} {P : Pts} {a : Bs} (ha : affR a = .ok F) (hF : FAt B w F P) (hM : Mx B w) (hB : B ≤ w.heap.size) (s : ByteArray) : Calls Tryz.prog 13 #[.pointer (some ⟨P.fb, 0, none⟩), .string s] w (DRes w (dicR F s.data.toList)) :=
  dicRead_any hF hM hB (affR_sets ha) (affR_small ha) (Nat.le_trans (affR_cls ha) (by decide)) s
end Af
end Go.Proofs.YtlajdmjpobckhaaGreatDoor
