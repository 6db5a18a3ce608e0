/- Contract: the document's Show of every kind and list of numbers. -/
import Derived.Test.YtaaonaaciomijaaDoorShwW
import Derived.Test.YtaaonaaciomijaaDoorOneR
import Derived.Laws.Concat
import Derived.RegionTactic
import Derived.ChangeAlike
import Derived.BigRegion
namespace Go.Proofs.YtaaonaaciomijaaDoor
open Go.Sort Go.RowKit
namespace So
open Cut Shw

theorem mk_append (a b : List UInt8) : mk a ++ mk b = mk (a ++ b) := by
  apply ByteArray.ext
  simp [mk]
theorem mk_size (l : List UInt8) : (mk l).size = l.length := by rw [← dl_len, dl_mk]
theorem conv1 (x : Int) (h0 : 0 ≤ x) (h1 : x ≤ 255) (W : World) : (convert 66 9 (.slice (some ⟨W.heap.size, 0, none⟩) 1 1)).run Tryd.prog (W.alloc (.cells #[.int .u8 x] 5)) = .ok (.string (mk (Shw.wr 1 x))) (W.alloc (.cells #[.int .u8 x] 5)) := by
  have h := conv_new [UInt8.ofNat (x.toNat % 256)] W
  have e : x % 256 = x := by omega
  simp only [DecW.bytes, List.map_cons, List.map_nil, List.length_cons, List.length_nil, b8 x h0 (by omega), e] at h
  exact h
theorem conv2 (x : Int) (h0 : 0 ≤ x) (h1 : x ≤ 65535) (W : World) : (convert 66 9 (.slice (some ⟨W.heap.size, 0, none⟩) 2 2)).run Tryd.prog (W.alloc (.cells #[.int .u8 (x / 256), .int .u8 (x % 256)] 5)) = .ok (.string (mk (Shw.wr 2 x))) (W.alloc (.cells #[.int .u8 (x / 256), .int .u8 (x % 256)] 5)) := by
  have h := conv_new [UInt8.ofNat (x.toNat / 256), UInt8.ofNat (x.toNat % 256)] W
  simp only [DecW.bytes, List.map_cons, List.map_nil, List.length_cons, List.length_nil, b8 x h0 h1, b8h x h0 h1] at h
  exact h
theorem conv2d (x : Int) (h0 : 0 ≤ x) (h1 : x ≤ 65535) (W : World) : (convert 66 9 (.slice (some ⟨W.heap.size, 0, none⟩) 2 2)).run Tryd.prog (W.alloc (.cells #[.int .u8 (x / 256), .int .u8 (x % 256)] 5)).drew = .ok (.string (mk (Shw.wr 2 x))) (W.alloc (.cells #[.int .u8 (x / 256), .int .u8 (x % 256)] 5)).drew := by
  have h := run_convert_bytes_back (P := Tryd.prog) (W.alloc (.cells #[.int .u8 (x / 256), .int .u8 (x % 256)] 5)).drew 66 9 5 ⟨W.heap.size, 0, none⟩ 2 [UInt8.ofNat (x.toNat / 256), UInt8.ofNat (x.toNat % 256)] Tryd.underlying66 Tryd.underlying5 Tryd.underlying9 (fun j hj => by
    rw [DecW.add_zero_off]
    show (W.alloc (.cells #[.int .u8 (x / 256), .int .u8 (x % 256)] 5)).cell? ⟨W.heap.size, j, none⟩ = _
    rw [World.cell?_alloc_at _ _ _ _ rfl]
    match j, hj with
    | 0, _ => simp only [List.getElem_cons_zero, b8h x h0 h1]; rfl
    | 1, _ => simp only [List.getElem_cons_succ, List.getElem_cons_zero, b8 x h0 h1]; rfl)
  exact h
set_option maxRecDepth 100000 in
set_option maxHeartbeats 2000000 in
theorem refShow_bad (kind : Int) (v : Value) (w : World) (hk : One.isK kind = false) :
    Calls Tryd.prog 16 #[.int .i64 kind, v] w fun e w' => e = .returned (.tuple #[.string ⟨#[]⟩, .int .i64 30]) ∧ w' = w := by
  have h2 : kind < 1 ∨ 3 < kind := by
    unfold One.isK at hk
    simp at hk
    omega
  by_cases h1 : kind < 1
  · go_enter Tryd.func16, Tryd.ntmps16
    go_wp2
    go_ret2
    exact ⟨rfl, rfl⟩
  · have h3 : 3 < kind := by omega
    clear h2
    go_enter Tryd.func16, Tryd.ntmps16
    go_wp2
    go_ret2
    exact ⟨rfl, rfl⟩

set_option maxRecDepth 100000 in
set_option maxHeartbeats 8000000 in
theorem refShow1 {n₀ : Nat} (v : Value) (L : List Int) (w : World) (hI : IRow n₀ w v L) (hb : ∀ x ∈ L, 0 ≤ x ∧ x ≤ 65535) (hn : L.length ≤ 1048576) :
    Calls Tryd.prog 16 #[.int .i64 1, v] w fun e w' => e = .returned (.tuple #[.string (mk (showT 1 (setOf L))), .int .i64 (showE 1 (setOf L))]) ∧ Go.RowKit.Below w.heap.size w w' := by
  have HO := hide (refOf_any v L w hI (fun x hx => (hb x hx).1) (by omega))
  have hzl := (setOf_set L).len
  have hzb := set_bounds hb
  clear hI hb
  generalize setOf L = Z at *
  have HZB := hide hzb
  have HV : Hid (∀ (k : Nat) x W, Z[k]? = some x → Calls Tryd.prog 33 #[.int .i64 1, .string (mk (Shw.wr 1 x))] W fun e w' => e = .returned (.int .i64 (One.val 1 (Shw.wr 1 x))) ∧ Go.RowKit.Below W.heap.size W w') := fun k x W hx => by
    have hbx := hzb x (List.mem_of_getElem? hx)
    have hl := wr_len 1 x hbx.1 hbx.2
    refine (One.value_any 1 (mk (Shw.wr 1 x)) W (by rw [mk_size]; unfold maxLen; omega)).mono ?_
    rintro e w' ⟨rfl, n, rfl⟩
    have e1 : (mk (Shw.wr 1 x)).data.toList = Shw.wr 1 x := dl_mk _
    rw [e1]
    exact ⟨rfl, ⟨rfl, rfl, rfl, Nat.le_refl _, fun _ _ => rfl⟩⟩
  have HNO := hide (fun (k : Nat) (x : Int) => @not_ok 1 Z k x)
  have H31 : Hid (Z.all (okF 1) = false → showE 1 Z = 31 ∧ mk (showT 1 Z) = ⟨#[]⟩) := fun h => by
    have e : showE 1 Z = 31 := by unfold showE; rw [if_pos (show One.isK 1 = true from rfl), h]; rfl
    refine ⟨e, ?_⟩
    unfold showT
    rw [e]
    rfl
  have H32 : Hid ((∀ x ∈ Z, okF 1 x = true) → 64 < Z.length → showE 1 Z = 32 ∧ mk (showT 1 Z) = ⟨#[]⟩) := fun h h2 => by
    have e : showE 1 Z = 32 := by unfold showE; rw [if_pos (show One.isK 1 = true from rfl), all_ok h, if_pos rfl, if_pos h2]
    refine ⟨e, ?_⟩
    unfold showT
    rw [e]
    rfl
  have H0 : Hid ((∀ x ∈ Z, okF 1 x = true) → ¬ 64 < Z.length → showE 1 Z = 0 ∧ showT 1 Z = text 1 Z) := fun h h2 => by
    have e : showE 1 Z = 0 := by unfold showE; rw [if_pos (show One.isK 1 = true from rfl), all_ok h, if_pos rfl, if_neg h2]
    refine ⟨e, ?_⟩
    unfold showT
    rw [e]
    rfl
  have HTL : Hid (Z.take Z.length = Z) := List.take_length
  have HTN : Hid (∀ (k : Nat) x, Z[k]? = some x → k < 64 → mk (text 1 (Z.take (min (k + 1) 64))) = if k = 0 then mk (Shw.wr 1 x) else mk (text 1 (Z.take (min k 64))) ++ (mk (sepK 1) ++ mk (Shw.wr 1 x))) := fun k x hx h => by
    have e1 : min (k + 1) 64 = k + 1 := by omega
    have e2 : min k 64 = k := by omega
    rw [e1, e2, take_snoc hx, text_snoc, mk_append, mk_append]
    have hkl : k < Z.length := (List.getElem?_eq_some_iff.1 hx).1
    by_cases h0 : k = 0
    · rw [if_pos h0, h0]; rfl
    · rw [if_neg h0, if_neg (fun e => by have h9 := congrArg List.length e; rw [List.length_take, List.length_nil] at h9; omega)]
  have HSZ : Hid (∀ k : Nat, (mk (text 1 (Z.take (min k 64)))).size ≤ 1344) := fun k => by
    have h := text_len 1 _ (Z.take (min k 64)) rfl (fun x hx => hzb x (List.mem_of_mem_take hx))
    rw [mk_size]
    simp at h
    omega
  have HWL : Hid (∀ (k : Nat) x, Z[k]? = some x → (mk (Shw.wr 1 x)).size ≤ 20) := fun k x hx => by
    have hbx := hzb x (List.mem_of_getElem? hx)
    rw [mk_size]
    exact wr_len 1 x hbx.1 hbx.2
  have HFM : Hid (∀ n W u, IRow n W u Z → ∃ ao cap, u = .slice ao Z.length cap ∧ ∀ (k : Nat) x, Z[k]? = some x → ∃ g, ao = some ⟨g, 0, none⟩ ∧ g < W.heap.size ∧ W.cell? ⟨g, k, none⟩ = some (.int .i64 x)) := fun n W u h => by
    obtain ⟨ao, cap, e, _, h2⟩ := h.form
    exact ⟨ao, cap, e, h2⟩
  clear hzb
  generalize hTT : mk (showT 1 Z) = TT at *
  have HTT := hide hTT
  clear hTT
  generalize showE 1 Z = E at *
  generalize hnn : Z.length = n at *
  have HN := hide hnn
  clear hnn
  have hnz : (n : Int) ≤ 1048576 := by omega
  go_enter Tryd.func16, Tryd.ntmps16
  go_wp2_with (go_at_call 19; refine (unhide HO).mono ?_; rintro e w1 ⟨z, rfl, hF, hB⟩; obtain ⟨ao, cap, rfl, hcell⟩ := unhide HFM _ _ _ hF; have HC := hide hcell; have HB1 := hide hB; clear hF hB hcell HO)
  go_loopg [6, 8] n (fun kk s6 s8 wr => ∃ k : Nat, s8 = .int .i64 k ∧ k + kk = n ∧ s6 = .string (mk (text 1 (Z.take (min k 64)))) ∧ Hid (∀ x ∈ Z.take k, okF 1 x = true) ∧ Hid (Go.RowKit.Below w1.heap.size w1 wr))
  case atStart => exact ⟨0, rfl, by omega, rfl, hide (fun x hx => by simp at hx), Go.RowKit.Below.refl _ _⟩
  case round =>
    obtain ⟨k, rfl, hk, rfl, HOKS, HBL⟩ := hrel
    have HB : Hid (Go.RowKit.Below w.heap.size w wr) := (unhide HB1).trans ((unhide HBL).mono (unhide HB1).size)
    have hAs := unhide HSZ k
    obtain ⟨A, hA⟩ : ∃ A, A = mk (text 1 (Z.take (min k 64))) := ⟨_, rfl⟩
    rw [← hA] at hAs ⊢
    have HA := hide hA
    clear hA
    by_cases hlt : k < n
    · have hltz : (k : Int) < (n : Int) := by omega
      obtain ⟨x, hx⟩ : ∃ x, Z[k]? = some x := ⟨_, List.getElem?_eq_getElem (by rw [unhide HN]; exact hlt)⟩
      obtain ⟨g, rfl, hg, hc⟩ := unhide HC k x hx
      have hcw := ((unhide HBL).cell (p := ⟨g, k, none⟩) hg).trans hc
      obtain ⟨hx0, hx1⟩ := unhide HZB x (List.mem_of_getElem? hx)
      have HVX := hide (fun W => unhide HV k x W hx)
      have HNX := hide (unhide HNO k x hx)
      have hps := unhide HWL k x hx
      have HTX := hide (unhide HTN k x hx)
      have HOKX := hide (ok1 hx0 hx1)
      have HTS : Hid (okF 1 x = true → ∀ y ∈ Z.take (k + 1), okF 1 y = true) := fun h y hy => by
        rw [take_snoc hx] at hy
        rcases List.mem_append.1 hy with hy | hy
        · exact unhide HOKS y hy
        · simp at hy; subst hy; exact h
      clear hx hc hg
      by_cases h255 : 255 < x
      · have hbad : okF 1 x = false := by rw [unhide HOKX]; simp [h255]
        have HX := hide (unhide H31 (unhide HNX hbad))
        clear hbad
        go_wp2
        go_ret2
        rw [(unhide HX).1, (unhide HX).2]
        exact ⟨rfl, unhide HB⟩
      · have HBZ : Hid (∀ W, Go.RowKit.Below wr.heap.size wr W → Go.RowKit.Below w1.heap.size w1 W ∧ Go.RowKit.Below w.heap.size w W) := fun W h => ⟨(unhide HBL).trans (h.mono (unhide HBL).size), (unhide HB).trans (h.mono (unhide HB).size)⟩
        obtain ⟨p, hp⟩ : ∃ p, p = mk (Shw.wr 1 x) := ⟨_, rfl⟩
        obtain ⟨vx, hv⟩ : ∃ vx, vx = One.val 1 (Shw.wr 1 x) := ⟨_, rfl⟩
        rw [← hp, ← hv] at HVX
        rw [← hp] at hps HTX
        have HOKZ : Hid (vx = 0 → okF 1 x = false) := fun h => by rw [unhide HOKX, ← hv, h]; simp
        have HOKN : Hid (vx ≠ 0 → okF 1 x = true) := fun h => by rw [unhide HOKX, ← hv]; simp [h255, h]
        have hcv : ∀ W : World, (convert 66 9 (.slice (some ⟨W.heap.size, 0, none⟩) 1 1)).run Tryd.prog (W.alloc (.cells #[.int .u8 x] 5)) = .ok (.string p) (W.alloc (.cells #[.int .u8 x] 5)) := fun W => by rw [hp]; exact conv1 x hx0 (by omega) W
        have HP : Hid (mk (Shw.wr 1 x) = p) := hp.symm
        clear hp hv
        by_cases hvz : vx = 0
        · subst hvz
          have HX := hide (unhide H31 (unhide HNX (unhide HOKZ rfl)))
          go_wp2_with ((go_at_call 33; refine (unhide HVX _).mono ?_; rintro e w2 ⟨rfl, hB2⟩; have HB2 := hide ((((Go.RowKit.Below.refl _ wr).alloc (Nat.le_refl _) _).trans (hB2.mono (by simp)))); clear hB2))
          go_ret2
          rw [(unhide HX).1, (unhide HX).2]
          exact ⟨rfl, (unhide HBZ _ (unhide HB2)).2⟩
        · have hvne : (vx == 0) = false := by rw [beq_eq_false_iff_ne]; exact hvz
          have HOKT := hide (unhide HTS (unhide HOKN hvz))
          clear hvz
          by_cases hk0 : k = 0
          · subst hk0
            have HTX0 : Hid (A ++ p = mk (text 1 (Z.take (min (0 + 1) 64)))) := by
              rw [Hid, unhide HTX (by omega), if_pos rfl, unhide HA]
              show mk [] ++ p = p
              rw [← unhide HP, mk_append]
              rfl
            have hadd : ∀ W : World, (Op.stringOp .add A p).run Tryd.prog W = .ok (.string (A ++ p)) W := fun W => run_string_add_sum W A p (by omega)
            generalize A ++ p = C at *
            go_wp2_with ((go_at_call 33; refine (unhide HVX _).mono ?_; rintro e w2 ⟨rfl, hB2⟩; have HB2 := hide ((((Go.RowKit.Below.refl _ wr).alloc (Nat.le_refl _) _).trans (hB2.mono (by simp)))); clear hB2))
            go_roundg (n - (0 + 1))
            case rel => exact ⟨0 + 1, by go_num, by omega, by rw [unhide HTX0], HOKT, hide (unhide HBZ _ (unhide HB2)).1⟩
            case measure => omega
          · have hk0z : (0 : Int) < (k : Int) := by omega
            by_cases h64 : k < 64
            · have h64z : (k : Int) < 64 := by omega
              have HTXK : Hid (A ++ p = mk (text 1 (Z.take (min (k + 1) 64)))) := by
                rw [Hid, unhide HTX h64, if_neg hk0, unhide HA]
                show _ = _ ++ (mk [] ++ p)
                rw [← unhide HP, mk_append]
                rfl
              have hadd : ∀ W : World, (Op.stringOp .add A p).run Tryd.prog W = .ok (.string (A ++ p)) W := fun W => run_string_add_sum W A p (by omega)
              generalize A ++ p = C at *
              go_wp2_with ((go_at_call 33; refine (unhide HVX _).mono ?_; rintro e w2 ⟨rfl, hB2⟩; have HB2 := hide ((((Go.RowKit.Below.refl _ wr).alloc (Nat.le_refl _) _).trans (hB2.mono (by simp)))); clear hB2))
              go_roundg (n - (k + 1))
              case rel => exact ⟨k + 1, by go_num, by omega, by rw [unhide HTXK], HOKT, hide (unhide HBZ _ (unhide HB2)).1⟩
              case measure => omega
            · have h64z : ¬ (k : Int) < 64 := by omega
              have HTXK : Hid (A = mk (text 1 (Z.take (min (k + 1) 64)))) := by
                have e : min (k + 1) 64 = min k 64 := by omega
                rw [Hid, e]; exact unhide HA
              clear HTX
              go_wp2_with ((go_at_call 33; refine (unhide HVX _).mono ?_; rintro e w2 ⟨rfl, hB2⟩; have HB2 := hide ((((Go.RowKit.Below.refl _ wr).alloc (Nat.le_refl _) _).trans (hB2.mono (by simp)))); clear hB2))
              go_roundg (n - (k + 1))
              case rel => exact ⟨k + 1, by go_num, by omega, by rw [← unhide HTXK], HOKT, hide (unhide HBZ _ (unhide HB2)).1⟩
              case measure => omega
    · obtain rfl : k = n := by omega
      have hltz : ¬ (k : Int) < (k : Int) := by omega
      have HALL : Hid (∀ x ∈ Z, okF 1 x = true) := by
        have h := unhide HOKS
        rwa [unhide HTL] at h
      by_cases h64 : 64 < k
      · have h64z : (64 : Int) < (k : Int) := by omega
        have HX := hide (unhide H32 (unhide HALL) h64)
        go_wp2
        go_ret2
        rw [(unhide HX).1, (unhide HX).2]
        exact ⟨rfl, unhide HB⟩
      · have h64z : ¬ (64 : Int) < (k : Int) := by omega
        have HX := hide (unhide H0 (unhide HALL) h64)
        have HAE : Hid (A = TT) := by
          have e : min k 64 = k := by omega
          rw [Hid, unhide HA, e, unhide HTL, ← unhide HTT, (unhide HX).2]
        go_wp2
        go_ret2
        rw [(unhide HX).1, ← unhide HAE]
        exact ⟨rfl, unhide HB⟩

set_option maxRecDepth 100000 in
set_option maxHeartbeats 8000000 in
theorem refShow2 {n₀ : Nat} (v : Value) (L : List Int) (w : World) (hI : IRow n₀ w v L) (hb : ∀ x ∈ L, 0 ≤ x ∧ x ≤ 65535) (hn : L.length ≤ 1048576) :
    Calls Tryd.prog 16 #[.int .i64 2, v] w fun e w' => e = .returned (.tuple #[.string (mk (showT 2 (setOf L))), .int .i64 (showE 2 (setOf L))]) ∧ Go.RowKit.Below w.heap.size w w' := by
  have HO := hide (refOf_any v L w hI (fun x hx => (hb x hx).1) (by omega))
  have hzl := (setOf_set L).len
  have hzb := set_bounds hb
  clear hI hb
  generalize setOf L = Z at *
  have HZB := hide hzb
  have HV : Hid (∀ (k : Nat) x W, Z[k]? = some x → Calls Tryd.prog 33 #[.int .i64 2, .string (mk (Shw.wr 2 x))] W fun e w' => e = .returned (.int .i64 (One.val 2 (Shw.wr 2 x))) ∧ Go.RowKit.Below W.heap.size W w') := fun k x W hx => by
    have hbx := hzb x (List.mem_of_getElem? hx)
    have hl := wr_len 2 x hbx.1 hbx.2
    refine (One.value_any 2 (mk (Shw.wr 2 x)) W (by rw [mk_size]; unfold maxLen; omega)).mono ?_
    rintro e w' ⟨rfl, n, rfl⟩
    have e1 : (mk (Shw.wr 2 x)).data.toList = Shw.wr 2 x := dl_mk _
    rw [e1]
    exact ⟨rfl, ⟨rfl, rfl, rfl, Nat.le_refl _, fun _ _ => rfl⟩⟩
  have HNO := hide (fun (k : Nat) (x : Int) => @not_ok 2 Z k x)
  have H31 : Hid (Z.all (okF 2) = false → showE 2 Z = 31 ∧ mk (showT 2 Z) = ⟨#[]⟩) := fun h => by
    have e : showE 2 Z = 31 := by unfold showE; rw [if_pos (show One.isK 2 = true from rfl), h]; rfl
    refine ⟨e, ?_⟩
    unfold showT
    rw [e]
    rfl
  have H32 : Hid ((∀ x ∈ Z, okF 2 x = true) → 64 < Z.length → showE 2 Z = 32 ∧ mk (showT 2 Z) = ⟨#[]⟩) := fun h h2 => by
    have e : showE 2 Z = 32 := by unfold showE; rw [if_pos (show One.isK 2 = true from rfl), all_ok h, if_pos rfl, if_pos h2]
    refine ⟨e, ?_⟩
    unfold showT
    rw [e]
    rfl
  have H0 : Hid ((∀ x ∈ Z, okF 2 x = true) → ¬ 64 < Z.length → showE 2 Z = 0 ∧ showT 2 Z = text 2 Z) := fun h h2 => by
    have e : showE 2 Z = 0 := by unfold showE; rw [if_pos (show One.isK 2 = true from rfl), all_ok h, if_pos rfl, if_neg h2]
    refine ⟨e, ?_⟩
    unfold showT
    rw [e]
    rfl
  have HTL : Hid (Z.take Z.length = Z) := List.take_length
  have HTN : Hid (∀ (k : Nat) x, Z[k]? = some x → k < 64 → mk (text 2 (Z.take (min (k + 1) 64))) = if k = 0 then mk (Shw.wr 2 x) else mk (text 2 (Z.take (min k 64))) ++ (mk (sepK 2) ++ mk (Shw.wr 2 x))) := fun k x hx h => by
    have e1 : min (k + 1) 64 = k + 1 := by omega
    have e2 : min k 64 = k := by omega
    rw [e1, e2, take_snoc hx, text_snoc, mk_append, mk_append]
    have hkl : k < Z.length := (List.getElem?_eq_some_iff.1 hx).1
    by_cases h0 : k = 0
    · rw [if_pos h0, h0]; rfl
    · rw [if_neg h0, if_neg (fun e => by have h9 := congrArg List.length e; rw [List.length_take, List.length_nil] at h9; omega)]
  have HSZ : Hid (∀ k : Nat, (mk (text 2 (Z.take (min k 64)))).size ≤ 1344) := fun k => by
    have h := text_len 2 _ (Z.take (min k 64)) rfl (fun x hx => hzb x (List.mem_of_mem_take hx))
    rw [mk_size]
    simp at h
    omega
  have HWL : Hid (∀ (k : Nat) x, Z[k]? = some x → (mk (Shw.wr 2 x)).size ≤ 20) := fun k x hx => by
    have hbx := hzb x (List.mem_of_getElem? hx)
    rw [mk_size]
    exact wr_len 2 x hbx.1 hbx.2
  have HFM : Hid (∀ n W u, IRow n W u Z → ∃ ao cap, u = .slice ao Z.length cap ∧ ∀ (k : Nat) x, Z[k]? = some x → ∃ g, ao = some ⟨g, 0, none⟩ ∧ g < W.heap.size ∧ W.cell? ⟨g, k, none⟩ = some (.int .i64 x)) := fun n W u h => by
    obtain ⟨ao, cap, e, _, h2⟩ := h.form
    exact ⟨ao, cap, e, h2⟩
  clear hzb
  generalize hTT : mk (showT 2 Z) = TT at *
  have HTT := hide hTT
  clear hTT
  generalize showE 2 Z = E at *
  generalize hnn : Z.length = n at *
  have HN := hide hnn
  clear hnn
  have hnz : (n : Int) ≤ 1048576 := by omega
  go_enter Tryd.func16, Tryd.ntmps16
  go_wp2_with (go_at_call 19; refine (unhide HO).mono ?_; rintro e w1 ⟨z, rfl, hF, hB⟩; obtain ⟨ao, cap, rfl, hcell⟩ := unhide HFM _ _ _ hF; have HC := hide hcell; have HB1 := hide hB; clear hF hB hcell HO)
  go_loopg [6, 8] n (fun kk s6 s8 wr => ∃ k : Nat, s8 = .int .i64 k ∧ k + kk = n ∧ s6 = .string (mk (text 2 (Z.take (min k 64)))) ∧ Hid (∀ x ∈ Z.take k, okF 2 x = true) ∧ Hid (Go.RowKit.Below w1.heap.size w1 wr))
  case atStart => exact ⟨0, rfl, by omega, rfl, hide (fun x hx => by simp at hx), Go.RowKit.Below.refl _ _⟩
  case round =>
    obtain ⟨k, rfl, hk, rfl, HOKS, HBL⟩ := hrel
    have HB : Hid (Go.RowKit.Below w.heap.size w wr) := (unhide HB1).trans ((unhide HBL).mono (unhide HB1).size)
    have hAs := unhide HSZ k
    obtain ⟨A, hA⟩ : ∃ A, A = mk (text 2 (Z.take (min k 64))) := ⟨_, rfl⟩
    rw [← hA] at hAs ⊢
    have HA := hide hA
    clear hA
    by_cases hlt : k < n
    · have hltz : (k : Int) < (n : Int) := by omega
      obtain ⟨x, hx⟩ : ∃ x, Z[k]? = some x := ⟨_, List.getElem?_eq_getElem (by rw [unhide HN]; exact hlt)⟩
      obtain ⟨g, rfl, hg, hc⟩ := unhide HC k x hx
      have hcw := ((unhide HBL).cell (p := ⟨g, k, none⟩) hg).trans hc
      obtain ⟨hx0, hx1⟩ := unhide HZB x (List.mem_of_getElem? hx)
      have HVX := hide (fun W => unhide HV k x W hx)
      have HNX := hide (unhide HNO k x hx)
      have hps := unhide HWL k x hx
      have HTX := hide (unhide HTN k x hx)
      have HOKX := hide (ok2 hx0 hx1)
      have HTS : Hid (okF 2 x = true → ∀ y ∈ Z.take (k + 1), okF 2 y = true) := fun h y hy => by
        rw [take_snoc hx] at hy
        rcases List.mem_append.1 hy with hy | hy
        · exact unhide HOKS y hy
        · simp at hy; subst hy; exact h
      clear hx hc hg
      have HBZ : Hid (∀ W, Go.RowKit.Below wr.heap.size wr W → Go.RowKit.Below w1.heap.size w1 W ∧ Go.RowKit.Below w.heap.size w W) := fun W h => ⟨(unhide HBL).trans (h.mono (unhide HBL).size), (unhide HB).trans (h.mono (unhide HB).size)⟩
      obtain ⟨p, hp⟩ : ∃ p, p = mk (Shw.wr 2 x) := ⟨_, rfl⟩
      obtain ⟨vx, hv⟩ : ∃ vx, vx = One.val 2 (Shw.wr 2 x) := ⟨_, rfl⟩
      rw [← hp, ← hv] at HVX
      rw [← hp] at hps HTX
      have HOKZ : Hid (vx = 0 → okF 2 x = false) := fun h => by rw [unhide HOKX, ← hv, h]; simp
      have HOKN : Hid (vx ≠ 0 → okF 2 x = true) := fun h => by rw [unhide HOKX, ← hv]; simp [h]
      have hcv : ∀ W : World, (convert 66 9 (.slice (some ⟨W.heap.size, 0, none⟩) 2 2)).run Tryd.prog (W.alloc (.cells #[.int .u8 (x / 256), .int .u8 (x % 256)] 5)) = .ok (.string p) (W.alloc (.cells #[.int .u8 (x / 256), .int .u8 (x % 256)] 5)) := fun W => by rw [hp]; exact conv2 x hx0 hx1 W
      have hcvd : ∀ W : World, (convert 66 9 (.slice (some ⟨W.heap.size, 0, none⟩) 2 2)).run Tryd.prog (W.alloc (.cells #[.int .u8 (x / 256), .int .u8 (x % 256)] 5)).drew = .ok (.string p) (W.alloc (.cells #[.int .u8 (x / 256), .int .u8 (x % 256)] 5)).drew := fun W => by rw [hp]; exact conv2d x hx0 hx1 W
      have hq0 : 0 ≤ x / 256 := by omega
      have hq1 : x / 256 ≤ 255 := by omega
      have hr0 : 0 ≤ x % 256 := by omega
      have hr1 : x % 256 ≤ 255 := by omega
      have HP : Hid (mk (Shw.wr 2 x) = p) := hp.symm
      clear hp hv
      by_cases hvz : vx = 0
      · subst hvz
        have HX := hide (unhide H31 (unhide HNX (unhide HOKZ rfl)))
        go_wp2_with fail
        go_region
        go_wp2_with ((go_at_call 33; refine (unhide HVX _).mono ?_; rintro e w2 ⟨rfl, hB2⟩; have HB2 := hide (((((Go.RowKit.Below.refl _ wr).alloc (Nat.le_refl _) _).drew).trans (hB2.mono (by show wr.heap.size ≤ (wr.alloc _).heap.size; simp)))); clear hB2))
        go_ret2
        rw [(unhide HX).1, (unhide HX).2]
        exact ⟨rfl, (unhide HBZ _ (unhide HB2)).2⟩
      · have hvne : (vx == 0) = false := by rw [beq_eq_false_iff_ne]; exact hvz
        have HOKT := hide (unhide HTS (unhide HOKN hvz))
        clear hvz
        by_cases hk0 : k = 0
        · subst hk0
          have HTX0 : Hid (A ++ p = mk (text 2 (Z.take (min (0 + 1) 64)))) := by
            rw [Hid, unhide HTX (by omega), if_pos rfl, unhide HA]
            show mk [] ++ p = p
            rw [← unhide HP, mk_append]
            rfl
          have hadd : ∀ W : World, (Op.stringOp .add A p).run Tryd.prog W = .ok (.string (A ++ p)) W := fun W => run_string_add_sum W A p (by omega)
          generalize A ++ p = C at *
          go_wp2_with fail
          go_region
          go_wp2_with ((go_at_call 33; refine (unhide HVX _).mono ?_; rintro e w2 ⟨rfl, hB2⟩; have HB2 := hide (((((Go.RowKit.Below.refl _ wr).alloc (Nat.le_refl _) _).drew).trans (hB2.mono (by show wr.heap.size ≤ (wr.alloc _).heap.size; simp)))); clear hB2))
          go_roundg (n - (0 + 1))
          case rel => exact ⟨0 + 1, by go_num, by omega, by rw [unhide HTX0], HOKT, hide (unhide HBZ _ (unhide HB2)).1⟩
          case measure => omega
        · have hk0z : (0 : Int) < (k : Int) := by omega
          by_cases h64 : k < 64
          · have h64z : (k : Int) < 64 := by omega
            have HTXK : Hid (A ++ p = mk (text 2 (Z.take (min (k + 1) 64)))) := by
              rw [Hid, unhide HTX h64, if_neg hk0, unhide HA]
              show _ = _ ++ (mk [] ++ p)
              rw [← unhide HP, mk_append]
              rfl
            have hadd : ∀ W : World, (Op.stringOp .add A p).run Tryd.prog W = .ok (.string (A ++ p)) W := fun W => run_string_add_sum W A p (by omega)
            generalize A ++ p = C at *
            go_wp2_with fail
            go_region
            go_wp2_with ((go_at_call 33; refine (unhide HVX _).mono ?_; rintro e w2 ⟨rfl, hB2⟩; have HB2 := hide (((((Go.RowKit.Below.refl _ wr).alloc (Nat.le_refl _) _).drew).trans (hB2.mono (by show wr.heap.size ≤ (wr.alloc _).heap.size; simp)))); clear hB2))
            go_roundg (n - (k + 1))
            case rel => exact ⟨k + 1, by go_num, by omega, by rw [unhide HTXK], HOKT, hide (unhide HBZ _ (unhide HB2)).1⟩
            case measure => omega
          · have h64z : ¬ (k : Int) < 64 := by omega
            have HTXK : Hid (A = mk (text 2 (Z.take (min (k + 1) 64)))) := by
              have e : min (k + 1) 64 = min k 64 := by omega
              rw [Hid, e]; exact unhide HA
            clear HTX
            go_wp2_with fail
            go_region
            go_wp2_with ((go_at_call 33; refine (unhide HVX _).mono ?_; rintro e w2 ⟨rfl, hB2⟩; have HB2 := hide (((((Go.RowKit.Below.refl _ wr).alloc (Nat.le_refl _) _).drew).trans (hB2.mono (by show wr.heap.size ≤ (wr.alloc _).heap.size; simp)))); clear hB2))
            go_roundg (n - (k + 1))
            case rel => exact ⟨k + 1, by go_num, by omega, by rw [← unhide HTXK], HOKT, hide (unhide HBZ _ (unhide HB2)).1⟩
            case measure => omega
    · obtain rfl : k = n := by omega
      have hltz : ¬ (k : Int) < (k : Int) := by omega
      have HALL : Hid (∀ x ∈ Z, okF 2 x = true) := by
        have h := unhide HOKS
        rwa [unhide HTL] at h
      by_cases h64 : 64 < k
      · have h64z : (64 : Int) < (k : Int) := by omega
        have HX := hide (unhide H32 (unhide HALL) h64)
        go_wp2
        go_ret2
        rw [(unhide HX).1, (unhide HX).2]
        exact ⟨rfl, unhide HB⟩
      · have h64z : ¬ (64 : Int) < (k : Int) := by omega
        have HX := hide (unhide H0 (unhide HALL) h64)
        have HAE : Hid (A = TT) := by
          have e : min k 64 = k := by omega
          rw [Hid, unhide HA, e, unhide HTL, ← unhide HTT, (unhide HX).2]
        go_wp2
        go_ret2
        rw [(unhide HX).1, ← unhide HAE]
        exact ⟨rfl, unhide HB⟩

set_option maxRecDepth 100000 in
set_option maxHeartbeats 8000000 in
theorem refShow3 {n₀ : Nat} (v : Value) (L : List Int) (w : World) (hI : IRow n₀ w v L) (hb : ∀ x ∈ L, 0 ≤ x ∧ x ≤ 65535) (hn : L.length ≤ 1048576) :
    Calls Tryd.prog 16 #[.int .i64 3, v] w fun e w' => e = .returned (.tuple #[.string (mk (showT 3 (setOf L))), .int .i64 (showE 3 (setOf L))]) ∧ Go.RowKit.Below w.heap.size w w' := by
  have HO := hide (refOf_any v L w hI (fun x hx => (hb x hx).1) (by omega))
  have hzl := (setOf_set L).len
  have hzb := set_bounds hb
  clear hI hb
  generalize setOf L = Z at *
  have HZB := hide hzb
  have HV : Hid (∀ (k : Nat) x W, Z[k]? = some x → Calls Tryd.prog 33 #[.int .i64 3, .string (mk (Shw.wr 3 x))] W fun e w' => e = .returned (.int .i64 (One.val 3 (Shw.wr 3 x))) ∧ Go.RowKit.Below W.heap.size W w') := fun k x W hx => by
    have hbx := hzb x (List.mem_of_getElem? hx)
    have hl := wr_len 3 x hbx.1 hbx.2
    refine (One.value_any 3 (mk (Shw.wr 3 x)) W (by rw [mk_size]; unfold maxLen; omega)).mono ?_
    rintro e w' ⟨rfl, n, rfl⟩
    have e1 : (mk (Shw.wr 3 x)).data.toList = Shw.wr 3 x := dl_mk _
    rw [e1]
    exact ⟨rfl, ⟨rfl, rfl, rfl, Nat.le_refl _, fun _ _ => rfl⟩⟩
  have HNO := hide (fun (k : Nat) (x : Int) => @not_ok 3 Z k x)
  have H31 : Hid (Z.all (okF 3) = false → showE 3 Z = 31 ∧ mk (showT 3 Z) = ⟨#[]⟩) := fun h => by
    have e : showE 3 Z = 31 := by unfold showE; rw [if_pos (show One.isK 3 = true from rfl), h]; rfl
    refine ⟨e, ?_⟩
    unfold showT
    rw [e]
    rfl
  have H32 : Hid ((∀ x ∈ Z, okF 3 x = true) → 64 < Z.length → showE 3 Z = 32 ∧ mk (showT 3 Z) = ⟨#[]⟩) := fun h h2 => by
    have e : showE 3 Z = 32 := by unfold showE; rw [if_pos (show One.isK 3 = true from rfl), all_ok h, if_pos rfl, if_pos h2]
    refine ⟨e, ?_⟩
    unfold showT
    rw [e]
    rfl
  have H0 : Hid ((∀ x ∈ Z, okF 3 x = true) → ¬ 64 < Z.length → showE 3 Z = 0 ∧ showT 3 Z = text 3 Z) := fun h h2 => by
    have e : showE 3 Z = 0 := by unfold showE; rw [if_pos (show One.isK 3 = true from rfl), all_ok h, if_pos rfl, if_neg h2]
    refine ⟨e, ?_⟩
    unfold showT
    rw [e]
    rfl
  have HTL : Hid (Z.take Z.length = Z) := List.take_length
  have HTN : Hid (∀ (k : Nat) x, Z[k]? = some x → k < 64 → mk (text 3 (Z.take (min (k + 1) 64))) = if k = 0 then mk (Shw.wr 3 x) else mk (text 3 (Z.take (min k 64))) ++ (mk (sepK 3) ++ mk (Shw.wr 3 x))) := fun k x hx h => by
    have e1 : min (k + 1) 64 = k + 1 := by omega
    have e2 : min k 64 = k := by omega
    rw [e1, e2, take_snoc hx, text_snoc, mk_append, mk_append]
    have hkl : k < Z.length := (List.getElem?_eq_some_iff.1 hx).1
    by_cases h0 : k = 0
    · rw [if_pos h0, h0]; rfl
    · rw [if_neg h0, if_neg (fun e => by have h9 := congrArg List.length e; rw [List.length_take, List.length_nil] at h9; omega)]
  have HSZ : Hid (∀ k : Nat, (mk (text 3 (Z.take (min k 64)))).size ≤ 1344) := fun k => by
    have h := text_len 3 _ (Z.take (min k 64)) rfl (fun x hx => hzb x (List.mem_of_mem_take hx))
    rw [mk_size]
    simp at h
    omega
  have HWL : Hid (∀ (k : Nat) x, Z[k]? = some x → (mk (Shw.wr 3 x)).size ≤ 20) := fun k x hx => by
    have hbx := hzb x (List.mem_of_getElem? hx)
    rw [mk_size]
    exact wr_len 3 x hbx.1 hbx.2
  have HFM : Hid (∀ n W u, IRow n W u Z → ∃ ao cap, u = .slice ao Z.length cap ∧ ∀ (k : Nat) x, Z[k]? = some x → ∃ g, ao = some ⟨g, 0, none⟩ ∧ g < W.heap.size ∧ W.cell? ⟨g, k, none⟩ = some (.int .i64 x)) := fun n W u h => by
    obtain ⟨ao, cap, e, _, h2⟩ := h.form
    exact ⟨ao, cap, e, h2⟩
  clear hzb
  generalize hTT : mk (showT 3 Z) = TT at *
  have HTT := hide hTT
  clear hTT
  generalize showE 3 Z = E at *
  generalize hnn : Z.length = n at *
  have HN := hide hnn
  clear hnn
  have hnz : (n : Int) ≤ 1048576 := by omega
  go_enter Tryd.func16, Tryd.ntmps16
  go_wp2_with (go_at_call 19; refine (unhide HO).mono ?_; rintro e w1 ⟨z, rfl, hF, hB⟩; obtain ⟨ao, cap, rfl, hcell⟩ := unhide HFM _ _ _ hF; have HC := hide hcell; have HB1 := hide hB; clear hF hB hcell HO)
  go_loopg [6, 8] n (fun kk s6 s8 wr => ∃ k : Nat, s8 = .int .i64 k ∧ k + kk = n ∧ s6 = .string (mk (text 3 (Z.take (min k 64)))) ∧ Hid (∀ x ∈ Z.take k, okF 3 x = true) ∧ Hid (Go.RowKit.Below w1.heap.size w1 wr))
  case atStart => exact ⟨0, rfl, by omega, rfl, hide (fun x hx => by simp at hx), Go.RowKit.Below.refl _ _⟩
  case round =>
    obtain ⟨k, rfl, hk, rfl, HOKS, HBL⟩ := hrel
    have HB : Hid (Go.RowKit.Below w.heap.size w wr) := (unhide HB1).trans ((unhide HBL).mono (unhide HB1).size)
    have hAs := unhide HSZ k
    obtain ⟨A, hA⟩ : ∃ A, A = mk (text 3 (Z.take (min k 64))) := ⟨_, rfl⟩
    rw [← hA] at hAs ⊢
    have HA := hide hA
    clear hA
    by_cases hlt : k < n
    · have hltz : (k : Int) < (n : Int) := by omega
      obtain ⟨x, hx⟩ : ∃ x, Z[k]? = some x := ⟨_, List.getElem?_eq_getElem (by rw [unhide HN]; exact hlt)⟩
      obtain ⟨g, rfl, hg, hc⟩ := unhide HC k x hx
      have hcw := ((unhide HBL).cell (p := ⟨g, k, none⟩) hg).trans hc
      obtain ⟨hx0, hx1⟩ := unhide HZB x (List.mem_of_getElem? hx)
      have HVX := hide (fun W => unhide HV k x W hx)
      have HNX := hide (unhide HNO k x hx)
      have hps := unhide HWL k x hx
      have HTX := hide (unhide HTN k x hx)
      have HOKX := hide (ok3 hx0 hx1)
      have HTS : Hid (okF 3 x = true → ∀ y ∈ Z.take (k + 1), okF 3 y = true) := fun h y hy => by
        rw [take_snoc hx] at hy
        rcases List.mem_append.1 hy with hy | hy
        · exact unhide HOKS y hy
        · simp at hy; subst hy; exact h
      clear hx hc hg
      have HBZ : Hid (∀ W, Go.RowKit.Below wr.heap.size wr W → Go.RowKit.Below w1.heap.size w1 W ∧ Go.RowKit.Below w.heap.size w W) := fun W h => ⟨(unhide HBL).trans (h.mono (unhide HBL).size), (unhide HB).trans (h.mono (unhide HB).size)⟩
      obtain ⟨p, hp⟩ : ∃ p, p = mk (Shw.wr 3 x) := ⟨_, rfl⟩
      obtain ⟨vx, hv⟩ : ∃ vx, vx = One.val 3 (Shw.wr 3 x) := ⟨_, rfl⟩
      rw [← hp, ← hv] at HVX
      rw [← hp] at hps HTX
      have HOKZ : Hid (vx = 0 → okF 3 x = false) := fun h => by rw [unhide HOKX, ← hv, h]; simp
      have HOKN : Hid (vx ≠ 0 → okF 3 x = true) := fun h => by rw [unhide HOKX, ← hv]; simp [h]
      have HDX : Hid (∀ W, Calls Tryd.prog 38 #[.int .i64 x] W fun e w' => e = .returned (.string p) ∧ Go.RowKit.Below W.heap.size W w') := fun W => by rw [hp]; exact DecW.dec_any x (by omega) (by omega) W
      have HP : Hid (mk (Shw.wr 3 x) = p) := hp.symm
      clear hp hv
      by_cases hvz : vx = 0
      · subst hvz
        have HX := hide (unhide H31 (unhide HNX (unhide HOKZ rfl)))
        go_wp2_with (first
          | (go_at_call 38; refine (unhide HDX _).mono ?_; rintro e w3 ⟨rfl, hB3⟩; have HB3 := hide hB3; clear hB3)
          | (go_at_call 33; refine (unhide HVX _).mono ?_; rintro e w2 ⟨rfl, hB2⟩; have HB2 := hide ((unhide HB3).trans (hB2.mono (unhide HB3).size)); clear hB2))
        go_ret2
        rw [(unhide HX).1, (unhide HX).2]
        exact ⟨rfl, (unhide HBZ _ (unhide HB2)).2⟩
      · have hvne : (vx == 0) = false := by rw [beq_eq_false_iff_ne]; exact hvz
        have HOKT := hide (unhide HTS (unhide HOKN hvz))
        clear hvz
        by_cases hk0 : k = 0
        · subst hk0
          have HTX0 : Hid (A ++ p = mk (text 3 (Z.take (min (0 + 1) 64)))) := by
            rw [Hid, unhide HTX (by omega), if_pos rfl, unhide HA]
            show mk [] ++ p = p
            rw [← unhide HP, mk_append]
            rfl
          have hadd : ∀ W : World, (Op.stringOp .add A p).run Tryd.prog W = .ok (.string (A ++ p)) W := fun W => run_string_add_sum W A p (by omega)
          generalize A ++ p = C at *
          go_wp2_with (first
            | (go_at_call 38; refine (unhide HDX _).mono ?_; rintro e w3 ⟨rfl, hB3⟩; have HB3 := hide hB3; clear hB3)
            | (go_at_call 33; refine (unhide HVX _).mono ?_; rintro e w2 ⟨rfl, hB2⟩; have HB2 := hide ((unhide HB3).trans (hB2.mono (unhide HB3).size)); clear hB2))
          go_roundg (n - (0 + 1))
          case rel => exact ⟨0 + 1, by go_num, by omega, by rw [unhide HTX0], HOKT, hide (unhide HBZ _ (unhide HB2)).1⟩
          case measure => omega
        · have hk0z : (0 : Int) < (k : Int) := by omega
          by_cases h64 : k < 64
          · have h64z : (k : Int) < 64 := by omega
            obtain ⟨q, hq⟩ : ∃ q, q = (⟨#[44]⟩ : ByteArray) ++ p := ⟨_, rfl⟩
            have hqs : q.size ≤ 21 := by rw [hq, ByteArray.size_append]; show 1 + p.size ≤ 21; omega
            have hadd0 : ∀ W : World, (Op.stringOp .add (⟨#[44]⟩ : ByteArray) p).run Tryd.prog W = .ok (.string q) W := fun W => by rw [hq]; exact run_string_add_sum W ⟨#[44]⟩ p (by show 1 + p.size ≤ _; omega)
            have HTXK : Hid (A ++ q = mk (text 3 (Z.take (min (k + 1) 64)))) := by
              rw [Hid, unhide HTX h64, if_neg hk0, unhide HA, hq]
              rfl
            clear hq
            have hadd : ∀ W : World, (Op.stringOp .add A q).run Tryd.prog W = .ok (.string (A ++ q)) W := fun W => run_string_add_sum W A q (by omega)
            generalize A ++ q = C at *
            go_wp2_with (first
              | (go_at_call 38; refine (unhide HDX _).mono ?_; rintro e w3 ⟨rfl, hB3⟩; have HB3 := hide hB3; clear hB3)
              | (go_at_call 33; refine (unhide HVX _).mono ?_; rintro e w2 ⟨rfl, hB2⟩; have HB2 := hide ((unhide HB3).trans (hB2.mono (unhide HB3).size)); clear hB2))
            go_roundg (n - (k + 1))
            case rel => exact ⟨k + 1, by go_num, by omega, by rw [unhide HTXK], HOKT, hide (unhide HBZ _ (unhide HB2)).1⟩
            case measure => omega
          · have h64z : ¬ (k : Int) < 64 := by omega
            have HTXK : Hid (A = mk (text 3 (Z.take (min (k + 1) 64)))) := by
              have e : min (k + 1) 64 = min k 64 := by omega
              rw [Hid, e]; exact unhide HA
            have hadd0 : ∀ W : World, (Op.stringOp .add (⟨#[44]⟩ : ByteArray) p).run Tryd.prog W = .ok (.string ((⟨#[44]⟩ : ByteArray) ++ p)) W := fun W => run_string_add_sum W ⟨#[44]⟩ p (by show 1 + p.size ≤ _; omega)
            generalize (⟨#[44]⟩ : ByteArray) ++ p = q at *
            go_wp2_with (first
              | (go_at_call 38; refine (unhide HDX _).mono ?_; rintro e w3 ⟨rfl, hB3⟩; have HB3 := hide hB3; clear hB3)
              | (go_at_call 33; refine (unhide HVX _).mono ?_; rintro e w2 ⟨rfl, hB2⟩; have HB2 := hide ((unhide HB3).trans (hB2.mono (unhide HB3).size)); clear hB2))
            go_roundg (n - (k + 1))
            case rel => exact ⟨k + 1, by go_num, by omega, by rw [← unhide HTXK], HOKT, hide (unhide HBZ _ (unhide HB2)).1⟩
            case measure => omega
    · obtain rfl : k = n := by omega
      have hltz : ¬ (k : Int) < (k : Int) := by omega
      have HALL : Hid (∀ x ∈ Z, okF 3 x = true) := by
        have h := unhide HOKS
        rwa [unhide HTL] at h
      by_cases h64 : 64 < k
      · have h64z : (64 : Int) < (k : Int) := by omega
        have HX := hide (unhide H32 (unhide HALL) h64)
        go_wp2
        go_ret2
        rw [(unhide HX).1, (unhide HX).2]
        exact ⟨rfl, unhide HB⟩
      · have h64z : ¬ (64 : Int) < (k : Int) := by omega
        have HX := hide (unhide H0 (unhide HALL) h64)
        have HAE : Hid (A = TT) := by
          have e : min k 64 = k := by omega
          rw [Hid, unhide HA, e, unhide HTL, ← unhide HTT, (unhide HX).2]
        go_wp2
        go_ret2
        rw [(unhide HX).1, ← unhide HAE]
        exact ⟨rfl, unhide HB⟩

theorem refShow_any {n₀ : Nat} (kind : Int) (v : Value) (L : List Int) (w : World) (hI : IRow n₀ w v L) (hb : ∀ x ∈ L, 0 ≤ x ∧ x ≤ 65535) (hn : L.length ≤ 1048576) :
    Calls Tryd.prog 16 #[.int .i64 kind, v] w fun e w' => e = .returned (.tuple #[.string (mk (showT kind (setOf L))), .int .i64 (showE kind (setOf L))]) ∧ Go.RowKit.Below w.heap.size w w' := by
  cases hk : One.isK kind
  · refine (refShow_bad kind v w hk).mono ?_
    rintro e w' ⟨rfl, rfl⟩
    have e1 : showE kind (setOf L) = 30 := by unfold showE; rw [hk]; rfl
    have e2 : showT kind (setOf L) = [] := by unfold showT; rw [e1]; rfl
    rw [e1, e2]
    exact ⟨rfl, Go.RowKit.Below.refl _ _⟩
  · have h3 : kind = 1 ∨ kind = 2 ∨ kind = 3 := by unfold One.isK at hk; simp at hk; omega
    rcases h3 with rfl | rfl | rfl
    · exact refShow1 v L w hI hb hn
    · exact refShow2 v L w hI hb hn
    · exact refShow3 v L w hI hb hn
theorem show_any (kind : Int) (v : Value) (L : List Int) (w : World) (hA : FArg w v L) (hb : ∀ x ∈ L, 0 ≤ x ∧ x ≤ 65535) (hn : L.length ≤ 1048576) (hP : Pow w) :
    Calls Tryd.prog 14 #[.int .i64 kind, v] w fun e w' => e = .returned (.tuple #[.string (mk (showT kind (setOf L))), .int .i64 (showE kind (setOf L))]) ∧ Go.RowKit.Below w.heap.size w w' := by
  cases hk : One.isK kind
  · refine (show_bad kind v w hk).mono ?_
    rintro e w' ⟨rfl, rfl⟩
    have e1 : showE kind (setOf L) = 30 := by unfold showE; rw [hk]; rfl
    have e2 : showT kind (setOf L) = [] := by unfold showT; rw [e1]; rfl
    rw [e1, e2]
    exact ⟨rfl, Go.RowKit.Below.refl _ _⟩
  · exact show_good kind v L w hk hA hb hn hP
end So
end Go.Proofs.YtaaonaaciomijaaDoor
