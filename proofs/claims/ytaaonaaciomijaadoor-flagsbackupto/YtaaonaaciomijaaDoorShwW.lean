/- Contract: flags.Show of every kind and list of flags. -/
import Derived.Test.YtaaonaaciomijaaDoorWriW
import Derived.Test.YtaaonaaciomijaaDoorCutW
import Derived.Test.YtaaonaaciomijaaDoorRefW
import Derived.Test.YtaaonaaciomijaaDoorShJ
namespace Go.Proofs.YtaaonaaciomijaaDoor
open Go.Sort Go.RowKit
namespace So
open Cut Shw

def pcs (kind : Int) (Z : List Int) : List ByteArray := Z.map fun x => mk (wr kind x)
theorem pcs_data (kind : Int) (Z : List Int) : (pcs kind Z).map (·.data.toList) = Z.map (wr kind) := by
  unfold pcs
  rw [List.map_map]
  apply List.map_congr_left
  intro x _
  exact dl_mk (wr kind x)
set_option maxRecDepth 100000 in
set_option maxHeartbeats 2000000 in
theorem join_empty (ao : Option Addr) (c : Nat) (sep : ByteArray) (w : World) : Calls Tryd.prog 37 #[.slice ao 0 c, .string sep] w fun e w' => e = .returned (.string ⟨#[]⟩) ∧ w' = w := by
  go_enter Tryd.func37, Tryd.ntmps37
  go_wp2
  go_ret
  exact ⟨rfl, rfl⟩
theorem join_pcs {n₀ : Nat} (kind : Int) (Z : List Int) (sep : ByteArray) (hsep : sep.data.toList = sepK kind) (v : Value) (w : World) (hb : ∀ x ∈ Z, 0 ≤ x ∧ x ≤ 65535) (hn : Z.length ≤ 64) (h : SRow n₀ w v Z.length (pcs kind Z)) :
    Calls Tryd.prog 37 #[v, .string sep] w fun e w' => e = .returned (.string (mk (text kind Z))) ∧ Go.RowKit.Below w.heap.size w w' := by
  have hl : (pcs kind Z).length = Z.length := by simp [pcs]
  rw [← hl] at h
  obtain ⟨ao, cap, rfl, h1, h2⟩ := h.strs
  by_cases h0 : 0 < Z.length
  · obtain ⟨g, off, rfl, hg, hc⟩ := h2 (by omega)
    have ht := text_len kind Z.length Z rfl hb
    have hj := Tryd.strings_Join g off cap (pcs kind Z) sep w hc hg (by omega) h1 (by
      rw [pcs_data, hsep]
      show (text kind Z).length ≤ _
      omega)
    rw [pcs_data, hsep] at hj
    exact hj
  · have : Z = [] := List.eq_nil_of_length_eq_zero (by omega)
    subst this
    refine (join_empty ao cap sep w).mono ?_
    rintro e w' ⟨rfl, rfl⟩
    exact ⟨rfl, Go.RowKit.Below.refl _ _⟩
theorem pcs_snoc (kind : Int) {Z : List Int} {k : Nat} {x : Int} (hx : Z[k]? = some x) : pcs kind (Z.take (k + 1)) = pcs kind (Z.take k) ++ [mk (wr kind x)] := by
  rw [take_snoc hx]
  simp [pcs]
theorem all_ok {kind : Int} {Z : List Int} (h : ∀ x ∈ Z, okF kind x = true) : Z.all (okF kind) = true := List.all_eq_true.2 h
theorem not_ok {kind : Int} {Z : List Int} {k : Nat} {x : Int} (hx : Z[k]? = some x) (h : okF kind x = false) : Z.all (okF kind) = false := by
  rw [List.all_eq_false]
  exact ⟨x, List.mem_of_getElem? hx, by simp [h]⟩
/-- flags.One of what was written -/
theorem one_wr (kind x : Int) (hk : One.isK kind = true) (h0 : 0 ≤ x) (h1 : x ≤ 65535) (W : World) :
    Calls Tryd.prog 8 #[.int .i64 kind, .string (mk (wr kind x))] W fun e w' => (∃ g er : Int, e = .returned (.tuple #[.int .u16 g, .int .i64 er]) ∧ ((okF kind x = true ∧ g = x ∧ er = 0) ∨ (okF kind x = false ∧ (er = 31 ∨ (er = 0 ∧ (g != x) = true))))) ∧ Go.RowKit.Below W.heap.size W w' := by
  have hl := wr_len kind x h0 h1
  refine (One.one_any kind (mk (wr kind x)) W (by rw [← dl_len, dl_mk]; unfold maxLen; omega)).mono ?_
  rintro e w' ⟨rfl, n, rfl⟩
  refine ⟨⟨_, _, rfl, ?_⟩, ⟨rfl, rfl, rfl, Nat.le_refl _, fun _ _ => rfl⟩⟩
  have e1 : (mk (wr kind x)).data.toList = wr kind x := dl_mk _
  rw [e1, One.oneF, One.oneE, if_pos hk, if_pos hk]
  unfold okF
  by_cases hv : One.val kind (wr kind x) = 0
  · right
    rw [if_pos hv, hv]
    exact ⟨by simp, .inl rfl⟩
  · rw [if_neg hv]
    by_cases hx : One.val kind (wr kind x) = x
    · left
      exact ⟨by simp [hx]; rwa [hx] at hv, hx, rfl⟩
    · right
      exact ⟨by simp [hx], .inr ⟨rfl, by rw [bne_iff_ne]; exact hx⟩⟩
set_option maxRecDepth 100000 in
set_option maxHeartbeats 2000000 in
theorem show_bad (kind : Int) (v : Value) (w : World) (hk : One.isK kind = false) :
    Calls Tryd.prog 14 #[.int .i64 kind, v] w fun e w' => e = .returned (.tuple #[.string ⟨#[]⟩, .int .i64 30]) ∧ w' = w := by
  have HKK := hide (fun W => One.kind_any kind W)
  rw [hk] at HKK
  go_enter Tryd.func14, Tryd.ntmps14
  go_wp2_with (go_at_call 30; refine (unhide HKK _).mono ?_; rintro e w0 ⟨rfl, hw0⟩; obtain rfl := hw0.symm)
  go_ret2
  exact ⟨rfl, rfl⟩
set_option maxRecDepth 100000 in
set_option maxHeartbeats 8000000 in
theorem show_good (kind : Int) (v : Value) (L : List Int) (w : World) (hk : One.isK kind = true) (hA : FArg w v L) (hb : ∀ x ∈ L, 0 ≤ x ∧ x ≤ 65535) (hn : L.length ≤ 1048576) (hP : Pow w) :
    Calls Tryd.prog 14 #[.int .i64 kind, v] w fun e w' => e = .returned (.tuple #[.string (mk (showT kind (setOf L))), .int .i64 (showE kind (setOf L))]) ∧ Go.RowKit.Below w.heap.size w w' := by
  obtain ⟨i0, hi, hz0, hz1, hz2⟩ := info_parts infoS
  have HKK := hide (fun W => One.kind_any kind W)
  rw [hk] at HKK
  have HO := hide (of_set v L w hA (by omega))
  have hzl := (setOf_set L).len
  have hzb := set_bounds hb
  clear hA hb
  generalize setOf L = Z at *
  have HWR : Hid (∀ (k : Nat) x W, Z[k]? = some x → Go.RowKit.Below w.heap.size w W → Calls Tryd.prog 36 #[.int .i64 kind, .int .u16 x] W fun e w' => e = .returned (.string (mk (wr kind x))) ∧ Go.RowKit.Below W.heap.size W w') := fun k x W hx hB => by
    have := hzb x (List.mem_of_getElem? hx)
    exact write_any kind x hk this.1 this.2 W (hP.below hB)
  have HON : Hid (∀ (k : Nat) x W, Z[k]? = some x → Calls Tryd.prog 8 #[.int .i64 kind, .string (mk (wr kind x))] W fun e w' => (∃ g er : Int, e = .returned (.tuple #[.int .u16 g, .int .i64 er]) ∧ ((okF kind x = true ∧ g = x ∧ er = 0) ∨ (okF kind x = false ∧ (er = 31 ∨ (er = 0 ∧ (g != x) = true))))) ∧ Go.RowKit.Below W.heap.size W w') := fun k x W hx => by
    have := hzb x (List.mem_of_getElem? hx)
    exact one_wr kind x hk this.1 this.2 W
  have HPS := hide (fun (k : Nat) (x : Int) => @pcs_snoc kind Z k x)
  have HNO := hide (fun (k : Nat) (x : Int) => @not_ok kind Z k x)
  have H31 : Hid (Z.all (okF kind) = false → showE kind Z = 31 ∧ mk (showT kind Z) = ⟨#[]⟩) := fun h => by
    have e : showE kind Z = 31 := by unfold showE; rw [if_pos hk, h]; rfl
    refine ⟨e, ?_⟩
    unfold showT
    rw [e]
    rfl
  have H32 : Hid ((∀ x ∈ Z, okF kind x = true) → 64 < Z.length → showE kind Z = 32 ∧ mk (showT kind Z) = ⟨#[]⟩) := fun h h2 => by
    have e : showE kind Z = 32 := by unfold showE; rw [if_pos hk, all_ok h, if_pos rfl, if_pos h2]
    refine ⟨e, ?_⟩
    unfold showT
    rw [e]
    rfl
  have H0 : Hid ((∀ x ∈ Z, okF kind x = true) → ¬ 64 < Z.length → showE kind Z = 0 ∧ showT kind Z = text kind Z) := fun h h2 => by
    have e : showE kind Z = 0 := by unfold showE; rw [if_pos hk, all_ok h, if_pos rfl, if_neg h2]
    refine ⟨e, ?_⟩
    unfold showT
    rw [e]
    rfl
  have HJ : Hid (∀ sep : ByteArray, sep.data.toList = sepK kind → ∀ B W u, ¬ 64 < Z.length → SRow B W u Z.length (pcs kind (Z.take Z.length)) → Calls Tryd.prog 37 #[u, .string sep] W fun e w' => e = .returned (.string (mk (text kind Z))) ∧ Go.RowKit.Below W.heap.size W w') := fun sep hs B W u hl h => by
    rw [List.take_length] at h
    exact join_pcs kind Z sep hs u W hzb (by omega) h
  have HTL : Hid (Z.take Z.length = Z) := List.take_length
  have HFA : Hid (∀ n W u, FRow n W u Z → ∃ ao cap, u = .slice ao Z.length cap ∧ ∀ (k : Nat) x, Z[k]? = some x → ∃ g off, ao = some ⟨g, off, none⟩ ∧ g < W.heap.size ∧ W.cell? ⟨g, off + k, none⟩ = some (.int .u16 x)) := fun n W u h => by
    obtain ⟨ao, cap, e, _, _, _, h2⟩ := h.arg
    refine ⟨ao, cap, e, fun k x hx => ?_⟩
    obtain ⟨g, off, e2, hg, hc⟩ := h2 (by have := (List.getElem?_eq_some_iff.1 hx).1; omega)
    exact ⟨g, off, e2, hg, hc k x hx⟩
  have HSF : Hid (∀ (B : Nat) (W : World) u (k : Nat), k ≤ Z.length → SRow B W u k (pcs kind (Z.take k)) → ∃ ao cap, u = .slice ao k cap) := fun B W u k hkz h => by
    have e : (pcs kind (Z.take k)).length = k := by simp [pcs]; omega
    have h2 : SRow B W u (pcs kind (Z.take k)).length (pcs kind (Z.take k)) := by rw [e]; exact h
    obtain ⟨ao, cap, e2, _⟩ := h2.strs
    exact ⟨ao, cap, by rw [e2, e]⟩
  have HKE : Hid (∀ B W W' u k P, SRow B W u k P → Go.RowKit.Below W.heap.size W W' → SRow B W' u k P) := fun B W W' u k P h hB => by
    obtain ⟨h1, h2 | ⟨g, cap, cur, e, hg, hh, r⟩⟩ := h
    · exact ⟨h1, .inl h2⟩
    · exact ⟨h1, .inr ⟨g, cap, cur, e, hg, by rw [hB.block g (Array.getElem?_eq_some_iff.1 hh).1]; exact hh, r⟩⟩
  have HSEP : Hid ((kind = 3 → (⟨#[44]⟩ : ByteArray).data.toList = sepK kind) ∧ (kind ≠ 3 → (⟨#[]⟩ : ByteArray).data.toList = sepK kind)) := ⟨fun h => by rw [sepK, if_pos h], fun h => by rw [sepK, if_neg h]⟩
  clear hP hzb hk
  generalize showE kind Z = E at *
  generalize hTT : mk (showT kind Z) = TT at *
  have HTT := hide hTT
  clear hTT
  generalize hnn : Z.length = n at *
  have HN := hide hnn
  clear hnn
  have hnz : (n : Int) ≤ 1048576 := by omega
  go_enter Tryd.func14, Tryd.ntmps14
  go_wp2_with (first
    | (go_at_call 30; refine (unhide HKK _).mono ?_; rintro e w0 ⟨rfl, hw0⟩; obtain rfl := hw0.symm)
    | (go_at_call 18; refine (unhide HO).mono ?_; rintro e w1 ⟨z, rfl, hF, hB⟩; obtain ⟨ao, cap, rfl, hcell⟩ := unhide HFA _ _ _ hF; have HC := hide hcell; have HB1 := hide hB; clear hF hB hcell HO))
  go_loopg [6, 19] n (fun kk s6 s19 wr => ∃ k : Nat, s19 = .int .i64 k ∧ k + kk = n ∧ Hid (SRow w1.heap.size wr s6 k (pcs kind (Z.take k))) ∧ Hid (∀ x ∈ Z.take k, okF kind x = true) ∧ Hid (Go.RowKit.Below w1.heap.size w1 wr))
  case atStart => exact ⟨0, rfl, by omega, World.ownsRow_nil _ _ _ _, hide (fun x hx => by simp at hx), Go.RowKit.Below.refl _ _⟩
  case round =>
    obtain ⟨k, rfl, hk, HR, HOKS, HBL⟩ := hrel
    have HB : Hid (Go.RowKit.Below w.heap.size w wr) := (unhide HB1).trans ((unhide HBL).mono (unhide HB1).size)
    by_cases hlt : k < n
    · have hltz : (k : Int) < (n : Int) := by omega
      obtain ⟨x, hx⟩ : ∃ x, Z[k]? = some x := ⟨_, List.getElem?_eq_getElem (by rw [unhide HN]; exact hlt)⟩
      obtain ⟨g, off, rfl, hg, hc⟩ := unhide HC k x hx
      have hcw := ((unhide HBL).cell (p := ⟨g, off + k, none⟩) hg).trans hc
      have HWX := hide (unhide HWR k x wr hx (unhide HB))
      have HOX := hide (fun W => unhide HON k x W hx)
      have HPX := hide (unhide HPS k x hx)
      have HNX := hide (unhide HNO k x hx)
      have HTS : Hid (okF kind x = true → ∀ y ∈ Z.take (k + 1), okF kind y = true) := fun h y hy => by
        rw [take_snoc hx] at hy
        rcases List.mem_append.1 hy with hy | hy
        · exact unhide HOKS y hy
        · simp at hy; subst hy; exact h
      clear hx hc hg
      generalize mk (Shw.wr kind x) = p at *
      have HSP : Hid (∀ W u, W.ownsRow w1.heap.size 9 1 u (k + 1) ((pcs kind (Z.take k)).map Value.string ++ [.string p]) → SRow w1.heap.size W u (k + 1) (pcs kind (Z.take (k + 1)))) := fun W u h => by
        rw [unhide HPX]
        unfold SRow
        simpa using h
      go_wp2_with (first
        | (go_at_call 36; refine (unhide HWX).mono ?_; rintro e w2 ⟨rfl, hB2⟩; have HB2 := hide hB2; clear hB2 HWX)
        | (go_at_call 8; refine (unhide HOX _).mono ?_; rintro e w3 ⟨⟨gv, er, rfl, hcase⟩, hB3⟩; have HCASE := hide hcase; have HB3 := hide ((unhide HB2).trans (hB3.mono (unhide HB2).size)); have HR3 := hide (unhide HKE _ _ _ _ _ _ (unhide HR) (unhide HB3)); have HBL3 := hide ((unhide HBL).trans ((unhide HB3).mono (unhide HBL).size)); clear hB3 hcase HOX; obtain ⟨hok, rfl, rfl⟩ | ⟨hok, rfl | ⟨rfl, hgx⟩⟩ := unhide HCASE)
        | (at_builtin; refine wpList_append_own _ rfl _ _ 62 rfl w1.heap.size 9 i0 (.string ByteArray.empty) 1 16 Tryd.underlying62 hi hz0 hz1 hz2 rfl (by decide) _ _ _ rfl (World.ownsRow.alloc (unhide HR3) _) ⟨w3.heap.size, 0, none⟩ 1 1 [.string p] rfl rfl (cell_one_new _ _ _) (fun x hx => by simp at hx; subst hx; rfl) (by unfold maxLen; omega) (by omega) (by have := (unhide HBL3).size; simp; omega) ?_; intro v' w4 hown' hgrow _; have HO1 := hide (unhide HSP _ _ hown'); have HBL4 := hide (irow_push (unhide HR3) (unhide HBL3) hgrow); clear hown' hgrow))
      · go_roundg (n - (k + 1))
        case rel => exact ⟨k + 1, by go_num, by omega, HO1, hide (unhide HTS hok), HBL4⟩
        case measure => omega
      · have HX := hide (unhide H31 (unhide HNX hok))
        go_ret2
        rw [(unhide HX).1, (unhide HX).2]
        exact ⟨rfl, (unhide HB).trans ((unhide HB3).mono (unhide HB).size)⟩
      · have HX := hide (unhide H31 (unhide HNX hok))
        go_ret2
        rw [(unhide HX).1, (unhide HX).2]
        exact ⟨rfl, (unhide HB).trans ((unhide HB3).mono (unhide HB).size)⟩
    · obtain rfl : k = n := by omega
      have hltz : ¬ (k : Int) < (k : Int) := by omega
      obtain ⟨ao6, cap6, rfl⟩ := unhide HSF _ _ _ k (Nat.le_refl _) (unhide HR)
      have HALL : Hid (∀ x ∈ Z, okF kind x = true) := by
        have h := unhide HOKS
        rwa [unhide HTL] at h
      by_cases h64 : 64 < k
      · have h64z : (64 : Int) < (k : Int) := by omega
        have HX := hide (unhide H32 (unhide HALL) h64)
        go_wp2
        go_ret2
        rw [(unhide HX).1, (unhide HX).2]
        exact ⟨rfl, unhide HB⟩
      · have h64z : ¬ (64 : Int) < (k : Int) := by omega
        have HX := hide (unhide H0 (unhide HALL) h64)
        by_cases h3 : kind = 3
        · have HJX := hide (unhide HJ ⟨#[44]⟩ ((unhide HSEP).1 h3) _ _ _ h64 (unhide HR))
          have h3z : (kind == 3) = true := by rw [beq_iff_eq]; exact h3
          clear h3
          go_wp2_with (go_at_call 37; refine (unhide HJX).mono ?_; rintro e w5 ⟨rfl, hB5⟩; have HB5 := hide hB5; clear hB5)
          go_ret2
          rw [(unhide HX).1, ← unhide HTT, (unhide HX).2]
          exact ⟨rfl, (unhide HB).trans ((unhide HB5).mono (unhide HB).size)⟩
        · have HJX := hide (unhide HJ ⟨#[]⟩ ((unhide HSEP).2 h3) _ _ _ h64 (unhide HR))
          have h3z : (kind == 3) = false := by rw [beq_eq_false_iff_ne]; exact h3
          clear h3
          go_wp2_with (go_at_call 37; refine (unhide HJX).mono ?_; rintro e w5 ⟨rfl, hB5⟩; have HB5 := hide hB5; clear hB5)
          go_ret2
          rw [(unhide HX).1, ← unhide HTT, (unhide HX).2]
          exact ⟨rfl, (unhide HB).trans ((unhide HB5).mono (unhide HB).size)⟩
end So
end Go.Proofs.YtaaonaaciomijaaDoor
