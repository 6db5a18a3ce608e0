/- Plain mathematics: what Show writes of a set that Read answered, Read answers again: no walk. -/
import Derived.Test.YtaaonaaciomijaaDoorRShw
import Derived.Test.YtaaonaaciomijaaDoorReadA
namespace Go.Proofs.YtaaonaaciomijaaDoor
namespace So
open Cut Shw

theorem wr_val1 {p : List UInt8} (h : One.val 1 p ≠ 0) : Shw.wr 1 (One.val 1 p) = p := by
  match p with
  | [] => exact absurd rfl h
  | [c] =>
    have v : One.val 1 [c] = if One.sg c then (c.toNat : Int) else 0 := rfl
    rw [v] at h ⊢
    split at h
    · rename_i hs
      rw [if_pos hs]
      show [UInt8.ofNat ((c.toNat : Int).toNat % 256)] = [c]
      have hc : c.toNat < 256 := c.toNat_lt
      have e : (c.toNat : Int).toNat % 256 = c.toNat := by omega
      rw [e, UInt8.ofNat_toNat]
    · exact absurd rfl h
  | _ :: _ :: _ => exact absurd rfl h
theorem wr_val2 {p : List UInt8} (h : One.val 2 p ≠ 0) : Shw.wr 2 (One.val 2 p) = p := by
  match p with
  | [] => exact absurd rfl h
  | [_] => exact absurd rfl h
  | [c, d] =>
    have v : One.val 2 [c, d] = if One.sg c && One.sg d then 256 * (c.toNat : Int) + (d.toNat : Int) else 0 := rfl
    rw [v] at h ⊢
    split at h
    · rename_i hs
      rw [if_pos hs]
      have hc : c.toNat < 256 := c.toNat_lt
      have hd : d.toNat < 256 := d.toNat_lt
      show [UInt8.ofNat ((256 * (c.toNat : Int) + (d.toNat : Int)).toNat / 256), UInt8.ofNat ((256 * (c.toNat : Int) + (d.toNat : Int)).toNat % 256)] = [c, d]
      have e1 : (256 * (c.toNat : Int) + (d.toNat : Int)).toNat / 256 = c.toNat := by omega
      have e2 : (256 * (c.toNat : Int) + (d.toNat : Int)).toNat % 256 = d.toNat := by omega
      rw [e1, e2, UInt8.ofNat_toNat, UInt8.ofNat_toNat]
    · exact absurd rfl h
  | _ :: _ :: _ :: _ => exact absurd rfl h
/-- each flag that a piece writes is written again -/
theorem ok_val (kind : Int) (hk : One.isK kind = true) {p : List UInt8} (h : One.val kind p ≠ 0) : okF kind (One.val kind p) = true := by
  have hb := One.val_bounds kind p
  have h3 : kind = 1 ∨ kind = 2 ∨ kind = 3 := by unfold One.isK at hk; simp at hk; omega
  rcases h3 with rfl | rfl | rfl
  · unfold okF
    rw [wr_val1 h]
    simp [h]
  · unfold okF
    rw [wr_val2 h]
    simp [h]
  · rw [ok3 hb.1 hb.2]
    have e : One.val 3 (Shw.wr 3 (One.val 3 p)) = One.val 3 p := by
      show Num.numN (Lib.itoa _) 65535 = _
      exact Dec.numN_itoa _ 65535 hb.1 hb.2
    rw [e]
    simp [h]
theorem ok_read {kind x : Int} (h : okF kind x = true) : One.val kind (Shw.wr kind x) = x := by
  unfold okF at h
  simp at h
  exact h.2
theorem join_flat : ∀ (xs : List (List UInt8)), Lib.join xs [] = xs.flatten
  | [] => rfl
  | x :: r => by
    rw [Lib.join_cons]
    simp [Lib.joinTail]
theorem cuts_flat {w : Nat} (hw : 0 < w) : ∀ {xs : List (List UInt8)}, xs ≠ [] → (∀ x ∈ xs, x.length = w) → cuts w xs.flatten = xs
  | [], h, _ => absurd rfl h
  | [x], _, h => by
    have := h x (by simp)
    simp only [List.flatten_cons, List.flatten_nil, List.append_nil]
    exact cuts_short (by omega)
  | x :: y :: r, _, h => by
    have hx := h x (by simp)
    have hy := h y (by simp)
    have ih := cuts_flat hw (xs := y :: r) (by simp) (fun z hz => h z (by simp [hz]))
    rw [List.flatten_cons, cuts_long hw (by simp; omega), ← hx, List.take_left, List.drop_left, hx, ih]
theorem split_join : ∀ {xs : List (List UInt8)}, xs ≠ [] → (∀ x ∈ xs, 44 ∉ x) → splitC (Lib.join xs [44]) = xs
  | [], h, _ => absurd rfl h
  | [x], _, h => by
    rw [Lib.join_one]
    exact splitC_none (h x (by simp))
  | x :: y :: r, _, h => by
    have ih := split_join (xs := y :: r) (by simp) (fun z hz => h z (by simp [hz]))
    have e : Lib.join (x :: y :: r) [44] = x ++ 44 :: Lib.join (y :: r) [44] := by
      rw [Lib.join_cons, Lib.join_cons]
      simp [Lib.joinTail]
    rw [e, splitC_hit (h x (by simp)), ih]
theorem no_comma {x : Int} (h0 : 0 ≤ x) : 44 ∉ Shw.wr 3 x := by
  show 44 ∉ Lib.itoa x
  unfold Lib.itoa
  rw [if_neg (by omega)]
  intro h
  have := List.all_eq_true.1 (Dec.all_dec x.toNat) 44 h
  exact absurd this (by decide)
theorem pieces_text (kind : Int) (hk : One.isK kind = true) {Z : List Int} (hne : Z ≠ []) (hb : ∀ x ∈ Z, 0 ≤ x ∧ x ≤ 65535) : pieces kind (text kind Z) = Z.map (Shw.wr kind) := by
  have h3 : kind = 1 ∨ kind = 2 ∨ kind = 3 := by unfold One.isK at hk; simp at hk; omega
  have hm : ∀ k : Int, Z.map (Shw.wr k) ≠ [] := fun k => by simpa using hne
  rcases h3 with rfl | rfl | rfl
  · show cuts 1 (Lib.join (Z.map (Shw.wr 1)) []) = _
    rw [join_flat]
    exact cuts_flat (by omega) (hm 1) (fun x hx => by obtain ⟨y, _, rfl⟩ := List.mem_map.1 hx; rfl)
  · show cuts 2 (Lib.join (Z.map (Shw.wr 2)) []) = _
    rw [join_flat]
    exact cuts_flat (by omega) (hm 2) (fun x hx => by obtain ⟨y, _, rfl⟩ := List.mem_map.1 hx; rfl)
  · show splitC (Lib.join (Z.map (Shw.wr 3)) [44]) = _
    exact split_join (hm 3) (fun x hx => by obtain ⟨y, hy, rfl⟩ := List.mem_map.1 hx; exact no_comma (hb y hy).1)
theorem vals_text (kind : Int) (hk : One.isK kind = true) {Z : List Int} (hne : Z ≠ []) (hb : ∀ x ∈ Z, 0 ≤ x ∧ x ≤ 65535) (hok : ∀ x ∈ Z, okF kind x = true) : vals kind (text kind Z) = Z := by
  unfold vals
  rw [pieces_text kind hk hne hb, List.map_map]
  have : ∀ x ∈ Z, (One.val kind ∘ Shw.wr kind) x = id x := fun x hx => ok_read (hok x hx)
  rw [List.map_congr_left this]
  simp
theorem pieces_ne (kind : Int) (l : List UInt8) : pieces kind l ≠ [] := by
  have hc : ∀ w, cuts w l ≠ [] := fun w h => by
    unfold cuts at h
    cases hn : l.length with
    | zero => rw [hn] at h; cases h
    | succ n => rw [hn, cutL] at h; split at h <;> cases h
  unfold pieces
  split
  · exact hc 1
  · split
    · exact hc 2
    · cases l with
      | nil => simp [splitC]
      | cons c t =>
        unfold splitC
        split
        · simp
        · split <;> simp
theorem readE_zero {V : List Int} (h : readE V = 0) : 0 ∉ V ∧ V.length ≤ 64 := by
  unfold readE at h
  split at h
  · cases h
  · rename_i h1
    split at h
    · cases h
    · exact ⟨h1, by omega⟩
/-- all that FlagsBack wants of a text that is read -/
theorem back (kind : Int) (l : List UInt8) (h : rE kind l = 0) : ∃ Z : List Int, rS kind l = Z ∧ setOf Z = Z ∧ (∀ x ∈ Z, 0 ≤ x ∧ x ≤ 65535) ∧ Z.length ≤ 64 ∧ showE kind Z = 0 ∧ showT kind Z = text kind Z ∧ rE kind (text kind Z) = 0 ∧ rS kind (text kind Z) = Z := by
  have hk : One.isK kind = true := by
    cases hk : One.isK kind
    · unfold rE at h; rw [hk] at h; cases h
    · rfl
  have e1 : ∀ m, rE kind m = readE (vals kind m) := fun m => by unfold rE; rw [hk]; rfl
  have h0 := h
  rw [e1] at h0
  obtain ⟨hz, hl⟩ := readE_zero h0
  have hzl := (setOf_set (vals kind l)).len
  have hb := set_bounds (vals_bounds kind l)
  have hok : ∀ x ∈ setOf (vals kind l), okF kind x = true := fun x hx => by
    have hx2 := mem_setOf.1 hx
    obtain ⟨p, _, rfl⟩ := List.mem_map.1 hx2
    exact ok_val kind hk (fun e => hz (by rw [← e]; exact hx2))
  have hne : setOf (vals kind l) ≠ [] := fun e => by
    have hv : vals kind l ≠ [] := by
      unfold vals
      simpa using pieces_ne kind l
    cases hv2 : vals kind l with
    | nil => exact hv hv2
    | cons x t =>
      have : x ∈ setOf (vals kind l) := mem_setOf.2 (by rw [hv2]; simp)
      rw [e] at this
      cases this
  have hset : setOf (setOf (vals kind l)) = setOf (vals kind l) := setOf_congr fun _ => mem_setOf
  have hvt := vals_text kind hk hne hb hok
  have hsE : showE kind (setOf (vals kind l)) = 0 := by unfold showE; rw [if_pos hk, all_ok hok, if_pos rfl, if_neg (by omega)]
  have hrt : rE kind (text kind (setOf (vals kind l))) = 0 := by
    rw [e1, hvt, readE, if_neg (fun h => hz (mem_setOf.1 h)), if_neg (by omega)]
  refine ⟨setOf (vals kind l), by unfold rS; rw [if_pos h], hset, hb, by omega, hsE, by unfold showT; rw [if_pos hsE], hrt, ?_⟩
  unfold rS
  rw [if_pos hrt, hvt, hset]
end So
end Go.Proofs.YtaaonaaciomijaaDoor
