/- Contract: the law's helper gives at most three blanks and tabs; nothing in memory turns. -/
import Derived.Test.YtgmakjpicdgmgabDoorArgB
import Derived.Test.YtgmakjpicdgmgabDoorBlkM
import Derived.Test.YtgmakjpicdgmgabDoorSame
import Derived.Test.YtgmakjpicdgmgabDoorWake
namespace Go.Proofs.YtgmakjpicdgmgabDoor
open Go.RowKit
namespace BlkW
open FldW ArgB

def AllBlank (T : ByteArray) : Prop := ∀ c ∈ T.data.toList, Fld.blank c = true

set_option maxRecDepth 100000 in
set_option maxHeartbeats 1000000 in
theorem gap_any (v : Value) (G : List UInt8) (w : World) (i : Int) (hi0 : 0 ≤ i) (hi1 : i ≤ 281474976710656) (h : ArgOf (fun c : UInt8 => Value.int .u8 (c.toNat : Int)) w v G) :
    Calls Tryd.prog 21 #[v, .int .i64 i] w fun e w' => (∃ T : ByteArray, e = .returned (.string T) ∧ T.size ≤ 3 ∧ AllBlank T) ∧ w' = w := by
  obtain ⟨a0, c0, rfl, hc0, hl0, H0'⟩ := h
  have H0 := hide H0'
  clear H0'
  unfold maxLen at hl0
  generalize hz : G.length = z at *
  have HZ := hide hz
  clear hz
  obtain ⟨m, rfl⟩ := Int.eq_ofNat_of_zero_le hi0
  clear hi0
  go_enter Tryd.func21, Tryd.ntmps21
  go_wp2
  go_loop [5, 6] (fun s k => ∃ (q : Nat) (T : ByteArray), q ≤ 3 ∧ k = .int .i64 ((m + q : Nat) : Int) ∧ s = .string T ∧ Hid (T.size = q ∧ ∀ c ∈ T.data.toList, Fld.blank c = true)) (fun _ k => m + 3 - (intOf k).toNat)
  case atStart => exact ⟨0, ⟨#[]⟩, by omega, rfl, rfl, rfl, fun c hc => by simp at hc⟩
  case round =>
    obtain ⟨q, T, hq, rfl, rfl, HT⟩ := hrel
    by_cases hin : m + q < z ∧ q < 3
    · obtain ⟨hmz, hq3⟩ := hin
      obtain ⟨g0, o0, rfl, _, hcell⟩ := unhide H0 (by omega)
      obtain ⟨c, hc⟩ : ∃ c, G[m + q]? = some c := ⟨_, List.getElem?_eq_getElem (by rw [unhide HZ]; exact hmz)⟩
      have hck := hcell (m + q) c hc
      clear hcell hc
      have hT1 := HT.out.1
      have ha9 : ∀ Wq : World, (Op.stringOp .add T ⟨#[9]⟩).run Tryd.prog Wq = .ok (.string (T ++ ⟨#[9]⟩)) Wq := fun Wq => run_string_add_sum _ _ _ (by have : (ByteArray.mk #[9]).size = 1 := rfl; omega)
      have ha32 : ∀ Wq : World, (Op.stringOp .add T ⟨#[32]⟩).run Tryd.prog Wq = .ok (.string (T ++ ⟨#[32]⟩)) Wq := fun Wq => run_string_add_sum _ _ _ (by have : (ByteArray.mk #[32]).size = 1 := rfl; omega)
      have h9 : (T ++ ⟨#[9]⟩).size = q + 1 ∧ ∀ c ∈ (T ++ (⟨#[9]⟩ : ByteArray)).data.toList, Fld.blank c = true := by
        refine ⟨by rw [ByteArray.size_append, hT1]; rfl, fun c hc => ?_⟩
        simp at hc
        rcases hc with hc | rfl
        · exact HT.out.2 c (by simpa using hc)
        · rfl
      have h32 : (T ++ ⟨#[32]⟩).size = q + 1 ∧ ∀ c ∈ (T ++ (⟨#[32]⟩ : ByteArray)).data.toList, Fld.blank c = true := by
        refine ⟨by rw [ByteArray.size_append, hT1]; rfl, fun c hc => ?_⟩
        simp at hc
        rcases hc with hc | rfl
        · exact HT.out.2 c (by simpa using hc)
        · rfl
      have H9 := hide h9
      have H32 := hide h32
      clear h9 h32 hT1
      generalize T ++ (⟨#[9]⟩ : ByteArray) = T9 at *
      generalize T ++ (⟨#[32]⟩ : ByteArray) = T32 at *
      have hi2 : ((m + q : Nat) : Int) < (z : Int) := by omega
      have hi3 : ((m + q : Nat) : Int) < (m : Int) + 3 := by omega
      generalize hmq : m + q = n at *
      have HMQ := hide hmq
      clear hmq
      cases hb : ((c.toNat : Int) % 2 == 0) with
      | true =>
        go_wp2
        go_round
        case rel => exact ⟨q + 1, T9, by omega, by have := unhide HMQ; rw [← Nat.add_assoc, this]; go_num, rfl, unhide H9⟩
        case measure => have := unhide HMQ; simp [intOf]; omega
      | false =>
        go_wp2
        go_round
        case rel => exact ⟨q + 1, T32, by omega, by have := unhide HMQ; rw [← Nat.add_assoc, this]; go_num, rfl, unhide H32⟩
        case measure => have := unhide HMQ; simp [intOf]; omega
    · have hfin := HT.out
      have HF : Hid (T.size ≤ 3 ∧ ∀ c ∈ T.data.toList, Fld.blank c = true) := ⟨by omega, hfin.2⟩
      clear hfin HT
      by_cases hmz : m + q < z
      · have hi2 : ((m + q : Nat) : Int) < (z : Int) := by omega
        have hi3 : ¬ ((m + q : Nat) : Int) < (m : Int) + 3 := by omega
        generalize m + q = n at *
        go_wp2
        go_ret
        exact ⟨⟨T, rfl, (unhide HF).1, (unhide HF).2⟩, rfl⟩
      · have hi2 : ¬ ((m + q : Nat) : Int) < (z : Int) := by omega
        generalize m + q = n at *
        go_wp2
        go_ret
        exact ⟨⟨T, rfl, (unhide HF).1, (unhide HF).2⟩, rfl⟩

set_option maxRecDepth 100000 in
set_option maxHeartbeats 4000000 in
theorem walk (v0 v1 : Value) (L : List ByteArray) (G : List UInt8) (w : World) (h0 : ArgOf Value.string w v0 L) (h1 : ArgOf (fun c : UInt8 => Value.int .u8 (c.toNat : Int)) w v1 G) (hs : Blk.tot L ≤ 1048576) :
    Calls Tryd.prog 7 #[v0, v1] w fun e w' => e = .returned (.bool true) ∧ Below w.heap.size w w' := by
  obtain ⟨i9, hi9, hz90, hz91, hz92⟩ := info_parts info9
  have HG := hide h1
  have hLl := Blk.tot_len L
  have HTT := hide (Blk.tot_take L)
  have HTL := hide (Blk.tot_le L)
  obtain ⟨a0, c0, rfl, hc0, hl0, H0'⟩ := h0
  have H0 := hide H0'
  clear H0' h1
  unfold maxLen at hl0
  generalize hz : L.length = z at *
  have HZ := hide hz
  have HS := hide hs
  have hz20 : (z : Int) ≤ 1048576 := by omega
  clear hz hl0 hs hLl
  go_enter Tryd.func7, Tryd.ntmps7
  go_wp2_with fail
  refine (Wake.wakes_any _).mono ?_
  rintro e w1 ⟨rfl, hB1⟩
  go_wp2_with fail
  refine (gap_any _ G _ 0 (by omega) (by omega) ((unhide HG).below hB1)).mono ?_
  rintro e w2 ⟨⟨T0, rfl, hT0, hTb⟩, hw⟩
  obtain rfl := hw.symm
  have HT0 : Hid (T0.size ≤ 3 ∧ AllBlank T0) := ⟨hT0, hTb⟩
  clear hT0 hTb hw
  go_wp2
  go_loopw [5, 6, 17] (fun line want i wr => ∃ (k : Nat) (T : ByteArray) (X : List (List UInt8)), k ≤ z ∧ i = .int .i64 k ∧ line = .string T ∧ X.length ≤ k ∧ Hid (T.size ≤ 3 + 4 * Blk.tot (L.take k) ∧ Fld.st T.data.toList = (X, [])) ∧ wr.ownsRow w1.heap.size 9 1 want X.length (vals X) ∧ Below w1.heap.size w1 wr) (fun _ _ i _ => z - (intOf i).toNat)
  case atStart => exact ⟨0, T0, [], Nat.zero_le _, rfl, rfl, Nat.zero_le _, ⟨by have := (unhide HT0).1; omega, by have := Blk.st_blanks [] [] T0.data.toList rfl (unhide HT0).2; simpa using this⟩, World.ownsRow_nil _ _ _ _, Below.refl _ _⟩
  case round =>
    obtain ⟨k, T, X, hk, rfl, rfl, hX, HT, hO, hB⟩ := hrel
    have hBw : Below w.heap.size w wr := hB1.trans (hB.mono hB1.size)
    by_cases hlt : k < z
    · obtain ⟨f, hf⟩ : ∃ f, L[k]? = some f := ⟨_, List.getElem?_eq_getElem (by rw [unhide HZ]; exact hlt)⟩
      obtain ⟨g0, o0, rfl, hg0', hcell⟩ := unhide H0 (by omega)
      have hck : wr.cell? ⟨g0, o0 + k, none⟩ = some (.string f) := (hBw.cell (p := ⟨g0, o0 + k, none⟩) hg0').trans (hcell k f hf)
      have HTS := hide (unhide HTT k f hf)
      have HTB := hide (unhide HTL (k + 1))
      have hfs : (f.size : Int) ≤ 1048576 := by have := unhide HTS; have := unhide HTB; have := unhide HS; omega
      clear hcell hf
      go_wp2
      go_loop [9, 10] (fun p j => ∃ (q : Nat) (P : ByteArray), q ≤ f.size ∧ j = .int .i64 q ∧ p = .string P ∧ Hid (P.data.toList = Blk.np (f.data.toList.take q))) (fun _ j => f.size - (intOf j).toNat)
      case atStart => exact ⟨0, ⟨#[]⟩, Nat.zero_le _, rfl, rfl, rfl⟩
      case round =>
        obtain ⟨q, P, hq, rfl, rfl, HP⟩ := hrel
        have hPl : P.size ≤ q := by
          have h1 : P.size = P.data.toList.length := by simp
          rw [h1, HP.out]
          exact Nat.le_trans (Blk.np_le _) (List.length_take_le _ _)
        by_cases hqf : q < f.size
        · have HNS : Hid (Blk.np (f.data.toList.take (q + 1)) = Blk.np (f.data.toList.take q) ++ (if Fld.blank f[q] then [] else [f[q]])) := by
            show Blk.np (f.data.toList.take (q + 1)) = Blk.np (f.data.toList.take q) ++ (if Fld.blank f[q] then [] else [f[q]])
            rw [Fld.take_snoc f q hqf, Blk.np_snoc]
          cases hb : Fld.blank f[q] with
          | true =>
            have HN2 : Hid (P.data.toList = Blk.np (f.data.toList.take (q + 1))) := by
              show P.data.toList = Blk.np (f.data.toList.take (q + 1))
              rw [unhide HNS, hb, HP.out]
              simp
            rcases blank_cases _ hb with h32 | ⟨h32, h9⟩
            all_goals
              clear hb HNS
              go_wp2
              go_round
              case rel => exact ⟨q + 1, P, by omega, by go_num, rfl, HN2⟩
              case measure => simp [intOf]; omega
          | false =>
            obtain ⟨h32, h9⟩ := plain_of _ hb
            have hes : (f.extract q (q + 1)).size ≤ f.size := by rw [ByteArray.size_extract]; omega
            have hadd : ∀ Wq : World, (Op.stringOp .add P (f.extract q (q + 1))).run Tryd.prog Wq = .ok (.string (P ++ f.extract q (q + 1))) Wq := fun Wq => run_string_add_sum _ _ _ (by omega)
            clear hes
            have HN2 : Hid ((P ++ f.extract q (q + 1)).data.toList = Blk.np (f.data.toList.take (q + 1))) := by
              show (P ++ f.extract q (q + 1)).data.toList = Blk.np (f.data.toList.take (q + 1))
              rw [unhide HNS, hb, ← HP.out]
              have e : (f.extract q (q + 1)).data.toList = [f[q]] := by
                rw [Lib.extract_data, show q + 1 - q = 1 from by omega]
                have hl : q < f.data.toList.length := by simpa using hqf
                rw [List.drop_eq_getElem_cons hl]
                rfl
              have e2 : (P ++ f.extract q (q + 1)).data.toList = P.data.toList ++ (f.extract q (q + 1)).data.toList := by simp
              rw [e2, e]
              simp
            clear hb HNS
            generalize P ++ f.extract q (q + 1) = P2 at *
            go_wp2
            go_round
            case rel => exact ⟨q + 1, P2, by omega, by go_num, rfl, HN2⟩
            case measure => simp [intOf]; omega
        · have HPF : Hid (P.data.toList = Blk.np f.data.toList) := by
            show P.data.toList = Blk.np f.data.toList
            rw [HP.out, Fld.full f q (by omega)]
          have hnq : ¬ ((q : Int) < (f.size : Int)) := by omega
          have hPf : (P.size : Int) ≤ f.size := by omega
          have HTZ : Hid (T.size ≤ 3 + 4 * Blk.tot (L.take k)) := HT.out.1
          have HTE : Hid (4 * Blk.tot (L.take k) + 4 * (f.size + 1) = 4 * Blk.tot (L.take (k + 1)) ∧ Blk.tot (L.take (k + 1)) ≤ 1048576) := by
            have h1 := unhide HTS
            have h2 := unhide HTB
            have h3 := unhide HS
            exact ⟨by omega, by omega⟩
          cases hPe : P.toList.isEmpty with
          | true =>
            clear HPF HP hPl
            go_wp2
            go_roundw
            case rel => exact ⟨k + 1, T, X, by omega, by go_num, rfl, by omega, ⟨by have := (unhide HTE).1; have := unhide HTZ; omega, HT.out.2⟩, hO, hB⟩
            case measure => simp [intOf]; omega
          | false =>
            have hP0 : P.data.toList ≠ [] := by
              rw [Lib.toList_data] at hPe
              intro e
              rw [e] at hPe
              cases hPe
            have hPp : ∀ c ∈ P.data.toList, Fld.blank c = false := by rw [unhide HPF]; exact Blk.np_plain _
            have hs32 : (P ++ (⟨#[32]⟩ : ByteArray)).size = P.size + 1 := by rw [ByteArray.size_append]; rfl
            have hTn : T.size ≤ 4194320 := by have := unhide HTZ; have := unhide HTE; omega
            have ha1 : ∀ Wq : World, (Op.stringOp .add P ⟨#[32]⟩).run Tryd.prog Wq = .ok (.string (P ++ ⟨#[32]⟩)) Wq := fun Wq => run_string_add_sum _ _ _ (by have : (ByteArray.mk #[32]).size = 1 := rfl; omega)
            have HA2 : Hid (∀ Y : ByteArray, Y.size ≤ 3 → ∀ Wq : World, (Op.stringOp .add (P ++ ⟨#[32]⟩) Y).run Tryd.prog Wq = .ok (.string (P ++ ⟨#[32]⟩ ++ Y)) Wq) := fun Y hY Wq => run_string_add_sum _ _ _ (by omega)
            have HA3 : Hid (∀ Y : ByteArray, Y.size ≤ 3 → ∀ Wq : World, (Op.stringOp .add T (P ++ ⟨#[32]⟩ ++ Y)).run Tryd.prog Wq = .ok (.string (T ++ (P ++ ⟨#[32]⟩ ++ Y))) Wq) := fun Y hY Wq => run_string_add_sum _ _ _ (by rw [ByteArray.size_append]; omega)
            have HFI : Hid (∀ Y : ByteArray, Y.size ≤ 3 → AllBlank Y → (T ++ (P ++ ⟨#[32]⟩ ++ Y)).size ≤ 3 + 4 * Blk.tot (L.take (k + 1)) ∧ Fld.st (T ++ (P ++ ⟨#[32]⟩ ++ Y)).data.toList = (X ++ [P.data.toList], [])) := by
              intro Y hY hYb
              refine ⟨?_, ?_⟩
              · rw [ByteArray.size_append, ByteArray.size_append, hs32]
                have := (unhide HTE).1
                have := unhide HTZ
                omega
              · have e : (T ++ (P ++ ⟨#[32]⟩ ++ Y)).data.toList = T.data.toList ++ (P.data.toList ++ [32] ++ Y.data.toList) := by simp
                rw [e]
                exact Blk.st_field X _ _ _ HT.out.2 hPp hP0 hYb
            have HPS : Hid (Fld.str P.data.toList = P) := by show Fld.str P.data.toList = P; simp [Fld.str]
            clear hs32 hTn hP0 hPp HPF HP hPl
            go_wp2_with (first | (at_builtin; refine wpList_append_own _ rfl _ _ 38 rfl w1.heap.size 9 i9 (.string ByteArray.empty) 1 16 Tryd.underlying38 hi9 hz90 hz91 hz92 rfl (by decide) _ _ _ rfl (hO.alloc _) ⟨wr.heap.size, 0, none⟩ 1 1 [.string P] rfl rfl (cell_one_new _ _ _) (fun x hx => by simp at hx; subst hx; rfl) (by unfold maxLen; omega) (by omega) (by have := hB.size; simp; omega) ?_; intro v' w3 hown' hgrow hnil; clear hnil; have hB3 := below_push hO hB hgrow; have hG3 := (unhide HG).below (hB1.trans (hB3.mono hB1.size))) | (go_at_call 21; refine (gap_any _ G _ (k : Int) (by omega) (by omega) hG3).mono ?_; rintro e w4 ⟨⟨Y, rfl, hYs, hYb⟩, hw⟩; obtain rfl := hw.symm; have ha2 := unhide HA2 Y hYs; have ha3 := unhide HA3 Y hYs; have HFY := hide (unhide HFI Y hYs hYb); clear hYs hYb; generalize P ++ ⟨#[32]⟩ ++ Y = PY at *; generalize T ++ PY = TPY at *))
            have HO1 : Hid (w3.ownsRow w1.heap.size 9 1 v' (X ++ [P.data.toList]).length (vals (X ++ [P.data.toList]))) := by
              show w3.ownsRow w1.heap.size 9 1 v' (X ++ [P.data.toList]).length (vals (X ++ [P.data.toList]))
              rw [vals_snoc, List.length_append, unhide HPS]
              exact hown'
            clear hown' hgrow
            go_roundw
            case rel => exact ⟨k + 1, TPY, X ++ [P.data.toList], by omega, by go_num, rfl, by rw [List.length_append, List.length_singleton]; omega, unhide HFY, unhide HO1, hB3⟩
            case measure => simp [intOf]; omega
    · have hnl : ¬ ((k : Int) < (z : Int)) := by omega
      have hTn : T.size * 16 ≤ 140737488355328 := by have := HT.out.1; have := unhide HTL k; have := unhide HS; omega
      have HFD := hide (fun wq => fields_any T wq hTn)
      have HFX : Hid (Fld.fieldsOf T.data.toList = X) := Blk.fields_of X _ HT.out.2
      clear hTn
      go_wp2_with fail
      refine (unhide HFD _).mono ?_
      rintro e W4 ⟨v4, rfl, hO4, hB4⟩
      rw [unhide HFX] at hO4
      go_wp2_with fail
      refine (Same.same_true _ _ _ _ (Same.isStrs_of_owns hO4) (Same.isStrs_of_owns (Same.owns_below hO hB4))).mono ?_
      rintro e W5 ⟨rfl, nq, rfl⟩
      go_wp2
      go_ret
      exact ⟨rfl, below_drewN (hBw.trans (hB4.mono hBw.size)) nq⟩
end BlkW
end Go.Proofs.YtgmakjpicdgmgabDoor
