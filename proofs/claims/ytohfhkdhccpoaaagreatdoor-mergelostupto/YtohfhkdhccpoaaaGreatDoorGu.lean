/- Layer 6: Frame, the document's. -/
import Derived.Test.YtohfhkdhccpoaaaGreatDoorGf
import Derived.Test.YtohfhkdhccpoaaaGreatDoorGt
import Derived.Test.YtohfhkdhccpoaaaGreatDoorGi
namespace Go.Proofs.YtohfhkdhccpoaaaGreatDoor
open Go.RowKit
namespace Um

theorem own_made (w : World) : Own w.heap.size (w.alloc (.cells #[] 5)) (.slice (some ⟨w.heap.size, 0, none⟩) 0 0) [] := World.ownsRow_made w #[] 0 (Nat.le_refl _) (by simp) rfl
theorem take_get {t : ByteArray} {i : Nat} (h : i < t.size) : (lst t).take (i + 1) = (lst t).take i ++ [t[i]] := take_snoc (lst_get h)
set_option maxRecDepth 100000 in
set_option maxHeartbeats 2000000 in
theorem ref_frame (v0 : Value) (L : List ByteArray) (w : World) (hT : Txs w v0 L) (hN : L.length ≤ 1073741824) (A : ByteArray) (Ev : Int) (HA : Hid (frA L = A)) (HE : Hid (frE L = Ev)) :
    Calls Tryz.prog 43 #[v0] w fun e w' => e = .returned (.tuple #[.string A, .int .i64 Ev]) ∧ Below w.heap.size w w' := by
  obtain ⟨i0, hi0, hz0, hz1, hz2⟩ := info_parts infoB
  obtain ⟨a0, c0, rfl, hc0, -, H0⟩ := hT
  have HC := hide H0
  clear H0
  obtain ⟨n, hn⟩ : ∃ n, L.length = n := ⟨_, rfl⟩
  rw [hn] at hN hc0 HC ⊢
  have HN := hide hn
  clear hn
  have HOM := hide (own_made w)
  have HB0 : Hid (Below w.heap.size w (w.alloc (.cells #[] 5))) := (Below.refl _ w).alloc (Nat.le_refl _) _
  go_enter Tryz.func43, Tryz.ntmps43
  go_wp2
  generalize w.alloc (.cells #[] 5) = w0 at *
  go_loopw [5] (fun s5 wr => ∃ k : Nat, s5 = .int .i64 (k : Int) ∧ k ≤ n ∧ Hid (∀ (j : Nat) x, j < k → L[j]? = some x → x.size ≤ 255) ∧ wr = w0) (fun k _ => n - (intOf k).toNat)
  case atStart => exact ⟨0, rfl, by omega, fun _ _ h => by omega, rfl⟩
  case round =>
    obtain ⟨k, rfl, hk, HF, hwr⟩ := hrel
    subst hwr
    by_cases hlt : k < n
    · have hltz : (k : Int) < (n : Int) := by omega
      have hltN : k < L.length := by rw [unhide HN]; exact hlt
      obtain ⟨x, hx⟩ : ∃ x, L[k]? = some x := ⟨_, List.getElem?_eq_getElem hltN⟩
      obtain ⟨g, off, ea, hg, hc⟩ := unhide HC (by omega)
      subst ea
      have hcx : wr.cell? ⟨g, off + k, none⟩ = some (.string x) := ((unhide HB0).cell (p := ⟨g, off + k, none⟩) hg).trans (hc k x hx)
      have HX := hide hx
      clear hc hx hltN
      by_cases h255 : x.size ≤ 255
      · have hxz : ¬ 255 < (x.size : Int) := by omega
        go_wp2
        go_roundw
        case rel =>
          refine ⟨k + 1, by go_num, by omega, ?_, (by first | rfl | trivial)⟩
          intro j z hj hz
          by_cases hjk : j < k
          · exact unhide HF j z hjk hz
          · have : j = k := by omega
            subst this
            have := (unhide HX).symm.trans hz
            injection this with this
            rw [← this]
            exact h255
        case measure => simp [intOf]; omega
      · have hxz : 255 < (x.size : Int) := by omega
        go_wp2
        go_ret2
        have hf := fit_no (unhide HX) h255
        have e1 := unhide HA
        have e2 := unhide HE
        unfold frA at e1
        unfold frE at e2
        rw [hf] at e1 e2
        simp at e1 e2
        subst e1 e2
        exact ⟨rfl, unhide HB0⟩
    · have hltz : ¬ (k : Int) < (n : Int) := by omega
      have hkn : k = n := by omega
      subst hkn
      have HFI : Hid (fit (rl L) = true) := fit_yes fun j x hx => unhide HF j x (by rw [← unhide HN]; exact (List.getElem?_eq_some_iff.1 hx).1) hx
      obtain ⟨wo, rfl⟩ : ∃ x : World, x = wr := ⟨_, rfl⟩
      go_wp2
      go_loopw [4, 6] (fun s4 s6 wr => ∃ (j : Nat) (u : Value), u = s4 ∧ s6 = .int .i64 (j : Int) ∧ j ≤ k ∧ Hid (Own w.heap.size wr u (fk L j)) ∧ Hid (Below w.heap.size w wr)) (fun _ j _ => k - (intOf j).toNat)
      case atStart => exact ⟨0, _, rfl, rfl, by omega, unhide HOM, unhide HB0⟩
      case round =>
        obtain ⟨j, u, rfl, rfl, hj, HO, HBr⟩ := hrel
        by_cases hjk : j < k
        · have hjz : (j : Int) < (k : Int) := by omega
          have hltN : j < L.length := by rw [unhide HN]; exact hjk
          obtain ⟨x, hx⟩ : ∃ x, L[j]? = some x := ⟨_, List.getElem?_eq_getElem hltN⟩
          obtain ⟨g, off, ea, hg, hc⟩ := unhide HC (by omega)
          subst ea
          have HCX : Hid (∀ W, Below w.heap.size w W → W.cell? ⟨g, off + j, none⟩ = some (.string x)) := fun W hW => (hW.cell (p := ⟨g, off + j, none⟩) hg).trans (hc j x hx)
          have hcx := unhide HCX wr (unhide HBr)
          have h255 : x.size ≤ 255 := unhide HF j x hjk hx
          have HLE := hide (fk_len (L := L) j (by omega) (fun i y hi hy => unhide HF i y (by omega) hy))
          have HX := hide hx
          clear hc hx hltN
          have HU := hide (ref_uint x.size (u64_size h255) wr)
          have HUL := hide (uL_len 1 x.size (by omega))
          obtain ⟨U, hU⟩ : ∃ U, U = str (uL x.size) := ⟨_, rfl⟩
          have hUs : U.size ≤ 2 := by rw [hU, str_size]; exact unhide HUL
          have HUE : Hid (lst U = uL x.size) := by show _ = _; rw [hU]; exact str_list _
          rw [← hU] at HU
          clear hU HUL
          have hfl : (fk L j).length ≤ 257 * j := unhide HLE
          go_wp2_with (go_at_call 70; refine (unhide HU).mono ?_; rintro e w1 ⟨rfl, hB1⟩; have HO1 := hide ((unhide HO).below hB1); have HB1 := hide ((unhide HBr).trans (hB1.mono (unhide HBr).size)); clear hB1)
          clear hcx
          obtain ⟨wq, rfl⟩ : ∃ x : World, x = wr := ⟨_, rfl⟩
          go_loopw [4, 8] (fun s4 s8 wr => ∃ (i : Nat) (u : Value), u = s4 ∧ s8 = .int .i64 (i : Int) ∧ i ≤ U.size ∧ Hid (Own w.heap.size wr u (fk L j ++ (lst U).take i)) ∧ Hid (Below w.heap.size w wr)) (fun _ i _ => U.size - (intOf i).toNat)
          case atStart => exact ⟨0, _, rfl, rfl, by omega, by rw [List.take_zero, List.append_nil]; exact unhide HO1, unhide HB1⟩
          case round =>
            obtain ⟨i, u1, rfl, rfl, hi, HOi, HBi⟩ := hrel
            by_cases hiU : i < U.size
            · have hiz : (i : Int) < (U.size : Int) := by omega
              have HTK := hide (take_get hiU)
              obtain ⟨b, hb⟩ : ∃ b, U[i] = b := ⟨_, rfl⟩
              rw [hb] at HTK
              have hlen : (fk L j ++ (lst U).take i).length = (fk L j).length + i := by rw [List.length_append, List.length_take, lst_len]; omega
              go_wp2_with (at_builtin; refine wpList_append_own _ rfl _ _ 77 rfl w.heap.size 5 i0 (.int .u8 0) 1 1 Tryz.underlying77 hi0 hz0 hz1 hz2 rfl (by decide) _ _ _ rfl ((unhide HOi).below ((Below.refl _ _).alloc (Nat.le_refl _) _)) ⟨wr.heap.size, 0, none⟩ 1 1 [.int .u8 (b.toNat : Int)] rfl rfl (new_cells _ #[.int .u8 (b.toNat : Int)] _) (by simp [Value.oneCell']) (by unfold maxLen; rw [hlen]; omega) (by rw [hlen]; omega) (by have := (unhide HBi).size; simp; omega) ?_; intro v' w2 hown' hgrow hnil; clear hnil; have HO2 := hide (own_push rfl hown'); have HB2 := hide (push1 (unhide HOi) (unhide HBi) (Nat.le_refl _) hgrow); clear hown' hgrow)
              go_roundw
              case rel => exact ⟨i + 1, v', rfl, by go_num, by omega, (by rw [unhide HTK, ← List.append_assoc]; exact unhide HO2), HB2⟩
              case measure => simp [intOf]; omega
            · have hiz : ¬ (i : Int) < (U.size : Int) := by omega
              have HOU : Hid (Own w.heap.size wr u1 (fk L j ++ lst U)) := by
                have := unhide HOi
                rw [List.take_of_length_le (by rw [lst_len]; omega)] at this
                exact this
              have hcx := unhide HCX wr (unhide HBi)
              go_wp2
              clear hcx
              obtain ⟨wp, rfl⟩ : ∃ x : World, x = wr := ⟨_, rfl⟩
              go_loopw [4, 9] (fun s4 s9 wr => ∃ (i : Nat) (u : Value), u = s4 ∧ s9 = .int .i64 (i : Int) ∧ i ≤ x.size ∧ Hid (Own w.heap.size wr u ((fk L j ++ lst U) ++ (lst x).take i)) ∧ Hid (Below w.heap.size w wr)) (fun _ i _ => x.size - (intOf i).toNat)
              case atStart => exact ⟨0, _, rfl, rfl, by omega, by rw [List.take_zero, List.append_nil]; exact unhide HOU, unhide HBi⟩
              case round =>
                obtain ⟨y, u2, rfl, rfl, hy, HOy, HBy⟩ := hrel
                have hcx := unhide HCX wr (unhide HBy)
                by_cases hyx : y < x.size
                · have hyz : (y : Int) < (x.size : Int) := by omega
                  have HTK := hide (take_get hyx)
                  obtain ⟨b, hb⟩ : ∃ b, x[y] = b := ⟨_, rfl⟩
                  rw [hb] at HTK
                  have hlen : ((fk L j ++ lst U) ++ (lst x).take y).length = (fk L j).length + U.size + y := by rw [List.length_append, List.length_append, List.length_take, lst_len, lst_len]; omega
                  go_wp2_with (at_builtin; refine wpList_append_own _ rfl _ _ 77 rfl w.heap.size 5 i0 (.int .u8 0) 1 1 Tryz.underlying77 hi0 hz0 hz1 hz2 rfl (by decide) _ _ _ rfl ((unhide HOy).below ((Below.refl _ _).alloc (Nat.le_refl _) _)) ⟨wr.heap.size, 0, none⟩ 1 1 [.int .u8 (b.toNat : Int)] rfl rfl (new_cells _ #[.int .u8 (b.toNat : Int)] _) (by simp [Value.oneCell']) (by unfold maxLen; rw [hlen]; omega) (by rw [hlen]; omega) (by have := (unhide HBy).size; simp; omega) ?_; intro v' w2 hown' hgrow hnil; clear hnil; have HO2 := hide (own_push rfl hown'); have HB2 := hide (push1 (unhide HOy) (unhide HBy) (Nat.le_refl _) hgrow); clear hown' hgrow)
                  go_roundw
                  case rel => exact ⟨y + 1, v', rfl, by go_num, by omega, (by rw [unhide HTK, ← List.append_assoc]; exact unhide HO2), HB2⟩
                  case measure => simp [intOf]; omega
                · have hyz : ¬ (y : Int) < (x.size : Int) := by omega
                  have HOX : Hid (Own w.heap.size wr u2 (fk L (j + 1))) := by
                    have := unhide HOy
                    rw [List.take_of_length_le (by rw [lst_len]; omega), List.append_assoc, unhide HUE, ← fk_succ (unhide HX)] at this
                    exact this
                  go_wp2
                  go_roundw
                  case rel => exact ⟨j + 1, u2, rfl, by go_num, by omega, HOX, HBy⟩
                  case measure => simp [intOf]; omega
        · have hjz : ¬ (j : Int) < (k : Int) := by omega
          have hjk2 : j = k := by omega
          subst hjk2
          have eA := fk_all (L := L) (k := j) (by rw [unhide HN]; exact Nat.le_refl _)
          rw [eA] at HO
          have hcv := conv_own (unhide HO)
          obtain ⟨a2, c2, rfl⟩ := own_slice (unhide HO)
          have e1 := unhide HA
          have e2 := unhide HE
          unfold frA at e1
          unfold frE at e2
          rw [unhide HFI] at e1 e2
          simp at e1 e2
          subst e1 e2
          go_wp2
          go_ret2
          exact ⟨rfl, unhide HBr⟩
end Um
end Go.Proofs.YtohfhkdhccpoaaaGreatDoor
/- Layer 6: the document's writer: Open, Put, Close. -/
namespace Go.Proofs.YtohfhkdhccpoaaaGreatDoor
open Go.RowKit
namespace Rs
structure Doc where
  run : Nat
  blk : Nat
  dead : Nat
  held : ByteArray
def docC (d : Doc) : Array Value := #[.int .i64 d.run, .int .i64 d.blk, .int .i64 d.dead, .string d.held]
def VIn (w : World) (vb : Nat) (d : Doc) : Prop := w.heap[vb]? = some (.cells (docC d) 182 (0, 0))
theorem vcells {w : World} {vb : Nat} {d : Doc} (h : VIn w vb d) : w.cell? ⟨vb, 0, none⟩ = some (.int .i64 d.run) ∧ w.cell? ⟨vb, 1, none⟩ = some (.int .i64 d.blk) ∧ w.cell? ⟨vb, 2, none⟩ = some (.int .i64 d.dead) ∧ w.cell? ⟨vb, 3, none⟩ = some (.string d.held) ∧ (∀ k, w.frozen? ⟨vb, k, none⟩ = false) ∧ vb < w.heap.size := by
  unfold VIn at h
  refine ⟨?_, ?_, ?_, ?_, fun k => ?_, (Array.getElem?_eq_some_iff.1 h).1⟩ <;> simp [World.cell?, World.frozen?, h, docC]
theorem VIn.below {w W : World} {vb : Nat} {d : Doc} (h : VIn w vb d) (hb : Below w.heap.size w W) : VIn W vb d := (hb.block vb (Array.getElem?_eq_some_iff.1 h).1).trans h
/-- the document's store and a writer of it -/
structure DocW (w wr : World) (F : Nat → Prop) (sb vb : Nat) (m : Sto) (d : Doc) : Prop where
  sto : ∃ F' rv sl, DIn wr sb m F' rv sl ∧ (∀ b, F' b → Up F w wr b) ∧ ¬ F' vb
  wri : VIn wr vb d
  chg : Chg (fun b => F b ∨ b = vb) w wr
set_option maxRecDepth 100000 in
set_option maxHeartbeats 1000000 in
theorem dopen_go {w : World} {sb b n : Nat} {m m2 : Sto} {F : Nat → Prop} {rv : Value} {sl : Nat → Value} (h : DIn w sb m F rv sl) (h1 : 1 ≤ b) (h2 : b ≤ 4096) (hc : crt m = (((n : Int), 0), m2)) :
    Calls Tryz.prog 85 #[.pointer (some ⟨sb, 0, none⟩), .int .i64 b] w fun e w' => ∃ vb, e = .returned (.tuple #[.pointer (some ⟨vb, 0, none⟩), .int .i64 0]) ∧ VIn w' vb ⟨n, b, 0, ByteArray.empty⟩ ∧ w.heap.size ≤ vb ∧ (∃ F' rv sl, DIn w' sb m2 F' rv sl ∧ (∀ b, F' b → Up F w w' b) ∧ ¬ F' vb) ∧ Chg F w w' := by
  have HCR := hide (create_doc h)
  rw [hc] at HCR
  dsimp only at HCR
  have q1 : ¬ (b : Int) < 1 := by omega
  have q2 : ¬ 4096 < (b : Int) := by omega
  clear h hc
  go_enter Tryz.func85, Tryz.ntmps85
  go_wp2_with (go_at_call 44; refine (unhide HCR).mono ?_; rintro e w2 ⟨rfl, hd2, hc2⟩; have HD2 := hide hd2; have HC2 := hide hc2; clear hd2 hc2)
  go_ret2
  refine ⟨_, rfl, (MapKept.heap_alloc w2 _).1, (unhide HC2).size, ?_, (unhide HC2).alloc _⟩
  obtain ⟨rv', sl', hd⟩ := unhide HD2
  refine ⟨Up F w w2, rv', sl', hd.below ((Below.refl _ _).alloc (Nat.le_refl _) _), fun b hb => hb.imp id fun x => ⟨x.1, by simp; omega⟩, fun hb => ?_⟩
  have := hd.lt _ hb
  omega
set_option maxRecDepth 100000 in
set_option maxHeartbeats 1000000 in
theorem dopen_fail {w : World} {sb b c : Nat} {m m2 : Sto} {F : Nat → Prop} {rv : Value} {sl : Nat → Value} (h : DIn w sb m F rv sl) (h1 : 1 ≤ b) (h2 : b ≤ 4096) (hc : crt m = ((0, c), m2)) (hc0 : c ≠ 0) :
    Calls Tryz.prog 85 #[.pointer (some ⟨sb, 0, none⟩), .int .i64 b] w fun e w' => e = .returned (.tuple #[.pointer none, .int .i64 c]) ∧ DRes F w sb m2 w' := by
  have HCR := hide (create_doc h)
  rw [hc] at HCR
  dsimp only at HCR
  have q1 : ¬ (b : Int) < 1 := by omega
  have q2 : ¬ 4096 < (b : Int) := by omega
  have q3 : ((c : Int) == 0) = false := by simp; omega
  clear h hc
  go_enter Tryz.func85, Tryz.ntmps85
  go_wp2_with (go_at_call 44; refine (unhide HCR).mono ?_; rintro e w2 ⟨rfl, hd2, hc2⟩; have HD2 := hide hd2; have HC2 := hide hc2; clear hd2 hc2)
  go_ret2
  exact ⟨rfl, unhide HD2, unhide HC2⟩
set_option maxRecDepth 100000 in
theorem dput_dead {w : World} {vb : Nat} {d : Doc} {s v : Value} (h : VIn w vb d) (hd : d.dead ≠ 0) :
    Calls Tryz.prog 86 #[s, .pointer (some ⟨vb, 0, none⟩), v] w fun e w' => e = .returned (.int .i64 d.dead) ∧ w' = w := by
  obtain ⟨c0, c1, c2, c3, cf, hv⟩ := vcells h
  have q3 : ((d.dead : Int) == 0) = false := by simp; omega
  clear h
  go_enter Tryz.func86, Tryz.ntmps86
  go_wp2
  go_ret
  exact ⟨rfl, rfl⟩
set_option maxRecDepth 100000 in
theorem dclose_dead {w : World} {vb : Nat} {d : Doc} {s : Value} (h : VIn w vb d) (hd : d.dead ≠ 0) :
    Calls Tryz.prog 88 #[s, .pointer (some ⟨vb, 0, none⟩)] w fun e w' => e = .returned (.tuple #[.int .i64 0, .int .i64 d.dead]) ∧ Below w.heap.size w w' := by
  obtain ⟨c0, c1, c2, c3, cf, hv⟩ := vcells h
  have q3 : ((d.dead : Int) == 0) = false := by simp; omega
  clear h
  go_enter Tryz.func88, Tryz.ntmps88
  go_wp2
  go_quiet (fail)
  go_wp2
  go_ret2
  exact ⟨rfl, rfl, rfl, rfl, Nat.le_refl _, fun _ _ => rfl⟩
set_option maxRecDepth 100000 in
set_option maxHeartbeats 1000000 in
theorem dput_unfit {w : World} {vb : Nat} {d : Doc} {s v : Value} {L : List ByteArray} (h : VIn w vb d) (hd : d.dead = 0) (hT : Um.Txs w v L) (hn : L.length ≤ 1048576) (hfit : Um.fit (Um.rl L) = false) :
    Calls Tryz.prog 86 #[s, .pointer (some ⟨vb, 0, none⟩), v] w fun e w' => e = .returned (.int .i64 10) ∧ Below w.heap.size w w' := by
  have HFR := hide (Um.ref_frame v L w hT (by omega) ByteArray.empty 62 (by show Um.frA L = _; unfold Um.frA; rw [if_neg (by simp [hfit])]) (by show Um.frE L = 62; unfold Um.frE; rw [if_neg (by simp [hfit])]))
  obtain ⟨c0, c1, c2, c3, cf, hv⟩ := vcells h
  rw [hd] at c2
  clear h hT hfit hd
  go_enter Tryz.func86, Tryz.ntmps86
  go_wp2_with (go_at_call 43; refine (unhide HFR).mono ?_; rintro e w3 ⟨rfl, hb3⟩; have HB3 := hide hb3; clear hb3)
  go_ret
  exact ⟨rfl, unhide HB3⟩
end Rs
end Go.Proofs.YtohfhkdhccpoaaaGreatDoor
/- Layer 6: the document's writer: Put where it goes well, and where the store refuses. -/
namespace Go.Proofs.YtohfhkdhccpoaaaGreatDoor
open Go.RowKit
namespace Rs
def putDoc (d : Doc) (c : Nat) (rest : List UInt8) : Doc := if c = 0 then { d with held := Um.str rest } else { d with dead := c }
theorem doc_part {w W : World} {sb : Nat} {F F' : Nat → Prop} {m2 : Sto} {vb : Nat} (hsub : ∀ b, F' b → Up F w W b) (hnv : ¬ F' vb) (hv : vb < W.heap.size) {w' : World} (hc : Chg F w W) (hr : DRes F' W sb m2 w') : (∃ F2 rv sl, DIn w' sb m2 F2 rv sl ∧ (∀ b, F2 b → Up F w w' b) ∧ ¬ F2 vb) ∧ Chg F w w' := by
  obtain ⟨⟨rv, sl, hd⟩, c⟩ := hr
  refine ⟨⟨_, rv, sl, hd, fun b hb => ?_, fun hb => ?_⟩, hc.trans (c.mono hsub)⟩
  · have := c.size
    rcases hb with hb | hb
    · exact (hsub b hb).imp id fun x => ⟨x.1, by omega⟩
    · exact .inr ⟨by have := hc.size; omega, hb.2⟩
  · rcases hb with hb | hb
    · exact hnv hb
    · omega
set_option maxRecDepth 100000 in
set_option maxHeartbeats 2000000 in
theorem dput_go {w : World} {sb vb : Nat} {m m' : Sto} {F : Nat → Prop} {rv v : Value} {sl : Nat → Value} {d : Doc} {L : List ByteArray} {c : Nat} {rest : List UInt8} (h : DIn w sb m F rv sl) (hv : VIn w vb d) (hnv : ¬ F vb) (hd : d.dead = 0) (hb1 : 1 ≤ d.blk) (hb2 : d.blk ≤ 4096) (hh : d.held.size ≤ 4096) (hT : Um.Txs w v L) (hn : L.length ≤ 1048576) (hfit : Um.fit (Um.rl L) = true) (HP : Hid (wputs d.run d.blk m (Um.lst d.held ++ Um.frs (Um.rl L)) = (c, m', rest))) (hc1 : c ≤ 100) :
    Calls Tryz.prog 86 #[.pointer (some ⟨sb, 0, none⟩), .pointer (some ⟨vb, 0, none⟩), v] w fun e w' => e = .returned (.int .i64 c) ∧ DocW w w' F sb vb m' (putDoc d c rest) := by
  obtain ⟨A, hA⟩ : ∃ A, Um.frA L = A := ⟨_, rfl⟩
  have hAe : A = Um.str (Um.frs (Um.rl L)) := by rw [← hA]; unfold Um.frA; rw [if_pos hfit]
  have HFR := hide (Um.ref_frame v L w hT (by omega) A 0 hA (by show Um.frE L = 0; unfold Um.frE; rw [if_pos hfit]))
  have hAs : A.size ≤ 257 * L.length := by
    rw [hAe, Um.str_size]
    have := Um.fk_len (L := L) L.length (Nat.le_refl _) (fun j x _ hx => Um.fit_of hfit hx)
    rw [Um.fk_all (Nat.le_refl _)] at this
    exact this
  obtain ⟨X, hX⟩ : ∃ X, X = d.held ++ A := ⟨_, rfl⟩
  have hXs : X.size = d.held.size + A.size := by rw [hX, ByteArray.size_append]
  have hXb : X.size ≤ 300000000 := by omega
  have hadd : ∀ W : World, (Op.stringOp .add d.held A).run Tryz.prog W = .ok (.string X) W := fun W => by
    rw [hX]
    exact run_string_add_sum _ _ _ (by omega)
  have HPX : Hid (wputs d.run d.blk m ((Um.lst X).drop 0) = (c, m', rest)) := by
    show _ = _
    have e : Um.lst X = Um.lst d.held ++ Um.frs (Um.rl L) := by
      rw [hX, hAe]
      show (d.held ++ Um.str _).data.toList = d.held.data.toList ++ _
      rw [ByteArray.data_append, Array.toList_append, Um.str_list]
    rw [List.drop_zero, e]
    exact unhide HP
  have HD0 := hide h
  have HV0 := hide hv
  have HNV := hide hnv
  obtain ⟨c0, c1, c2, c3, cf, hvb⟩ := vcells hv
  rw [hd] at c2
  clear h hv hnv hT hfit hA hAe hX hXs HP
  go_enter Tryz.func86, Tryz.ntmps86
  go_wp2_with (go_at_call 43; refine (unhide HFR).mono ?_; rintro e w3 ⟨rfl, hb3⟩; have HB3 := hide hb3; obtain ⟨k0, k1, k2, k3, kf, hk3⟩ := vcells ((unhide HV0).below hb3); clear hb3)
  go_loopw [10] (fun s10 wr => ∃ (a : Nat) (m1 : Sto), s10 = .int .i64 a ∧ a ≤ X.size ∧ Hid (∃ F' rv sl, DIn wr sb m1 F' rv sl ∧ (∀ b, F' b → Up F w wr b) ∧ ¬ F' vb) ∧ Hid (VIn wr vb d) ∧ Hid (Chg F w wr) ∧ Hid (wputs d.run d.blk m1 ((Um.lst X).drop a) = (c, m', rest))) (fun a _ => X.size - (intOf a).toNat)
  case atStart =>
    have b3 := unhide HB3
    exact ⟨0, m, rfl, Nat.zero_le _, ⟨F, rv, sl, (unhide HD0).below b3, fun b hb => .inl hb, unhide HNV⟩, (unhide HV0).below b3, Chg.of_below b3, HPX⟩
  case round =>
    obtain ⟨a, m1, rfl, ha, HD1, HV1, HC1, HP1⟩ := hrel
    obtain ⟨k0, k1, k2, k3, kf, hk3⟩ := vcells (unhide HV1)
    clear c0 c1 c2 c3
    by_cases hlt : X.size - a < d.blk
    · have hltz : ¬ (d.blk : Int) ≤ (X.size : Int) - (a : Int) := by omega
      have hltz2 : (X.size : Int) - (a : Int) < (d.blk : Int) := by omega
      have haz : (a : Int) ≤ (X.size : Int) := by omega
      have e := unhide HP1
      rw [wputs_stop (by rw [List.length_drop, Um.lst_len]; exact hlt)] at e
      simp only [Prod.mk.injEq] at e
      obtain ⟨e1, e2, e3⟩ := e
      subst e1 e2
      have HFI : Hid (DocW w (wr.setCell ⟨vb, 3, none⟩ (.string (X.extract a X.size))) F sb vb m1 (putDoc d 0 rest)) := by
        obtain ⟨F', rv', sl', q1, q2, q3⟩ := unhide HD1
        have hne : ∀ b, b ≠ vb → (wr.setCell ⟨vb, 3, none⟩ (.string (X.extract a X.size))).heap[b]? = wr.heap[b]? := fun b hb => Below.heap_setCell _ _ _ _ hb
        refine ⟨⟨F', rv', sl', q1.kept (fun b hb => hne b fun e => q3 (e ▸ hb)) (fun _ x => x) (fun b hb => by simpa using q1.lt b hb), fun b hb => (q2 b hb).imp id fun x => ⟨x.1, by simpa using x.2⟩, q3⟩, ?_, ((unhide HC1).mono fun b hb => .inl hb).setCell (p := ⟨vb, 3, none⟩) (.inl (.inr rfl)) _⟩
        have hs := unhide HV1
        unfold VIn at hs ⊢
        rw [Um.set_heap1 hs]
        rw [show putDoc d 0 rest = { d with held := Um.str rest } from if_pos rfl, ← e3, ← Um.lst_drop, Um.str_lst]
        simp [docC]
      go_wp2
      go_ret
      exact ⟨rfl, unhide HFI⟩
    · have hltz : (d.blk : Int) ≤ (X.size : Int) - (a : Int) := by omega
      have haz : (a : Int) + (d.blk : Int) ≤ (X.size : Int) := by omega
      have ha0 : 0 ≤ (a : Int) := by omega
      have hnl : a + d.blk ≤ 300000000 := by omega
      obtain ⟨Y, hY⟩ : ∃ Y, X.extract a ((a : Int) + (d.blk : Int)).toNat = Y := ⟨_, rfl⟩
      have q1 : (a : Int) ≤ (a : Int) + (d.blk : Int) := by omega
      have q0 : 0 ≤ (a : Int) + (d.blk : Int) := by omega
      have haw : IntKind.i64.wrap ((a : Int) + (d.blk : Int)) = (a : Int) + (d.blk : Int) := IntWalk.i64_in _ (by omega)
      have eY : strB (((Um.lst X).drop a).take d.blk) = Y := by
        rw [← hY, show ((a : Int) + (d.blk : Int)).toNat = a + d.blk by omega, Um.extract_str, Nat.add_sub_cancel_left]
        rfl
      obtain ⟨c1, m2, hap⟩ : ∃ c1 m2, app m1 d.run [Y] = (c1, m2) := ⟨_, _, rfl⟩
      have HAPP : Hid (∀ W, Below wr.heap.size wr W → wr.heap.size < W.heap.size → W.cell? ⟨wr.heap.size, 0, none⟩ = some (.string Y) → Calls Tryz.prog 46 #[.pointer (some ⟨sb, 0, none⟩), .int .i64 d.run, .slice (some ⟨wr.heap.size, 0, none⟩) 1 1] W fun e w' => e = .returned (.int .i64 c1) ∧ VIn w' vb d ∧ (∃ F2 rv sl, DIn w' sb m2 F2 rv sl ∧ (∀ b, F2 b → Up F w w' b) ∧ ¬ F2 vb) ∧ Chg F w w') := fun W hW hlt2 hcell => by
        obtain ⟨F', rv', sl', q1, q2, q3⟩ := unhide HD1
        have hvW := (unhide HV1).below hW
        have cW : Chg F w W := (unhide HC1).trans (Chg.of_below hW)
        refine (append_doc (q1.below hW) d.run (L := [Y]) ⟨_, 1, rfl, by simp, fun _ => ⟨wr.heap.size, 0, rfl, hlt2, fun hb => by have := q1.lt _ hb; omega, fun j y hy => ?_⟩⟩ c1 m2 (hide hap)).mono ?_
        · have : j = 0 := by
            have := (List.getElem?_eq_some_iff.1 hy).1
            simpa using this
          subst this
          simp at hy
          subst hy
          rw [Nat.zero_add]; exact hcell
        · rintro e w' ⟨rfl, hr⟩
          have hvb2 : vb < W.heap.size := Nat.lt_of_lt_of_le hk3 hW.size
          obtain ⟨r1, r2⟩ := doc_part (F := F) (w := w) (fun b hb => (q2 b hb).imp id fun x => ⟨x.1, Nat.lt_of_lt_of_le x.2 hW.size⟩) q3 hvb2 cW hr
          exact ⟨rfl, (hr.2.block vb hvb2 q3).trans hvW, r1, r2⟩
      have HPN := HP1
      have hlT : ¬ ((Um.lst X).drop a).length < d.blk := by rw [List.length_drop, Um.lst_len]; exact hlt
      have hco : c1 ≠ 0 → c1 = c ∧ m2 = m' := fun h0 => by
        have e := unhide HPN
        rw [wputs_no hb1 hlT (by rw [eY, hap]; exact h0), eY, hap] at e
        simp only [Prod.mk.injEq] at e
        exact ⟨e.1, e.2.1⟩
      have hgo : c1 = 0 → wputs d.run d.blk m2 ((Um.lst X).drop (a + d.blk)) = (c, m', rest) := fun h0 => by
        have e := unhide HPN
        rw [wputs_go hb1 hlT (by rw [eY, hap]; exact h0), eY, hap, List.drop_drop] at e
        exact e
      have HCO := hide hco
      have HGO := hide hgo
      clear hco hgo hap eY hlT
      by_cases hc0 : c1 = 0
      · subst hc0
        have HG0 := hide (unhide HGO rfl)
        clear HGO HCO
        go_wp2
        go_region_held3 (fun w' => w'.cell? ⟨vb, 0, none⟩ = some (.int .i64 d.run) ∧ w'.cell? ⟨vb, 1, none⟩ = some (.int .i64 d.blk))
          (first | exact ⟨k0, k1⟩ | exact s2 | (refine ⟨?_, ?_⟩ <;> go_simp))
          (first | (go_at_call 46; refine (unhide HAPP _ (by (repeat (first | exact Below.refl _ _ | refine Below.drew ?_ | refine Below.alloc ?_ (by first | (simp; done) | (simp; omega)) _ | refine Below.setCell ?_ (by first | (simp; done) | (simp; omega)) _))) (by simp) (by go_simp)).mono ?_; rintro e w4 ⟨rfl, hv4, hd4, hc4⟩; obtain ⟨y0, y1, y2, y3, yf, hy4⟩ := vcells hv4; have s2 := (⟨y0, y1⟩ : _ ∧ _); have HV4 := hide hv4; have HD4 := hide hd4; have HC4 := hide hc4; clear hv4 hd4 hc4))
        clear s2
        go_wp2
        go_roundw
        case rel => exact ⟨a + d.blk, m2, by go_num, by omega, HD4, HV4, HC4, HG0⟩
        case measure => simp [intOf]; omega
      · obtain ⟨rfl, rfl⟩ := unhide HCO hc0
        have hcz : ((c1 : Int) == 0) = false := by simp; omega
        have HFI : Hid (∀ W, VIn W vb d → (∃ F2 rv sl, DIn W sb m2 F2 rv sl ∧ (∀ b, F2 b → Up F w W b) ∧ ¬ F2 vb) → Chg F w W → DocW w (W.setCell ⟨vb, 2, none⟩ (.int .i64 c1)) F sb vb m2 (putDoc d c1 rest)) := fun W hs hD hC => by
          obtain ⟨F', rv', sl', q1, q2, q3⟩ := hD
          have hne : ∀ b, b ≠ vb → (W.setCell ⟨vb, 2, none⟩ (.int .i64 c1)).heap[b]? = W.heap[b]? := fun b hb => Below.heap_setCell _ _ _ _ hb
          refine ⟨⟨F', rv', sl', q1.kept (fun b hb => hne b fun e => q3 (e ▸ hb)) (fun _ x => x) (fun b hb => by simpa using q1.lt b hb), fun b hb => (q2 b hb).imp id fun x => ⟨x.1, by simpa using x.2⟩, q3⟩, ?_, (hC.mono fun b hb => .inl hb).setCell (p := ⟨vb, 2, none⟩) (.inl (.inr rfl)) _⟩
          unfold VIn at hs ⊢
          rw [Um.set_heap1 hs, show putDoc d c1 rest = { d with dead := c1 } from if_neg hc0]
          simp [docC]
        go_wp2
        go_region_held3 (fun w' => w'.cell? ⟨vb, 0, none⟩ = some (.int .i64 d.run) ∧ w'.cell? ⟨vb, 1, none⟩ = some (.int .i64 d.blk))
          (first | exact ⟨k0, k1⟩ | exact s2 | (refine ⟨?_, ?_⟩ <;> go_simp))
          (first | (go_at_call 46; refine (unhide HAPP _ (by (repeat (first | exact Below.refl _ _ | refine Below.drew ?_ | refine Below.alloc ?_ (by first | (simp; done) | (simp; omega)) _ | refine Below.setCell ?_ (by first | (simp; done) | (simp; omega)) _))) (by simp) (by go_simp)).mono ?_; rintro e w4 ⟨rfl, hv4, hd4, hc4⟩; obtain ⟨y0, y1, y2, y3, yf, hy4⟩ := vcells hv4; have s2 := (⟨y0, y1⟩ : _ ∧ _); have HF4 := hide (unhide HFI _ hv4 hd4 hc4); clear hv4 hd4 hc4))
        clear s2
        go_wp2
        go_ret
        exact ⟨rfl, unhide HF4⟩
end Rs
end Go.Proofs.YtohfhkdhccpoaaaGreatDoor
/- Layer 6: the document's writer: Close. -/
namespace Go.Proofs.YtohfhkdhccpoaaaGreatDoor
open Go.RowKit
namespace Rs
section
variable {w W : World} {F : Nat → Prop} {sb vb : Nat} {m : Sto} {d : Doc}
theorem DocW.start {rv : Value} {sl : Nat → Value} (h : DIn w sb m F rv sl) (hv : VIn w vb d) (hnv : ¬ F vb) : DocW w w F sb vb m d := ⟨⟨F, rv, sl, h, fun _ hb => .inl hb, hnv⟩, hv, Chg.refl _ _⟩
theorem DocW.below {W2 : World} (h : DocW w W F sb vb m d) (hb : Below W.heap.size W W2) : DocW w W2 F sb vb m d := by
  obtain ⟨⟨F', rv, sl, q1, q2, q3⟩, hv, hc⟩ := h
  exact ⟨⟨F', rv, sl, q1.below hb, fun b hb2 => (q2 b hb2).imp id fun x => ⟨x.1, Nat.lt_of_lt_of_le x.2 hb.size⟩, q3⟩, hv.below hb, hc.trans (Chg.of_below hb)⟩
theorem DocW.set (h : DocW w W F sb vb m d) (k : Nat) (u : Value) (d' : Doc) (hd : (docC d).setIfInBounds k u = docC d') : DocW w (W.setCell ⟨vb, k, none⟩ u) F sb vb m d' := by
  obtain ⟨⟨F', rv', sl', q1, q2, q3⟩, hs, hC⟩ := h
  have hne : ∀ b, b ≠ vb → (W.setCell ⟨vb, k, none⟩ u).heap[b]? = W.heap[b]? := fun b hb => Below.heap_setCell _ _ _ _ hb
  refine ⟨⟨F', rv', sl', q1.kept (fun b hb => hne b fun e => q3 (e ▸ hb)) (fun _ x => x) (fun b hb => by simpa using q1.lt b hb), fun b hb => (q2 b hb).imp id fun x => ⟨x.1, by simpa using x.2⟩, q3⟩, ?_, hC.setCell (p := ⟨vb, k, none⟩) (.inl (.inr rfl)) _⟩
  unfold VIn at hs ⊢
  rw [Um.set_heap1 hs, hd]
theorem docw_seal (h : DocW w W F sb vb m d) (k : Int) {c : Nat} {m2 : Sto} (hs : sel m k = (c, m2)) :
    Calls Tryz.prog 48 #[.pointer (some ⟨sb, 0, none⟩), .int .i64 k] W fun e w' => e = .returned (.int .i64 c) ∧ DocW w w' F sb vb m2 d := by
  obtain ⟨⟨F', rv', sl', q1, q2, q3⟩, hv, hC⟩ := h
  have q := seal_doc q1 k
  rw [hs] at q
  refine q.mono ?_
  rintro e w' ⟨rfl, r1, r2, r3⟩
  exact ⟨rfl, ⟨F', rv', sl', r1, fun b hb => (q2 b hb).imp id fun x => ⟨x.1, by rw [r3]; exact x.2⟩, q3⟩, (r2.block vb (Array.getElem?_eq_some_iff.1 hv).1 q3).trans hv, hC.trans (r2.mono fun b hb => (q2 b hb).elim (fun x => .inl (.inl x)) fun x => .inr x)⟩
theorem docw_app {W2 : World} (h : DocW w W F sb vb m d) (k : Int) {Y : ByteArray} {c : Nat} {m2 : Sto} (hs : app m k [Y] = (c, m2)) (hb : Below W.heap.size W W2) (hlt : W.heap.size < W2.heap.size) (hcell : W2.cell? ⟨W.heap.size, 0, none⟩ = some (.string Y)) :
    Calls Tryz.prog 46 #[.pointer (some ⟨sb, 0, none⟩), .int .i64 k, .slice (some ⟨W.heap.size, 0, none⟩) 1 1] W2 fun e w' => e = .returned (.int .i64 c) ∧ DocW w w' F sb vb m2 d := by
  obtain ⟨⟨F', rv', sl', q1, q2, q3⟩, hv, hC⟩ := h
  have hvb := (Array.getElem?_eq_some_iff.1 hv).1
  have hvW : VIn W2 vb d := hv.below hb
  have cW : Chg (fun b => F b ∨ b = vb) w W2 := hC.trans (Chg.of_below hb)
  refine (append_doc (q1.below hb) k (L := [Y]) ⟨_, 1, rfl, by simp, fun _ => ⟨W.heap.size, 0, rfl, hlt, fun hF => by have := q1.lt _ hF; omega, fun j y hy => ?_⟩⟩ c m2 (hide hs)).mono ?_
  · have : j = 0 := by
      have := (List.getElem?_eq_some_iff.1 hy).1
      simpa using this
    subst this
    simp at hy
    subst hy
    rw [Nat.zero_add]; exact hcell
  · rintro e w' ⟨rfl, ⟨rv2, sl2, hd⟩, c2⟩
    have hz := c2.size
    have hzb := hb.size
    refine ⟨rfl, ⟨_, rv2, sl2, hd, fun b hF => ?_, fun hF => ?_⟩, (c2.block vb (by omega) q3).trans hvW, cW.trans (c2.mono fun b hF => ?_)⟩
    · rcases hF with hF | hF
      · exact (q2 b hF).imp id fun x => ⟨x.1, by omega⟩
      · exact .inr ⟨by have := cW.size; omega, hF.2⟩
    · rcases hF with hF | hF
      · exact q3 hF
      · omega
    · exact (q2 b hF).elim (fun x => .inl (.inl x)) fun x => .inr ⟨x.1, by omega⟩
end
set_option maxRecDepth 100000 in
set_option maxHeartbeats 2000000 in
theorem dclose_go {w : World} {sb vb : Nat} {m m' : Sto} {F : Nat → Prop} {rv : Value} {sl : Nat → Value} {d : Doc} {c : Nat} (h : DIn w sb m F rv sl) (hv : VIn w vb d) (hnv : ¬ F vb) (hd : d.dead = 0) (hh : d.held.size ≤ 4096) (HP : Hid (wclo d.run m (Um.lst d.held) = (c, m'))) :
    Calls Tryz.prog 88 #[.pointer (some ⟨sb, 0, none⟩), .pointer (some ⟨vb, 0, none⟩)] w fun e w' => e = .returned (.tuple #[.int .i64 (if c = 0 then (d.run : Int) else 0), .int .i64 c]) ∧ ∃ held, DocW w w' F sb vb m' { d with dead := (if c = 0 then 13 else c), held := held } := by
  have HD0 := hide (DocW.start h hv hnv)
  obtain ⟨c0, c1, c2, c3, cf, hvb⟩ := vcells hv
  rw [hd] at c2
  clear h hv hnv
  by_cases hz : d.held.size = 0
  · have e := unhide HP
    unfold wclo at e
    rw [if_pos (List.eq_nil_of_length_eq_zero (by rw [Um.lst_len]; exact hz))] at e
    have HSL := hide (docw_seal (unhide HD0) d.run e)
    clear e
    by_cases hc : c = 0
    · subst hc
      rw [if_pos rfl, if_pos rfl]
      go_enter Tryz.func88, Tryz.ntmps88
      go_wp2_with (go_at_call 48; refine (unhide HSL).mono ?_; rintro e w3 ⟨rfl, h3⟩; obtain ⟨y0, y1, y2, y3, yf, hy4⟩ := vcells h3.wri; have HF3 := hide (h3.set 2 (.int .i64 13) { d with dead := 13 } (by simp [docC])); clear h3)
      go_ret2
      exact ⟨rfl, _, unhide HF3⟩
    · rw [if_neg hc, if_neg hc]
      have hcz : ((c : Int) == 0) = false := by simp; omega
      go_enter Tryz.func88, Tryz.ntmps88
      go_wp2_with (go_at_call 48; refine (unhide HSL).mono ?_; rintro e w3 ⟨rfl, h3⟩; obtain ⟨y0, y1, y2, y3, yf, hy4⟩ := vcells h3.wri; have HF3 := hide (h3.set 2 (.int .i64 c) { d with dead := c } (by simp [docC])); clear h3)
      go_ret2
      exact ⟨rfl, _, unhide HF3⟩
  · have hzp : 0 < d.held.size := by omega
    have hzz : 0 < (d.held.size : Int) := by omega
    have hne : Um.lst d.held ≠ [] := fun e => by have := Um.lst_len d.held; rw [e] at this; simp at this; omega
    have eY : strB (Um.lst d.held) = d.held := rfl
    obtain ⟨c1, m2, hap⟩ : ∃ c1 m2, app m d.run [d.held] = (c1, m2) := ⟨_, _, rfl⟩
    have HAPP : Hid (∀ W, Below w.heap.size w W → w.heap.size < W.heap.size → W.cell? ⟨w.heap.size, 0, none⟩ = some (.string d.held) → Calls Tryz.prog 46 #[.pointer (some ⟨sb, 0, none⟩), .int .i64 d.run, .slice (some ⟨w.heap.size, 0, none⟩) 1 1] W fun e w' => e = .returned (.int .i64 c1) ∧ DocW w w' F sb vb m2 d) := fun W hW hlt hcell => docw_app (unhide HD0) d.run hap hW hlt hcell
    have e := unhide HP
    unfold wclo at e
    rw [if_neg hne, eY, hap] at e
    by_cases hc1 : c1 = 0
    · subst hc1
      rw [if_pos rfl] at e
      have HSL : Hid (∀ W, DocW w W F sb vb m2 d → DocW w (W.setCell ⟨vb, 3, none⟩ (.string ⟨#[]⟩)) F sb vb m2 { d with held := ⟨#[]⟩ } ∧ Calls Tryz.prog 48 #[.pointer (some ⟨sb, 0, none⟩), .int .i64 d.run] (W.setCell ⟨vb, 3, none⟩ (.string ⟨#[]⟩)) fun e w' => e = .returned (.int .i64 c) ∧ DocW w w' F sb vb m' { d with held := ⟨#[]⟩ }) := fun W hW => by
        have h3 := hW.set 3 (.string ⟨#[]⟩) { d with held := ⟨#[]⟩ } (by simp [docC])
        exact ⟨h3, docw_seal h3 d.run e⟩
      clear e hap
      by_cases hc : c = 0
      · subst hc
        rw [if_pos rfl, if_pos rfl]
        go_enter Tryz.func88, Tryz.ntmps88
        go_wp2
        go_region_held3 (fun w' => w'.cell? ⟨vb, 0, none⟩ = some (.int .i64 d.run) ∧ w'.cell? ⟨vb, 3, none⟩ = some (.string d.held))
          (first | exact ⟨c0, c3⟩ | exact s2 | (refine ⟨?_, ?_⟩ <;> go_simp))
          (first | (go_at_call 46; refine (unhide HAPP _ (by (repeat (first | exact Below.refl _ _ | refine Below.drew ?_ | refine Below.alloc ?_ (by first | (simp; done) | (simp; omega)) _ | refine Below.setCell ?_ (by first | (simp; done) | (simp; omega)) _))) (by simp) (by go_simp)).mono ?_; rintro e w4 ⟨rfl, h4⟩; obtain ⟨y0, y1, y2, y3, yf, hy4⟩ := vcells h4.wri; have s2 := (⟨y0, y3⟩ : _ ∧ _); have HL4 := hide (unhide HSL _ h4); clear h4))
        clear s2
        clear HSL
        go_wp2_with (go_at_call 48; refine (unhide HL4).2.mono ?_; rintro e w5 ⟨rfl, h5⟩; obtain ⟨z0, z1, z2, z3, zf, hz4⟩ := vcells h5.wri; have HF5 := hide (h5.set 2 (.int .i64 13) { d with dead := 13, held := ⟨#[]⟩ } (by simp [docC])); clear h5)
        go_ret2
        exact ⟨rfl, _, unhide HF5⟩
      · rw [if_neg hc, if_neg hc]
        have hcz : ((c : Int) == 0) = false := by simp; omega
        go_enter Tryz.func88, Tryz.ntmps88
        go_wp2
        go_region_held3 (fun w' => w'.cell? ⟨vb, 0, none⟩ = some (.int .i64 d.run) ∧ w'.cell? ⟨vb, 3, none⟩ = some (.string d.held))
          (first | exact ⟨c0, c3⟩ | exact s2 | (refine ⟨?_, ?_⟩ <;> go_simp))
          (first | (go_at_call 46; refine (unhide HAPP _ (by (repeat (first | exact Below.refl _ _ | refine Below.drew ?_ | refine Below.alloc ?_ (by first | (simp; done) | (simp; omega)) _ | refine Below.setCell ?_ (by first | (simp; done) | (simp; omega)) _))) (by simp) (by go_simp)).mono ?_; rintro e w4 ⟨rfl, h4⟩; obtain ⟨y0, y1, y2, y3, yf, hy4⟩ := vcells h4.wri; have s2 := (⟨y0, y3⟩ : _ ∧ _); have HL4 := hide (unhide HSL _ h4); clear h4))
        clear s2
        clear HSL
        go_wp2_with (go_at_call 48; refine (unhide HL4).2.mono ?_; rintro e w5 ⟨rfl, h5⟩; obtain ⟨z0, z1, z2, z3, zf, hz4⟩ := vcells h5.wri; have HF5 := hide (h5.set 2 (.int .i64 c) { d with dead := c, held := ⟨#[]⟩ } (by simp [docC])); clear h5)
        go_ret2
        exact ⟨rfl, _, unhide HF5⟩
    · rw [if_neg hc1] at e
      simp only [Prod.mk.injEq] at e
      obtain ⟨rfl, rfl⟩ := e
      rw [if_neg hc1, if_neg hc1]
      have hcz : ((c1 : Int) == 0) = false := by simp; omega
      clear hap
      go_enter Tryz.func88, Tryz.ntmps88
      go_wp2
      go_region_held3 (fun w' => w'.cell? ⟨vb, 0, none⟩ = some (.int .i64 d.run) ∧ w'.cell? ⟨vb, 3, none⟩ = some (.string d.held))
        (first | exact ⟨c0, c3⟩ | exact s2 | (refine ⟨?_, ?_⟩ <;> go_simp))
        (first | (go_at_call 46; refine (unhide HAPP _ (by (repeat (first | exact Below.refl _ _ | refine Below.drew ?_ | refine Below.alloc ?_ (by first | (simp; done) | (simp; omega)) _ | refine Below.setCell ?_ (by first | (simp; done) | (simp; omega)) _))) (by simp) (by go_simp)).mono ?_; rintro e w4 ⟨rfl, h4⟩; obtain ⟨y0, y1, y2, y3, yf, hy4⟩ := vcells h4.wri; have s2 := (⟨y0, y3⟩ : _ ∧ _); have HF4 := hide (h4.set 2 (.int .i64 c1) { d with dead := c1 } (by simp [docC])); clear h4))
      clear s2
      go_wp2
      go_ret2
      exact ⟨rfl, _, unhide HF4⟩
end Rs
end Go.Proofs.YtohfhkdhccpoaaaGreatDoor
/- Layer 9: the document's writer is dropped; a batch written, the document's. -/
namespace Go.Proofs.YtohfhkdhccpoaaaGreatDoor
open Go.RowKit
namespace Rs
open Sm (Tx ofS)
section
variable {w W : World} {F : Nat → Prop} {sb vb : Nat} {m : Sto} {d : Doc}
theorem docw_rem (h : DocW w W F sb vb m d) (k : Int) :
    Calls Tryz.prog 33 #[.pointer (some ⟨sb, 0, none⟩), .int .i64 k] W fun e w' => e = .returned (.int .i64 (rem m k).1) ∧ DocW w w' F sb vb (rem m k).2 d := by
  obtain ⟨⟨F', rv', sl', q1, q2, q3⟩, hv, hC⟩ := h
  have hvb := (Array.getElem?_eq_some_iff.1 hv).1
  refine (remove_doc q1 k).mono ?_
  rintro e w' ⟨rfl, ⟨rv2, hd⟩, c2⟩
  have hz := c2.size
  refine ⟨rfl, ⟨_, rv2, sl', hd, fun b hF => ?_, fun hF => ?_⟩, (c2.block vb hvb q3).trans hv, hC.trans (c2.mono fun b hF => ?_)⟩
  · rcases hF with hF | hF
    · exact (q2 b hF).imp id fun x => ⟨x.1, by omega⟩
    · exact .inr ⟨by have := hC.size; omega, hF.2⟩
  · rcases hF with hF | hF
    · exact q3 hF
    · omega
  · exact (q2 b hF).elim (fun x => .inl (.inl x)) fun x => .inr x
set_option maxRecDepth 100000 in
theorem ddrop_go (h : DocW w W F sb vb m d) (hd : d.dead ≠ 13) :
    Calls Tryz.prog 87 #[.pointer (some ⟨sb, 0, none⟩), .pointer (some ⟨vb, 0, none⟩)] W fun e w' => e = .returned (.tuple #[]) ∧ DocW w w' F sb vb (rem m d.run).2 { d with dead := 13 } := by
  obtain ⟨c0, c1, c2, c3, cf, hvb⟩ := vcells h.wri
  have q3 : ((d.dead : Int) == 13) = false := by simp; omega
  have HR := hide (docw_rem h d.run)
  clear h
  go_enter Tryz.func87, Tryz.ntmps87
  go_wp2_with (go_at_call 33; refine (unhide HR).mono ?_; rintro e w3 ⟨rfl, h3⟩; obtain ⟨y0, y1, y2, y3, yf, hy4⟩ := vcells h3.wri; have HF3 := hide (h3.set 2 (.int .i64 13) { d with dead := 13 } (by simp [docC])); clear h3)
  go_end0
  exact ⟨rfl, unhide HF3⟩
end
/-- the document's store and a writer that is newer than w -/
structure DW (w W : World) (F : Nat → Prop) (sb vb : Nat) (m : Sto) (d : Doc) : Prop where
  sto : ∃ F' rv sl, DIn W sb m F' rv sl ∧ (∀ b, F' b → Up F w W b) ∧ ¬ F' vb
  wri : VIn W vb d
  new : w.heap.size ≤ vb
  chg : Chg F w W
theorem DW.next {w W W' : World} {F F' : Nat → Prop} {sb vb : Nat} {m m' : Sto} {d d' : Doc} (h : DW w W F sb vb m d) (hs : ∀ b, F' b → Up F w W b) (k : DocW W W' F' sb vb m' d') : DW w W' F sb vb m' d' := by
  obtain ⟨⟨F2, rv, sl, q1, q2, q3⟩, hv, hc⟩ := k
  have hvb := (Array.getElem?_eq_some_iff.1 h.wri).1
  have s1 := h.chg.size
  have s2 := hc.size
  refine ⟨⟨F2, rv, sl, q1, fun b hb => ?_, q3⟩, hv, h.new, h.chg.trans (hc.mono fun b hb => ?_)⟩
  · rcases q2 b hb with x | x
    · exact (hs b x).imp id fun y => ⟨y.1, by omega⟩
    · exact .inr ⟨by omega, x.2⟩
  · rcases hb with x | x
    · exact hs b x
    · exact .inr ⟨by rw [x]; exact h.new, by omega⟩
theorem DW.res {w W : World} {F : Nat → Prop} {sb vb : Nat} {m : Sto} {d : Doc} (h : DW w W F sb vb m d) (hF : ∀ b, F b → b < w.heap.size) : DRes F w sb m W := by
  obtain ⟨F2, rv, sl, q1, q2, q3⟩ := h.sto
  have s1 := h.chg.size
  exact ⟨⟨rv, sl, q1.kept (fun _ _ => rfl) q2 fun b hb => hb.elim (fun x => by have := hF b x; omega) fun x => x.2⟩, h.chg⟩
set_option maxRecDepth 100000 in
set_option maxHeartbeats 2000000 in
/-- a batch of texts, as the document writes it -/
theorem written_any {w : World} {sb n c : Nat} {m m' : Sto} {F : Nat → Prop} {rv v : Value} {sl : Nat → Value} {L : List Tx} (h : DIn w sb m F rv sl) (hT : ∀ W, Chg F w W → Um.Txs W v L) (hn : L.length ≤ 1048576) (hs : ∀ x ∈ L, x.size ≤ 255) (HB : bat m L = (c, m', n)) :
    Calls Tryz.prog 57 #[.pointer (some ⟨sb, 0, none⟩), v] w fun e w' => e = .returned (.tuple #[.int .i64 n, .int .i64 c]) ∧ DRes F w sb m' w' := by
  have hlt := h.lt
  have hfit : Um.fit (Um.rl L) = true := Um.fit_yes fun _ y hy => hs y (List.mem_of_getElem? hy)
  have hmc := made_crt m
  rcases hcr : crt m with ⟨⟨k0, c0⟩, m2⟩
  unfold bat at HB
  rw [hcr] at hmc HB
  dsimp only at hmc HB
  by_cases hc0 : c0 = 0
  · subst hc0
    obtain ⟨_, hk0⟩ := hmc.1 rfl
    subst hk0
    rw [if_neg (by simp)] at HB
    obtain ⟨N, hN⟩ : ∃ N, m.made + 1 = N := ⟨_, rfl⟩
    rw [hN] at HB hcr
    rcases hp : wputs N 512 m2 (Um.frs (Um.rl L)) with ⟨cp, mp, rest⟩
    unfold batN at HB
    rw [hp] at HB
    dsimp only at HB
    have hp9 : cp ≤ 9 := by have := puts_le9 _ N 512 m2 (Um.frs (Um.rl L)) (Nat.le_refl _) (by decide); rw [hp] at this; exact this
    have HO : Hid (Calls Tryz.prog 85 #[.pointer (some ⟨sb, 0, none⟩), .int .i64 512] w fun e w1 => ∃ vb, e = .returned (.tuple #[.pointer (some ⟨vb, 0, none⟩), .int .i64 0]) ∧ DW w w1 F sb vb m2 ⟨N, 512, 0, ByteArray.empty⟩) := by
      refine (dopen_go h (b := 512) (by omega) (by omega) hcr).mono ?_
      rintro e w1 ⟨vb, rfl, hv, hnew, hst, hch⟩
      exact ⟨vb, rfl, hst, hv, hnew, hch⟩
    have HP : Hid (∀ W vb, DW w W F sb vb m2 ⟨N, 512, 0, ByteArray.empty⟩ → Calls Tryz.prog 86 #[.pointer (some ⟨sb, 0, none⟩), .pointer (some ⟨vb, 0, none⟩), v] W fun e w' => e = .returned (.int .i64 cp) ∧ DW w w' F sb vb mp (putDoc ⟨N, 512, 0, ByteArray.empty⟩ cp rest)) := fun W vb hW => by
      obtain ⟨F1, rv1, sl1, q1, q2, q3⟩ := hW.sto
      refine (dput_go q1 hW.wri q3 rfl (by show 1 ≤ 512; decide) (by show 512 ≤ 4096; decide) (by show ByteArray.empty.size ≤ 4096; decide) (hT W hW.chg) hn hfit (c := cp) (m' := mp) (rest := rest) (by
        show wputs (N : Int) 512 m2 (Um.lst ByteArray.empty ++ _) = _
        rw [show Um.lst ByteArray.empty = [] from rfl, List.nil_append]
        exact hp) (by omega)).mono ?_
      rintro e w' ⟨rfl, hd⟩
      exact ⟨rfl, hW.next q2 hd⟩
    have HD : Hid (∀ W vb mm (d : Doc), d.dead ≠ 13 → d.run = N → DW w W F sb vb mm d → Calls Tryz.prog 87 #[.pointer (some ⟨sb, 0, none⟩), .pointer (some ⟨vb, 0, none⟩)] W fun e w' => e = .returned (.tuple #[]) ∧ DRes F w sb (rem mm N).2 w') := fun W vb mm d h13 hr hW => by
      obtain ⟨F1, rv1, sl1, q1, q2, q3⟩ := hW.sto
      refine (ddrop_go (DocW.start q1 hW.wri q3) h13).mono ?_
      rintro e w' ⟨rfl, hd⟩
      rw [hr] at hd
      exact ⟨rfl, (hW.next q2 hd).res hlt⟩
    by_cases hcp : cp = 0
    · subst hcp
      rw [if_neg (by simp)] at HB
      have hrest : rest.length < 512 := by
        have := wputs_small _ N 512 m2 (Um.frs (Um.rl L)) (Nat.le_refl _) (by decide) (by rw [hp])
        rw [hp] at this
        exact this
      rcases hq : wclo N mp rest with ⟨cc, mc⟩
      rw [hq] at HB
      dsimp only at HB
      have hc9 : cc ≤ 9 := by have := clo_le9 N mp rest; rw [hq] at this; exact this
      have HC : Hid (∀ W vb, DW w W F sb vb mp (putDoc ⟨N, 512, 0, ByteArray.empty⟩ 0 rest) → Calls Tryz.prog 88 #[.pointer (some ⟨sb, 0, none⟩), .pointer (some ⟨vb, 0, none⟩)] W fun e w' => e = .returned (.tuple #[.int .i64 (if cc = 0 then (N : Int) else 0), .int .i64 cc]) ∧ ∃ d : Doc, d.run = N ∧ d.dead = (if cc = 0 then 13 else cc) ∧ DW w w' F sb vb mc d) := fun W vb hW => by
        obtain ⟨F1, rv1, sl1, q1, q2, q3⟩ := hW.sto
        refine (dclose_go q1 hW.wri q3 rfl (by show (Um.str rest).size ≤ 4096; rw [Um.str_size]; omega) (c := cc) (m' := mc) (by show _ = _; exact hq)).mono ?_
        rintro e w' ⟨rfl, held, hd⟩
        exact ⟨rfl, _, rfl, rfl, hW.next q2 hd⟩
      by_cases hcc : cc = 0
      · subst hcc
        rw [if_neg (by simp)] at HB
        injection HB with e1 HB
        injection HB with e2 e3
        subst e1 e2 e3
        rw [if_pos rfl] at HC
        clear h hT hmc hcr hp hq HD
        go_enter Tryz.func57, Tryz.ntmps57
        go_wp2_with (first
          | (go_at_call 85; refine (unhide HO).mono ?_; rintro e w1 ⟨vb, rfl, h1⟩; have H1 := hide h1; clear h1)
          | (go_at_call 86; refine (unhide HP _ vb (unhide H1)).mono ?_; rintro e w2 ⟨rfl, h2⟩; have H2 := hide h2; clear h2)
          | (go_at_call 88; refine (unhide HC _ vb (unhide H2)).mono ?_; rintro e w3 ⟨rfl, d3, hr3, hd3, h3⟩; have H3 := hide h3; clear h3 hr3 hd3))
        go_ret2
        exact ⟨rfl, (unhide H3).res hlt⟩
      · rw [if_pos hcc] at HB
        injection HB with e1 HB
        injection HB with e2 e3
        subst e1 e2 e3
        rw [if_neg hcc, if_neg hcc] at HC
        have q5 : ((cc : Int) == 0) = false := by simp; omega
        have h13 : cc ≠ 13 := by omega
        clear h hT hmc hcr hp hq
        go_enter Tryz.func57, Tryz.ntmps57
        go_wp2_with (first
          | (go_at_call 85; refine (unhide HO).mono ?_; rintro e w1 ⟨vb, rfl, h1⟩; have H1 := hide h1; clear h1)
          | (go_at_call 86; refine (unhide HP _ vb (unhide H1)).mono ?_; rintro e w2 ⟨rfl, h2⟩; have H2 := hide h2; clear h2)
          | (go_at_call 88; refine (unhide HC _ vb (unhide H2)).mono ?_; rintro e w3 ⟨rfl, d3, hr3, hd3, h3⟩; have H3 := hide (unhide HD _ vb _ d3 (by rw [hd3]; exact h13) hr3 h3); clear h3 hr3 hd3)
          | (go_at_call 87; refine (unhide H3).mono ?_; rintro e w4 ⟨rfl, h4⟩; have H4 := hide h4; clear h4))
        go_ret2
        exact ⟨rfl, unhide H4⟩
    · rw [if_pos hcp] at HB
      injection HB with e1 HB
      injection HB with e2 e3
      subst e1 e2 e3
      have q5 : ((cp : Int) == 0) = false := by simp; omega
      have HP2 : Hid (∀ W vb, DW w W F sb vb m2 ⟨N, 512, 0, ByteArray.empty⟩ → Calls Tryz.prog 86 #[.pointer (some ⟨sb, 0, none⟩), .pointer (some ⟨vb, 0, none⟩), v] W fun e w' => e = .returned (.int .i64 cp) ∧ Hid (Calls Tryz.prog 87 #[.pointer (some ⟨sb, 0, none⟩), .pointer (some ⟨vb, 0, none⟩)] w' fun e w' => e = .returned (.tuple #[]) ∧ DRes F w sb (rem mp N).2 w')) := fun W vb hW =>
        (unhide HP W vb hW).mono fun e w' hh => ⟨hh.1, unhide HD w' vb mp _ (by unfold putDoc; rw [if_neg hcp]; show cp ≠ 13; omega) (by unfold putDoc; rw [if_neg hcp]) hh.2⟩
      clear h hT hmc hcr hp HP HD
      go_enter Tryz.func57, Tryz.ntmps57
      go_wp2_with (first
        | (go_at_call 85; refine (unhide HO).mono ?_; rintro e w1 ⟨vb, rfl, h1⟩; have H1 := hide h1; clear h1)
        | (go_at_call 86; refine (unhide HP2 _ vb (unhide H1)).mono ?_; rintro e w2 ⟨rfl, H2⟩)
        | (go_at_call 87; refine (unhide H2).mono ?_; rintro e w4 ⟨rfl, h4⟩; have H4 := hide h4; clear h4))
      go_ret2
      exact ⟨rfl, unhide H4⟩
  · rw [if_pos hc0] at HB
    injection HB with e1 HB
    injection HB with e2 e3
    subst e1 e2 e3
    obtain ⟨_, rfl⟩ := hmc.2 hc0
    have HO := hide (dopen_fail h (b := 512) (by omega) (by omega) hcr hc0)
    have q3 : ((c0 : Int) == 0) = false := by simp; omega
    clear h hT hmc hcr
    go_enter Tryz.func57, Tryz.ntmps57
    go_wp2_with (go_at_call 85; refine (unhide HO).mono ?_; rintro e w1 ⟨rfl, h1⟩; have H1 := hide h1; clear h1)
    go_ret2
    exact ⟨rfl, unhide H1⟩
end Rs
end Go.Proofs.YtohfhkdhccpoaaaGreatDoor
