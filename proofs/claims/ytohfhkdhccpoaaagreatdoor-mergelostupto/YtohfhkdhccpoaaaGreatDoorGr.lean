/- Layer 6: Unframe, the program's and the document's. -/
import Derived.Test.YtohfhkdhccpoaaaGreatDoorGf
import Derived.Laws.DeepStrings4
import Derived.Test.YtohfhkdhccpoaaaGreatDoorGa
import Derived.Laws.Cover1
import Derived.Test.YtohfhkdhccpoaaaGreatDoorGq
namespace Go.Proofs.YtohfhkdhccpoaaaGreatDoor
open Go.RowKit
namespace Um

theorem rl_app (a b : List ByteArray) : rl (a ++ b) = rl a ++ rl b := by simp [rl]
theorem rl_len (a : List ByteArray) : (rl a).length = a.length := by simp [rl]
theorem rl_one (x : List UInt8) : rl [str x] = [x] := by simp [rl, lst, str]
/-- a list of records and a fault are answered -/
def UnA (w : World) (Ev : Int) (XX : List (List UInt8)) (e : Ending) (w' : World) : Prop := ∃ v D, e = .returned (.tuple #[v, .int .i64 Ev]) ∧ Txs w' v D ∧ rl D = XX ∧ Below w.heap.size w w'
theorem heads_step {T R : List UInt8} {D : List ByteArray} (h : heads T = (rl D ++ (heads R).1, (heads R).2)) (h0 : R ≠ []) (hu : (un1 R).1 = 0) : heads T = (rl (D ++ [str (un1 R).2.1]) ++ (heads (un1 R).2.2).1, (heads (un1 R).2.2).2) := by
  rw [h, heads_ok h0 hu, rl_app, rl_one]
  simp
set_option maxRecDepth 100000 in
set_option maxHeartbeats 1000000 in
theorem unframe_any (s : ByteArray) (w : World) (hs : s.size ≤ 1073741824) (Ev : Int) (XX : List (List UInt8)) (HEv : Hid (((heads (lst s)).2 : Int) = Ev)) (HXX : Hid ((if (heads (lst s)).2 = 0 then (heads (lst s)).1 else []) = XX)) :
    Calls Tryz.prog 17 #[.string s] w (UnA w Ev XX) := by
  obtain ⟨i0, hi, hz0, hz1, hz2⟩ := info_parts infoT
  obtain ⟨T, hT⟩ : ∃ T, lst s = T := ⟨_, rfl⟩
  have hsn : s.size = T.length := by rw [← hT, lst_len]
  have HST : Hid (s = str T) := by show s = _; rw [← hT]; rfl
  rw [hT] at HEv HXX
  clear hT
  rw [hsn] at hs
  clear hsn
  go_enter Tryz.func17, Tryz.ntmps17
  go_wp2
  go_loopw [0, 4] (fun s0 s4 wr => ∃ (R : List UInt8) (t : ByteArray) (u : Value) (D : List ByteArray), u = s4 ∧ s0 = .string t ∧ t.size ≤ 1073741824 ∧ D.length + t.size ≤ 1073741824 ∧ Hid (t = str R) ∧ Hid (heads T = (rl D ++ (heads R).1, (heads R).2)) ∧ Hid (OwnT w.heap.size wr u D) ∧ Hid (Below w.heap.size w wr)) (fun t _ _ => match t with | .string b => b.size | _ => 0)
  case atStart => exact ⟨T, s, _, [], rfl, rfl, by rw [unhide HST, str_size]; exact hs, by rw [unhide HST, str_size]; simpa using hs, unhide HST, (by show _ = _; simp [rl]), ownT_nil _ _, Below.refl _ _⟩
  case round =>
    obtain ⟨R, t, u, D, rfl, rfl, ht, hDt, HR, HH, HO, HBr⟩ := hrel
    by_cases hR : R = []
    · subst hR
      have hem : t.toList.isEmpty = true := by rw [unhide HR, ByteArray.toList_eq, str_list]; rfl
      go_wp2
      go_ret2
      have h := unhide HH
      rw [heads_nil] at h
      simp only [List.append_nil] at h
      refine ⟨_, D, ?_, (unhide HO).txs, ?_, unhide HBr⟩
      · rw [← unhide HEv, h]; rfl
      · rw [← unhide HXX, h]; simp
    · have hem : t.toList.isEmpty = false := by
        rw [unhide HR]
        cases R with
        | nil => exact absurd rfl hR
        | cons x y => rw [ByteArray.toList_eq, str_list]; rfl
      have HU := hide (unframe_one t wr (by omega))
      have el : lst t = R := by rw [unhide HR]; exact str_list R
      rw [el] at HU
      by_cases hu : (un1 R).1 = 0
      · rw [hu] at HU
        have HH2 := hide (heads_step (unhide HH) hR hu)
        have HSH := hide (un1_short hu)
        have HEL := hide el
        generalize (un1 R).2.2 = R2 at *
        obtain ⟨x, hx⟩ : ∃ x, x = str (un1 R).2.1 := ⟨_, rfl⟩
        rw [← hx] at HU HH2
        obtain ⟨t2, ht2⟩ : ∃ t2, t2 = str R2 := ⟨_, rfl⟩
        rw [← ht2] at HU
        have HT2 := hide ht2
        have ht2s : t2.size < t.size := by
          rw [ht2, str_size, ← lst_len t, unhide HEL]
          exact unhide HSH
        clear hx ht2 el hu
        go_wp2_with (first
          | (go_at_call 39; refine (unhide HU).mono ?_; rintro e w1 ⟨rfl, hB1⟩; have HO1 := hide ((unhide HO).below hB1); have HB1 := hide ((unhide HBr).trans (hB1.mono (unhide HBr).size)); clear hB1)
          | (at_builtin; refine wpList_append_own _ rfl _ _ 29 rfl w.heap.size 9 i0 (.string ByteArray.empty) 1 16 Tryz.underlying29 hi hz0 hz1 hz2 rfl (by decide) _ _ _ rfl ((unhide HO1).below ((Below.refl _ _).alloc (Nat.le_refl _) _)) ⟨w1.heap.size, 0, none⟩ 1 1 [.string x] rfl rfl (new_cells _ #[.string x] _) (by simp [Value.oneCell']) (by unfold maxLen; omega) (by omega) (by have := (unhide HB1).size; simp; omega) ?_; intro v' w2 hown' hgrow hnil; clear hnil; have HO2 := hide (ownT_push hown'); have HB2 := hide (push1 (unhide HO1) (unhide HB1) (Nat.le_refl _) hgrow); clear hown' hgrow))
        go_roundw
        case rel => exact ⟨R2, t2, v', D ++ [x], rfl, rfl, by omega, by simp only [List.length_append, List.length_cons, List.length_nil]; omega, HT2, HH2, HO2, HB2⟩
        case measure => simpa using ht2s
      · have h := unhide HH
        rw [heads_bad hR hu] at h
        simp only [List.append_nil] at h
        obtain ⟨E, hE⟩ : ∃ E, (un1 R).1 = E := ⟨_, rfl⟩
        rw [hE] at hu HU h
        have hEb : ((E : Int) == 0) = false := by simp; omega
        have HHD := hide h
        generalize str (un1 R).2.1 = c1 at *
        generalize str (un1 R).2.2 = c2 at *
        clear h hE
        go_wp2_with (go_at_call 39; refine (unhide HU).mono ?_; rintro e w1 ⟨rfl, hB1⟩; have HB1 := hide ((unhide HBr).trans (hB1.mono (unhide HBr).size)); clear hB1)
        go_ret2
        refine ⟨_, [], ?_, (ownT_nil 0 _).txs, ?_, unhide HB1⟩
        · rw [← unhide HEv, unhide HHD]; rfl
        · rw [← unhide HXX, unhide HHD]; simp [rl, hu]
end Um
end Go.Proofs.YtohfhkdhccpoaaaGreatDoor
/- Layer 5: Used. -/
namespace Go.Proofs.YtohfhkdhccpoaaaGreatDoor
open Go.RowKit
namespace Rs
theorem used_nil (w : World) : Calls Tryz.prog 21 #[.pointer none] w fun e w' => e = .returned (.int .i64 0) ∧ w' = w := by
  go_enter Tryz.func21, Tryz.ntmps21
  go_wp2
  go_ret
  exact ⟨rfl, rfl⟩
theorem used_any {w : World} {sb : Nat} {m : Sto} {F : Nat → Prop} (h : At w sb m F) : Calls Tryz.prog 21 #[.pointer (some ⟨sb, 0, none⟩)] w fun e w' => e = .returned (.int .i64 (tot m.runs)) ∧ w' = w := by
  obtain ⟨mv, hs, _⟩ := h.map
  obtain ⟨_, _, _, c3, _, _, fz⟩ := cells_sto hs
  clear h hs
  go_enter Tryz.func21, Tryz.ntmps21
  go_wp2
  go_ret
  exact ⟨rfl, rfl⟩
end Rs
end Go.Proofs.YtohfhkdhccpoaaaGreatDoor
/- Layer 10: the law MergeSorts. -/
namespace Go.Proofs.YtohfhkdhccpoaaaGreatDoor
open Go.RowKit Go.Shelf
namespace Rs
open Sm (Tx ofS)

theorem lst_inj {a b : Tx} (h : Um.lst a = Um.lst b) : a = b := Sm.tx_ext h
theorem rl_inj : ∀ {A B : List Tx}, Um.rl A = Um.rl B → A = B
  | [], [], _ => rfl
  | [], _ :: _, h => by cases h
  | _ :: _, [], h => by cases h
  | a :: A, b :: B, h => by
    simp only [Um.rl, List.map_cons, List.cons.injEq] at h
    rw [lst_inj h.1, rl_inj (A := A) (B := B) h.2]
theorem own_new {B : Nat} {W : World} {v : Value} {L : List Tx} (h : Um.OwnT B W v L) : ∀ a n c, v = .slice (some a) n c → B ≤ a.block ∧ a.block < W.heap.size := fun a n c e => by
  rcases h.2 with ⟨e1, _⟩ | ⟨g, cap, cur, e1, hb, hg, _⟩
  · rw [e1] at e; cases e
  · rw [e1] at e
    injection e with e _ _
    injection e with e
    rw [← e]
    exact ⟨hb, (Array.getElem?_eq_some_iff.1 hg).1⟩
/-- records that are whole are read back -/
theorem unframe_go {W : World} {L : List Tx} (hx : ∀ x ∈ L, x.size ≤ 255) (hl : (Um.frs (Um.rl L)).length ≤ 67108864) :
    Calls Tryz.prog 17 #[.string (strB (Um.frs (Um.rl L)))] W fun e w' => ∃ r, e = .returned (.tuple #[r, .int .i64 0]) ∧ Um.Txs w' r L ∧ Below W.heap.size W w' := by
  have hfit : Um.fit (Um.rl L) = true := Um.fit_yes fun _ y hy => hx y (List.mem_of_getElem? hy)
  have he := Um.heads_frs hfit
  have hls : Um.lst (strB (Um.frs (Um.rl L))) = Um.frs (Um.rl L) := by simp [Um.lst, strB]
  refine (Um.unframe_any _ W (by rw [strB_sz]; omega) 0 (Um.rl L) (by show _ = _; rw [hls, he]; rfl) (by show _ = _; rw [hls, he]; rfl)).mono ?_
  rintro e w' ⟨r, D', rfl, hT', hr', hb'⟩
  rw [rl_inj hr'] at hT'
  exact ⟨r, rfl, hT', hb'⟩
/-- settings as the laws make them -/
theorem setting (k : Nat) (x : Int) (h2 : x ≤ 9223372036854775807) : ∃ q : Nat, max 0 x = (q : Int) ∧ q ≤ 9223372036854775807 ∧ (q : Int).tmod k = ((q % k : Nat) : Int) := by
  refine ⟨(max 0 x).toNat, by omega, by omega, ?_⟩
  rw [Int.tmod_eq_emod_of_nonneg (by omega)]
  rfl
set_option maxRecDepth 100000 in
set_option maxHeartbeats 4000000 in
theorem sorts10 {w : World} {v : Value} {X : List Tx} {E : Nat → Addr} (V : EnvZ w E w.heap.size) (hT : Um.Txs w v X) (hn : X.length ≤ 9223372036854775807) (bl fl : Int) (hb2 : bl ≤ 9223372036854775807) (hf2 : fl ≤ 9223372036854775807) :
    Calls Tryz.prog 4 #[v, .int .i64 bl, .int .i64 fl] w fun e w' => e = .returned (.bool true) ∧ Below w.heap.size w w' := by
  have HWK := hide (wakes_any V)
  have HV := hide V
  have HFI : Hid (∀ W, Below w.heap.size w W → Calls Tryz.prog 14 #[v] W fun e w' => ∃ u D z, e = .returned (.tuple #[u, .int .i64 (z : Nat)]) ∧ z ≤ 1048832 ∧ Fit D z ∧ Um.OwnT W.heap.size w' u D ∧ Below W.heap.size W w') := fun W hW => fit_any (hT.below hW) hn
  obtain ⟨ao, cap, rfl, -⟩ := hT
  obtain ⟨q, hq, hqb, hr⟩ := setting 40 bl hb2
  obtain ⟨b, hbb⟩ : ∃ b : Nat, 1 + (q : Int) % 40 = (b : Int) := ⟨1 + q % 40, by omega⟩
  have hb3 : 1 ≤ b := by omega
  have hb4 : b ≤ 40 := by omega
  obtain ⟨p, hp, hpb, hs⟩ := setting 12 fl hf2
  obtain ⟨fan, hff⟩ : ∃ fan : Nat, 2 + (p : Int) % 12 = (fan : Int) := ⟨2 + p % 12, by omega⟩
  have hf3 : 2 ≤ fan := by omega
  have hf4 : fan ≤ 13 := by omega
  clear V
  go_enter Tryz.func4, Tryz.ntmps4
  go_wp2_with (first
    | (go_at_call 11; refine (unhide HWK).mono ?_; rintro e w1 ⟨rfl, h1⟩; have HB1 := hide h1; clear h1)
    | (go_at_call 14; refine (unhide HFI _ (unhide HB1)).mono ?_; rintro e w2 ⟨u, D, z, rfl, hz, hF, hO, h2⟩; have HF := hide hF; have HO := hide hO; have HB2 := hide h2; clear hF hO h2))
  have bw2 : Below w.heap.size w w2 := (unhide HB1).trans ((unhide HB2).mono (unhide HB1).size)
  have HV2 : Hid (∀ W, Below w2.heap.size w2 W → EnvZ W E w.heap.size) := fun W hW => (unhide HV).below (bw2.trans (hW.mono bw2.size))
  have hDl : 2 * D.length ≤ z := by have := fz_len D; rw [(unhide HF).sum] at this; exact this
  have hs2 := bw2.size
  obtain ⟨sb, hsb⟩ : ∃ sb, w2.heap.size = sb := ⟨_, rfl⟩
  have HNW := hide (new_any ((2 * z : Nat) : Int) w2 (by omega) (by omega))
  have HTW : Hid (∀ W, Below w2.heap.size w2 W → Calls Tryz.prog 16 #[u] W fun e w' => ∃ t, e = .returned t ∧ Um.OwnT W.heap.size w' t D ∧ Below W.heap.size W w') := fun W hW => Um.twin_any u D W ((unhide HO).below hW).txs (by omega)
  have HSO : Hid (∀ w3 w4 t, At w3 sb (newS ((2 * z : Nat) : Int)) (fun b => b = sb) → Below w2.heap.size w2 w3 → Below w3.heap.size w3 w4 → Um.OwnT w3.heap.size w4 t D → Calls Tryz.prog 15 #[.pointer (some ⟨sb, 0, none⟩), .int .i64 b, .int .i64 fan, t] w4 fun e w' => ∃ m' n, e = .returned (.tuple #[.int .i64 (n : Nat), .nilIface]) ∧ Sorted (newS ((2 * z : Nat) : Int)) m' n D ∧ Res (fun b => b = sb) w4 sb m' w') := fun w3 w4 t h3 b3 b4 ho => by
    have b34 := b3.trans (b4.mono b3.size)
    refine (sort_ok (unhide HV2 w4 b34) (fun b e => by omega) (by have := b34.size; omega) (h3.kept (fun b q => b4.block b (h3.lt b q)) (fun _ x => x) (fun b q => Nat.lt_of_lt_of_le (h3.lt b q) b4.size)) ho.txs (fun a n c e => ?_) (unhide HF).short hb3 (by omega) hf3 (by omega) rfl ?_ ?_).mono ?_
    · obtain ⟨o1, o2⟩ := own_new ho a n c e
      have := h3.lt sb rfl
      exact ⟨by omega, o2⟩
    · rw [(unhide HF).sum]
      show 0 + 2 * z ≤ (min (max ((2 * z : Nat) : Int) 0) 67108864).toNat
      omega
    · show 0 + 2 * D.length + 1 ≤ 16777216
      omega
    · rintro e w' ⟨m', n, rfl, h1, -, -, -, h2⟩
      exact ⟨m', n, rfl, h1, h2⟩
  rw [hsb] at HNW
  clear hs2
  go_wp2_with fail
  refine (unhide HNW).mono ?_
  rintro e w3 ⟨rfl, h3, b3, hs3⟩
  rw [← hsb] at b3
  have HTW3 := hide (unhide HTW w3 b3)
  have HSO3 : Hid (∀ w4 t, Below w3.heap.size w3 w4 → Um.OwnT w3.heap.size w4 t D → Calls Tryz.prog 15 #[.pointer (some ⟨sb, 0, none⟩), .int .i64 b, .int .i64 fan, t] w4 fun e w' => ∃ m' n, e = .returned (.tuple #[.int .i64 (n : Nat), .nilIface]) ∧ Sorted (newS ((2 * z : Nat) : Int)) m' n D ∧ Res (fun b => b = sb) w4 sb m' w' ∧ Below w2.heap.size w2 w4) := fun w4 t b4 ho => (unhide HSO w3 w4 t h3 b3 b4 ho).mono fun e w' ⟨m', n, q1, q2, q3⟩ => ⟨m', n, q1, q2, q3, b3.trans (b4.mono b3.size)⟩
  clear h3 b3 hs3 HNW HTW HSO
  go_wp2_with fail
  refine (unhide HTW3).mono ?_
  rintro e w4 ⟨t, rfl, ho4, b4⟩
  have HS4 := hide (unhide HSO3 w4 t b4 ho4)
  clear ho4 b4 HTW3 HSO3
  go_wp2_with fail
  refine (unhide HS4).mono ?_
  rintro e w5 ⟨m', n, rfl, hso, r5, b24⟩
  have b5 : Below w2.heap.size w2 w5 := b24.trans (r5.2.below b24.size (fun b e => by omega))
  have hF5 : ∀ b, Up (fun b => b = sb) w4 w5 b → w.heap.size ≤ b := fun b q => by
    have := bw2.size
    have := b24.size
    rcases q with q | q
    · omega
    · omega
  have hm16 : m'.made ≤ 16777216 := hso.ok.made
  have hnm := hso.hi
  have HAT : Hid (∀ W, Below w5.heap.size w5 W → At W sb m' (Up (fun b => b = sb) w4 w5) ∧ EnvR W E w.heap.size ∧ w.heap.size ≤ W.heap.size) := fun W hW => ⟨r5.1.kept (fun b q => hW.block b (r5.1.lt b q)) (fun _ x => x) (fun b q => Nat.lt_of_lt_of_le (r5.1.lt b q) hW.size), (unhide HV2 W (b5.trans (hW.mono b5.size))).toEnvR, by have := bw2.size; have := b5.size; have := hW.size; omega⟩
  obtain ⟨L, hL⟩ : ∃ L, ofS D = L := ⟨_, rfl⟩
  have hLs : ∀ x ∈ L, x.size ≤ 255 := fun x hx => (unhide HF).short x (Sm.ofS_mem.1 (hL ▸ hx))
  have hruns : m'.runs = [⟨n, Um.frs (Um.rl L), true⟩] := by rw [hso.runs, hL]; rfl
  have htot : tot m'.runs = (Um.frs (Um.rl L)).length := by rw [hruns]; simp [tot]
  have hfl : (Um.frs (Um.rl L)).length ≤ 67108864 := by
    have h1 := hso.ok.used
    have h2 := hso.ok.cap
    omega
  have HTX : Hid (∀ W, Below w5.heap.size w5 W → Calls Tryz.prog 18 #[.pointer (some ⟨sb, 0, none⟩), .int .i64 n] W fun e w' => e = .returned (.string (strB (Um.frs (Um.rl L)))) ∧ Below W.heap.size W w') := fun W hW => by
    obtain ⟨a1, a2, a3⟩ := unhide HAT W hW
    have hl := hso.look
    rw [hL] at hl
    exact text_any (n := n) a2 hF5 a3 a1 (by omega) hl
  have HUF : Hid (∀ W, Calls Tryz.prog 17 #[.string (strB (Um.frs (Um.rl L)))] W fun e w' => ∃ r, e = .returned (.tuple #[r, .int .i64 0]) ∧ Um.Txs w' r L ∧ Below W.heap.size W w') := fun W => unframe_go hLs hfl
  have HHG : Hid (∀ W x, Below w5.heap.size w5 W → x ∈ D → Calls Tryz.prog 19 #[u, .string x] W fun e w' => e = .returned (.bool true) ∧ w' = W) := fun W x hW hx => has_yes ((unhide HO).below (b5.trans (hW.mono b5.size))).txs (by omega) hx
  have HLV : Hid (∀ W, Below w5.heap.size w5 W → Calls Tryz.prog 20 #[.pointer (some ⟨sb, 0, none⟩)] W fun e w' => ∃ g c, e = .returned (.slice (some ⟨g, 0, none⟩) 1 c) ∧ w'.cell? ⟨g, 0, none⟩ = some (.int .i64 (n : Int)) ∧ Below W.heap.size W w') := fun W hW => by
    obtain ⟨a1, a2, a3⟩ := unhide HAT W hW
    refine (live_any a1).mono ?_
    rw [hruns]
    rintro e w' ⟨lv, rfl, ho, hb⟩
    have ho' : w'.ownsRow W.heap.size 3 1 lv 1 [.int .i64 (n : Int)] := ho
    rcases ho'.2 with ⟨_, e⟩ | ⟨g, c, cur, e, _⟩
    · omega
    · subst e
      refine ⟨g, c, rfl, ?_, hb⟩
      have := World.ownsRow.cellAt ho' 0 (by decide)
      simpa using this
  have HUS : Hid (∀ W, Below w5.heap.size w5 W → Calls Tryz.prog 21 #[.pointer (some ⟨sb, 0, none⟩)] W fun e w' => e = .returned (.int .i64 ((Um.frs (Um.rl L)).length : Nat)) ∧ w' = W) := fun W hW => by
    have q := used_any (unhide HAT W hW).1
    rw [htot] at q
    exact q
  have HPK : Hid (∀ W, Below w5.heap.size w5 W → Calls Tryz.prog 22 #[.pointer (some ⟨sb, 0, none⟩)] W fun e w' => e = .returned (.int .i64 m'.peak) ∧ w' = W) := fun W hW => peak_any (unhide HAT W hW).1
  have hpk : m'.peak ≤ 2 * z := by
    have h1 := hso.ok.peakle
    rw [hso.cap] at h1
    have h2 : (newS ((2 * z : Nat) : Int)).cap = 2 * z := by show (min (max ((2 * z : Nat) : Int) 0) 67108864).toNat = 2 * z; omega
    omega
  have HMM : Hid (∀ x, x ∈ L ↔ x ∈ D) := fun x => by rw [← hL]; exact Sm.ofS_mem
  have HRS : Hid (Sm.Rs L) := by rw [← hL]; exact Sm.ofS_rs D
  have HB5 := hide (bw2.trans (b5.mono bw2.size))
  have HB25 := hide b5
  have hLl : L.length ≤ 67108864 := by
    have h1 : L.length ≤ D.length := by rw [← hL]; exact Sm.ofS_len D
    omega
  clear hso r5 b24 b5 hF5 HAT hruns htot hL hLs hnm hm16 HS4 HV2 HV HWK HFI bw2
  have hSl : (strB (Um.frs (Um.rl L))).size = (Um.frs (Um.rl L)).length := strB_sz _
  obtain ⟨S, hS⟩ : ∃ S, strB (Um.frs (Um.rl L)) = S := ⟨_, rfl⟩
  obtain ⟨N5, hN5⟩ : ∃ N5, (Um.frs (Um.rl L)).length = N5 := ⟨_, rfl⟩
  rw [hS] at HTX HUF hSl
  rw [hN5] at HUS hSl hfl
  have HT5 := hide (unhide HTX w5 (Below.refl _ _))
  clear hS hN5
  go_wp2_with fail
  refine (unhide HT5).mono ?_
  rintro e w6 ⟨rfl, b6⟩
  have HU6 := hide (unhide HUF w6)
  have HB6 := hide b6
  clear b6 HT5
  go_wp2_with fail
  refine (unhide HU6).mono ?_
  rintro e w7 ⟨r, rfl, hT7, b7⟩
  have b57 : Below w5.heap.size w5 w7 := (unhide HB6).trans (b7.mono (unhide HB6).size)
  have HB7 := hide b57
  have HHR : Hid (∀ x, x ∈ L → Calls Tryz.prog 19 #[r, .string x] w7 fun e w' => e = .returned (.bool true) ∧ w' = w7) := fun x hx => has_yes hT7 (by omega) hx
  have HHG7 : Hid (∀ x, x ∈ D → Calls Tryz.prog 19 #[u, .string x] w7 fun e w' => e = .returned (.bool true) ∧ w' = w7) := fun x hx => unhide HHG w7 x b57 hx
  have hO7 := ((unhide HO).below ((unhide HB25).trans (b57.mono (unhide HB25).size))).txs
  obtain ⟨au, cu, rfl, -, -, hu7⟩ := hO7
  have HU7 := hide hu7
  clear hu7
  obtain ⟨ar, cr, rfl, -, -, hr7⟩ := hT7
  have HR7 := hide hr7
  obtain ⟨N, hN⟩ : ∃ N, L.length = N := ⟨_, rfl⟩
  rw [hN] at HHR hLl HR7 ⊢
  have HN := hide hN
  clear b7 b57 hr7 hN HU6 HHG HUF
  go_wp2
  go_loopw [59] (fun s59 wr => ∃ k : Nat, s59 = .int .i64 (k : Int) ∧ k ≤ N ∧ wr = w7) (fun s59 _ => N - (intOf s59).toNat)
  case atStart => exact ⟨0, rfl, Nat.zero_le _, rfl⟩
  case round =>
    obtain ⟨k, rfl, hk, rfl⟩ := hrel
    by_cases hkn : k < N
    · have hltz : (k : Int) < (N : Int) := by omega
      have hk0 : 0 ≤ (k : Int) := by omega
      obtain ⟨g, off, rfl, hg, hc⟩ := unhide HR7 (by omega)
      obtain ⟨x, hx⟩ : ∃ x, L[k]? = some x := ⟨_, List.getElem?_eq_getElem (by rw [unhide HN]; exact hkn)⟩
      have x0 := hc k x hx
      have HH := hide (unhide HHG7 x ((unhide HMM x).1 (List.mem_of_getElem? hx)))
      by_cases hk1 : 0 < k
      · have hkz : (0 : Int) < (k : Int) := by omega
        obtain ⟨i, hi⟩ : ∃ i, i = k - 1 := ⟨_, rfl⟩
        have hik : (k : Int) - 1 = (i : Int) := by omega
        have hin : i < N := by omega
        have hi0 : 0 ≤ (i : Int) := by omega
        have hin2 : (i : Int) < (N : Int) := by omega
        obtain ⟨y, hy⟩ : ∃ y, L[i]? = some y := ⟨_, List.getElem?_eq_getElem (by rw [unhide HN]; exact hin)⟩
        have y0 := hc i y hy
        have hlt : Sm.lt y x = true := by
          obtain ⟨l1, e1⟩ := List.getElem?_eq_some_iff.1 hy
          obtain ⟨l2, e2⟩ := List.getElem?_eq_some_iff.1 hx
          have := List.pairwise_iff_getElem.1 (unhide HRS) i k l1 l2 (by omega)
          rw [e1, e2] at this
          exact this
        have f1 : Op.bytesLess y.toList x.toList = true := hlt
        have f2 : Op.bytesLess x.toList y.toList = false := Sm.lt_asym hlt
        have f3 : (y.toList == x.toList) = false := by
          cases q : (y.toList == x.toList) with
          | false => rfl
          | true => exact absurd (Sm.tx_beq.1 q) (Sm.lt_ne hlt)
        clear hc hx hy hi hlt hk1
        go_wp2_with (go_at_call 19; refine (unhide HH).mono ?_; rintro e w8 ⟨rfl, hw8⟩; have hw9 := hw8.symm; subst hw9; clear hw8)
        go_roundw
        case rel => exact ⟨k + 1, by simp, by omega, trivial⟩
        case measure => simp [intOf]; omega
      · have hkz : ¬ (0 : Int) < (k : Int) := by omega
        clear hc hx hk1
        go_wp2_with (go_at_call 19; refine (unhide HH).mono ?_; rintro e w8 ⟨rfl, hw8⟩; have hw9 := hw8.symm; subst hw9; clear hw8)
        go_roundw
        case rel => exact ⟨k + 1, by simp, by omega, trivial⟩
        case measure => simp [intOf]; omega
    · have hkk : k = N := by omega
      clear hk hkk
      obtain ⟨M, hM⟩ : ∃ M, D.length = M := ⟨_, rfl⟩
      have HMD := hide hM
      rw [hM] at hDl HHG7 HU7 ⊢
      clear hM HR7
      go_wp2
      go_loopw [84] (fun s84 wr2 => ∃ k : Nat, s84 = .int .i64 (k : Int) ∧ k ≤ M ∧ wr2 = wr) (fun s84 _ => M - (intOf s84).toNat)
      case atStart => exact ⟨0, rfl, Nat.zero_le _, rfl⟩
      case round =>
        obtain ⟨k2, rfl, hk2, rfl⟩ := hrel
        by_cases hkn2 : k2 < M
        · have hltz : (k2 : Int) < (M : Int) := by omega
          have hk0 : 0 ≤ (k2 : Int) := by omega
          obtain ⟨g, off, rfl, hg, hc⟩ := unhide HU7 (by omega)
          obtain ⟨x, hx⟩ : ∃ x, D[k2]? = some x := ⟨_, List.getElem?_eq_getElem (by rw [unhide HMD]; exact hkn2)⟩
          have x0 := hc k2 x hx
          have HH := hide (unhide HHR x ((unhide HMM x).2 (List.mem_of_getElem? hx)))
          clear hc hx
          go_wp2_with (go_at_call 19; refine (unhide HH).mono ?_; rintro e w8 ⟨rfl, hw8⟩; have hw9 := hw8.symm; subst hw9; clear hw8)
          go_roundw
          case rel => exact ⟨k2 + 1, by simp, by omega, trivial⟩
          case measure => simp [intOf]; omega
        · clear hk2 HU7 HHR HHG7
          have HL := hide (unhide HLV _ (unhide HB7))
          have HON : Hid (∀ w8, Below wr.heap.size wr w8 → Below w5.heap.size w5 w8) := fun w8 h => (unhide HB7).trans (h.mono (unhide HB7).size)
          have hpz : (m'.peak : Int) ≤ 2 * (z : Int) := by omega
          go_wp2_with (first
            | (go_at_call 20; refine (unhide HL).mono ?_; rintro e w8 ⟨g8, c8, rfl, k8, b8⟩; have HB8 := hide (unhide HON w8 b8); have HU8 := hide (unhide HUS w8 (unhide HON w8 b8)); have HT8 := hide (unhide HTX w8 (unhide HON w8 b8)); clear b8 HL)
            | (go_at_call 21; refine (unhide HU8).mono ?_; rintro e w8' ⟨rfl, hw8⟩; have hw9 := hw8.symm; subst hw9; clear hw8)
            | (go_at_call 18; refine (unhide HT8).mono ?_; rintro e w9 ⟨rfl, b9⟩; have HB9 := hide ((unhide HB8).trans (b9.mono (unhide HB8).size)); have HP9 := hide (unhide HPK w9 (unhide HB9)); clear b9)
            | (go_at_call 22; refine (unhide HP9).mono ?_; rintro e w9' ⟨rfl, hw8⟩; have hw9 := hw8.symm; subst hw9; clear hw8))
          go_ret
          exact ⟨by simp, (unhide HB5).trans ((unhide HB9).mono (unhide HB5).size)⟩
end Rs
end Go.Proofs.YtohfhkdhccpoaaaGreatDoor
