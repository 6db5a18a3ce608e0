/- Layer 9: the laws' own fit, text, ints. -/
import Derived.Test.YtbapnoafjcipjaaGreatDoorFn
import Derived.Test.YtbapnoafjcipjaaGreatDoorUt
import Derived.BigQuiet
namespace Go.Proofs.YtbapnoafjcipjaaGreatDoor
open Go.RowKit
namespace Rs
open Sm (Tx ofS)
/-- what fits: short texts, with their sizes' sum -/
structure Fit (D : List Tx) (z : Nat) : Prop where
  short : ∀ x ∈ D, x.size ≤ 255
  sum : fz D = z
theorem Fit.push {D : List Tx} {z : Nat} {x : Tx} (h : Fit D z) (hx : x.size ≤ 255) : Fit (D ++ [x]) (z + (x.size + 2)) := by
  refine ⟨fun y hy => ?_, ?_⟩
  · rcases List.mem_append.1 hy with hy | hy
    · exact h.short y hy
    · rw [List.mem_singleton.1 hy]; exact hx
  · rw [fz_app, h.sum, fz_cons, fz_nil]
set_option maxRecDepth 100000 in
set_option maxHeartbeats 2000000 in
theorem fit_any {w : World} {v : Value} {L : List Tx} (hT : Um.Txs w v L) (hn : L.length ≤ 9223372036854775807) :
    Calls Tryz.prog 10 #[v] w fun e w' => ∃ u D z, e = .returned (.tuple #[u, .int .i64 (z : Nat)]) ∧ z ≤ 1048832 ∧ Fit D z ∧ Um.OwnT w.heap.size w' u D ∧ Below w.heap.size w w' := by
  obtain ⟨i0, hi, hz0, hz1, hz2⟩ := Um.info_parts Um.infoT
  obtain ⟨ao, cap, rfl, hcap, hnn, hat⟩ := hT
  have HAT := hide hat
  obtain ⟨N, hN⟩ : ∃ N, N = L.length := ⟨_, rfl⟩
  have HN := hide hN
  rw [← hN] at hn hcap ⊢
  clear hat hN hnn
  go_enter Tryz.func10, Tryz.ntmps10
  go_wp2
  go_loopw [4, 5, 10] (fun s4 s5 s10 wr => ∃ (k z : Nat) (u : Value) (D : List Tx), u = s4 ∧ s5 = .int .i64 z ∧ s10 = .int .i64 k ∧ k ≤ N ∧ z ≤ 1048832 ∧ 2 * D.length ≤ z ∧ Hid (Fit D z) ∧ Hid (Um.OwnT w.heap.size wr u D) ∧ Hid (Below w.heap.size w wr)) (fun _ _ k _ => N - (intOf k).toNat)
  case atStart => exact ⟨0, 0, _, [], rfl, rfl, rfl, Nat.zero_le _, by omega, by simp, ⟨by simp, rfl⟩, Um.ownT_nil _ _, Below.refl _ _⟩
  case round =>
    obtain ⟨k, z, u, D, rfl, rfl, rfl, hk, hz, hD, HFT, HO, HBr⟩ := hrel
    by_cases hlt : k < N
    · have hltz : (k : Int) < (N : Int) := by omega
      have hk0 : 0 ≤ (k : Int) := by omega
      have hltN : k < L.length := by rw [← unhide HN]; exact hlt
      obtain ⟨x, hx⟩ : ∃ x, L[k]? = some x := ⟨_, List.getElem?_eq_getElem hltN⟩
      obtain ⟨g, off, rfl, hg, hc⟩ := unhide HAT (by omega)
      have hcx : wr.cell? ⟨g, off + k, none⟩ = some (.string x) := ((unhide HBr).cell (p := ⟨g, off + k, none⟩) hg).trans (hc k x hx)
      clear hc hx hltN
      by_cases hs : x.size ≤ 255
      · have hsz : (x.size : Int) ≤ 255 := by omega
        by_cases hzz : z < 1048576
        · have hzz2 : (z : Int) < 1048576 := by omega
          have HF2 := hide ((unhide HFT).push hs)
          go_wp2_with (at_builtin; refine wpList_append_own _ rfl _ _ 33 rfl w.heap.size 9 i0 (.string ByteArray.empty) 1 16 Tryz.underlying33 hi hz0 hz1 hz2 rfl (by decide) _ _ _ rfl ((unhide HO).below ((Below.refl _ _).alloc (Nat.le_refl _) _)) ⟨wr.heap.size, 0, none⟩ 1 1 [.string x] rfl rfl (Um.new_cells _ #[.string x] _) (by simp [Value.oneCell']) (by unfold maxLen; omega) (by omega) (by have := (unhide HBr).size; simp; omega) ?_; intro v' w2 hown' hgrow hnil; clear hnil; have HO2 := hide (Um.ownT_push hown'); have HB2 := hide (Um.push1 (unhide HO) (unhide HBr) (Nat.le_refl _) hgrow); clear hown' hgrow)
          go_roundw
          case rel => exact ⟨k + 1, z + (x.size + 2), v', D ++ [x], rfl, by go_num, by go_num, by omega, by omega, by simp only [List.length_append, List.length_cons, List.length_nil]; omega, HF2, HO2, HB2⟩
          case measure => simp [intOf]; omega
        · have hzz2 : ¬ (z : Int) < 1048576 := by omega
          go_wp2
          go_roundw
          case rel => exact ⟨k + 1, z, _, D, rfl, rfl, by go_num, by omega, by omega, hD, HFT, HO, HBr⟩
          case measure => simp [intOf]; omega
      · have hsz : ¬ (x.size : Int) ≤ 255 := by omega
        go_wp2
        go_roundw
        case rel => exact ⟨k + 1, z, _, D, rfl, rfl, by go_num, by omega, by omega, hD, HFT, HO, HBr⟩
        case measure => simp [intOf]; omega
    · have hltz : ¬ (k : Int) < (N : Int) := by omega
      obtain ⟨a2, c2, rfl⟩ := own_slice (unhide HO)
      go_wp2
      go_ret2
      exact ⟨_, D, z, rfl, by omega, unhide HFT, unhide HO, unhide HBr⟩
set_option maxRecDepth 100000 in
theorem text_any {w : World} {E : Nat → Addr} {B sb n : Nat} {m : Sto} {F : Nat → Prop} {T : List UInt8} (V : EnvR w E B) (hF : ∀ b, F b → B ≤ b) (hB : B ≤ w.heap.size) (h : At w sb m F) (hn : n ≤ 16777216) (hl : look m.runs n = some ⟨n, T, true⟩) :
    Calls Tryz.prog 25 #[.pointer (some ⟨sb, 0, none⟩), .int .i64 n] w fun e w' => e = .returned (.string (strB T)) ∧ Below w.heap.size w w' := by
  have hT : T.length ≤ 67108864 := by
    have h1 := tot_mem (look_mem hl).1
    have h2 := h.ok.used
    have h3 := h.ok.cap
    simp only at h1
    omega
  have HSZ : Hid (Calls Tryz.prog 39 #[.pointer (some ⟨sb, 0, none⟩), .int .i64 n] w fun e w' => e = .returned (.tuple #[.int .i64 T.length, .nilIface]) ∧ Below w.heap.size w w') := by
    have q := size_any (k := (n : Int)) h (V.gs hF) (by omega) (by omega)
    rw [show siz m n = ((T.length : Int), 0) by unfold siz; rw [hl]] at q
    exact q
  have HRD : Hid (∀ W, Below w.heap.size w W → Calls Tryz.prog 40 #[.pointer (some ⟨sb, 0, none⟩), .int .i64 n, .int .i64 0, .int .i64 T.length] W fun e w' => e = .returned (.tuple #[.string (strB T), .nilIface]) ∧ Below w.heap.size w w') := fun W hW => by
    have q := read_any (k := (n : Int)) (a := 0) (n := (T.length : Int)) (h.kept (w' := W) (fun b hb => hW.block b (h.lt b hb)) (fun _ x => x) (fun b hb => Nat.lt_of_lt_of_le (h.lt b hb) hW.size)) (V.below (hW.mono hB)) hF (by omega) (by omega) (by omega) (by omega)
    have e : rea m n 0 (T.length : Int) = (T, 0) := by
      unfold rea
      rw [hl]
      simp only [if_true]
      rw [if_neg (by omega)]
      simp
    rw [e] at q
    exact q.mono fun e w' hh => ⟨hh.1, hW.trans (hh.2.mono hW.size)⟩
  clear V hF h hl
  go_enter Tryz.func25, Tryz.ntmps25
  go_wp2_with (first
    | (go_at_call 39; refine (unhide HSZ).mono ?_; rintro e w1 ⟨rfl, h1⟩; have H1 := hide h1; clear h1)
    | (go_at_call 40; refine (unhide HRD _ (unhide H1)).mono ?_; rintro e w2 ⟨rfl, h2⟩; have H2 := hide h2; clear h2))
  go_ret
  exact ⟨rfl, unhide H2⟩
/-- a list of numbers in memory -/
def NAt (w : World) (v : Value) (l : List Nat) : Prop := ∃ ao c, v = .slice ao l.length c ∧ (0 < l.length → ∃ g off, ao = some ⟨g, off, none⟩ ∧ g < w.heap.size ∧ ∀ (j n : Nat), l[j]? = some n → w.cell? ⟨g, off + j, none⟩ = some (.int .i64 n))
theorem nat_of {w : World} {v : Value} {l : List Nat} (h : w.ownsRow 0 3 1 v l.length (nts l)) : NAt w v l := by
  rcases h.2 with ⟨e1, e2⟩ | ⟨g, cap, cur, e1, hb⟩
  · exact ⟨none, 0, by rw [e1, e2], fun h => by omega⟩
  · subst e1
    refine ⟨_, _, rfl, fun _ => ⟨g, 0, rfl, (own_lt h rfl).2, fun j n hj => ?_⟩⟩
    rw [Nat.zero_add]
    exact nums_cell h hj
theorem NAt.below {w w' : World} {v : Value} {l : List Nat} (h : NAt w v l) (hb : Below w.heap.size w w') : NAt w' v l := by
  obtain ⟨ao, c, e, h⟩ := h
  refine ⟨ao, c, e, fun h0 => ?_⟩
  obtain ⟨g, off, e1, hg, hc⟩ := h h0
  exact ⟨g, off, e1, Nat.lt_of_lt_of_le hg hb.size, fun j n hj => (hb.cell (p := ⟨g, off + j, none⟩) hg).trans (hc j n hj)⟩
set_option maxRecDepth 100000 in
set_option maxHeartbeats 1000000 in
theorem ints_any {w : World} {v u : Value} {l : List Nat} (hv : NAt w v l) (hu : NAt w u l) (hn : l.length ≤ 9223372036854775806) :
    Calls Tryz.prog 24 #[v, u] w fun e w' => e = .returned (.bool true) ∧ Below w.heap.size w w' := by
  obtain ⟨ao, c, rfl, hv⟩ := hv
  obtain ⟨bo, d, rfl, hu⟩ := hu
  have HV := hide hv
  have HU := hide hu
  generalize hN : l.length = N at *
  have HN := hide hN
  clear hv hu hN
  go_enter Tryz.func24, Tryz.ntmps24
  go_wp2
  go_loopw [13] (fun s13 wr => ∃ k : Nat, s13 = .int .i64 k ∧ k ≤ N ∧ Hid (Below w.heap.size w wr)) (fun s13 _ => N - (intOf s13).toNat)
  case atStart => exact ⟨0, rfl, Nat.zero_le _, Below.refl _ _⟩
  case round =>
    obtain ⟨k, rfl, hk, HB⟩ := hrel
    by_cases hlt : k < N
    · have hltz : (k : Int) < (N : Int) := by omega
      have hk0 : 0 ≤ (k : Int) := by omega
      obtain ⟨n, hx⟩ : ∃ n, l[k]? = some n := ⟨_, List.getElem?_eq_getElem (by rw [unhide HN]; exact hlt)⟩
      obtain ⟨g, off, rfl, hg, hc⟩ := unhide HV (by omega)
      obtain ⟨g2, off2, rfl, hg2, hc2⟩ := unhide HU (by omega)
      have hcx : wr.cell? ⟨g, off + k, none⟩ = some (.int .i64 n) := ((unhide HB).cell (p := ⟨g, off + k, none⟩) hg).trans (hc k n hx)
      have hcy : wr.cell? ⟨g2, off2 + k, none⟩ = some (.int .i64 n) := ((unhide HB).cell (p := ⟨g2, off2 + k, none⟩) hg2).trans (hc2 k n hx)
      clear hc hc2 hx
      go_wp2
      go_quiet (fail)
      have HB2 : Hid (Below w.heap.size w (wr.drewN nq)) := (unhide HB).trans ((drewN_below wr nq).mono (unhide HB).size)
      go_wp2
      go_roundw
      case rel => exact ⟨k + 1, by go_num, by omega, HB2⟩
      case measure => simp [intOf]; omega
    · have hltz : ¬ (k : Int) < (N : Int) := by omega
      go_wp2
      go_ret
      exact ⟨rfl, unhide HB⟩
end Rs
end Go.Proofs.YtbapnoafjcipjaaGreatDoor
