/- CondReads of layer 4 returns true for every text: Read, Len and Admits answer as the document's own do. -/
import Derived.Test.YtgaagbjbolfbjaaAdX
import Derived.Test.YtgaagbjbolfbjaaRows
import Derived.WalkKit
import Derived.ProofKit
import Derived.OpenShut
import Derived.Deep.DeepHandedRow
import Derived.Lib.LaidTab
namespace Go.Proofs.Ytgaagbjbolfbjaa.condReads
open Go.ChangeShapes Go.WideShapes Go.ChangeAt Go.RowKit
open Go.ChangeMaps (open_string shut_string)

theorem own : ownKnob Try.prog.godebug = none := by kernel_rfl

open Pt Cd
attribute [local go_sem ↓] Pt.load_as
attribute [local go_sem] Pt.ldP_new Pt.ldP_drew
theorem bt_z {k : Nat} (h : k < 256) : ((bt k).toNat : Int) = (k : Int) := by rw [bt_toNat]; omega
theorem wrap_u8 {k : Nat} (h : k < 256) : IntKind.u8.wrap (k : Int) = (k : Int) := by rw [IntKind.wrap_u8]; omega
theorem map_get {P : List (List UInt8)} {i : Nat} (h : i < P.length) : (P.map adm)[i]'(by simpa using h) = adm P[i] := by simp
theorem keep3 (W : World) (a b c : Obj) : Below W.heap.size W (((W.alloc a).alloc b).alloc c).drew :=
  ((((Below.refl _ W).alloc (Nat.le_refl _) a).alloc (by simp) b).alloc (by simp <;> omega) c).drew
theorem keep2 (W : World) (a b : Obj) : Below W.heap.size W ((W.alloc a).alloc b) :=
  ((Below.refl _ W).alloc (Nat.le_refl _) a).alloc (by simp) b
set_option maxHeartbeats 2000000 in
set_option maxRecDepth 100000 in
theorem walk (s : ByteArray) (w : World) :
    Calls Try.prog 3 #[.string s] w fun e w' => e = .returned (.bool true) ∧ Below w.heap.size w w' := by
  have HRD : Hid (∀ W, Calls Try.prog 8 #[.string s] W fun e w' => e = .returned (.tuple #[.agg (patC (rdP s.data.toList)), .int .i64 ((rd s.data.toList).2 : Nat)]) ∧ Below W.heap.size W w') := fun W => read_any s W
  have HRF := hide (fun W => refRead_any s W)
  obtain ⟨n, hn⟩ : ∃ n, n = (rd s.data.toList).1.length := ⟨_, rfl⟩
  have hpl : (rdP s.data.toList).length = n := by rw [rdP, List.length_map, hn]
  have HLN : Hid (∀ W, Calls Try.prog 11 #[.agg (patC (rdP s.data.toList))] W fun e w' => e = .returned (.int .i64 n) ∧ Below W.heap.size W w') := fun W => by
    have := len_any (rdP s.data.toList) W
    rw [hpl] at this
    exact this
  have h16 : n ≤ 16 := by rw [hn]; exact rd_len _
  have HA1 : Hid (∀ k W, k < 256 → Calls Try.prog 12 #[.agg (patC (rdP s.data.toList)), .int .i64 (-1), .int .u8 (k : Nat)] W fun e w' => e = .returned (.bool false) ∧ w' = W.alloc (.cells (patC (rdP s.data.toList)) 27)) := fun k W hk => by
    have := admitsX_none (rdP s.data.toList) (-1) (bt k) W (by decide) (by decide) (.inl (by decide))
    rw [bt_z hk] at this
    exact this
  have HA2 : Hid (∀ k W, k < 256 → Calls Try.prog 12 #[.agg (patC (rdP s.data.toList)), .int .i64 n, .int .u8 (k : Nat)] W fun e w' => e = .returned (.bool false) ∧ w' = W.alloc (.cells (patC (rdP s.data.toList)) 27)) := fun k W hk => by
    have := admitsX_none (rdP s.data.toList) n (bt k) W (by omega) (by omega) (.inr (by rw [hpl]; omega))
    rw [bt_z hk] at this
    exact this
  have HPC : Hid (∀ k i, k < 256 → i < n → ∃ (p : List UInt8) (B : Bool) (o : Obj), (rd s.data.toList).1[i]? = some p ∧ (∀ W, Calls Try.prog 12 #[.agg (patC (rdP s.data.toList)), .int .i64 i, .int .u8 (k : Nat)] W fun e w' => e = .returned (.bool B) ∧ w' = (W.alloc (.cells (patC (rdP s.data.toList)) 27)).alloc o) ∧ (∀ W, Calls Try.prog 13 #[.agg #[.string (str p)], .int .u8 (k : Nat)] W fun e w' => e = .returned (.bool B) ∧ w' = W.alloc (.cells #[.string (str p)] 39))) := fun k i hk hi => by
    have hi2 : i < (rd s.data.toList).1.length := by omega
    refine ⟨(rd s.data.toList).1[i], adm (rd s.data.toList).1[i] (bt k), .cells (itC (adm (rd s.data.toList).1[i])) 24, List.getElem?_eq_getElem hi2, fun W => ?_, fun W => ?_⟩
    · have := admitsX_some (rdP s.data.toList) i (bt k) W (by omega) (by omega)
      rw [bt_z hk] at this
      have e : (rdP s.data.toList)[i]'(by omega) = adm (rd s.data.toList).1[i] := map_get hi2
      rw [e] at this
      exact this
    · have := refAdmits_any (rd s.data.toList).1[i] (bt k) W (rd_pcs _ _ (List.getElem_mem _))
      rw [bt_z hk] at this
      exact this
  have hX := sz_pat s.data.toList
  have hstn := fun W => store_new W _ hX (patC_one _)
  have hz := zero_pat
  have hnz : (n : Int) ≤ 16 := by omega
  clear hpl
  generalize patC (rdP s.data.toList) = X at *
  generalize patC [] = Z at *
  generalize rd s.data.toList = R at *
  go_enter Try.func3, Try.ntmps3
  go_wp2_with fail
  refine (unhide HRD _).mono ?_
  rintro e w1 ⟨rfl, hb1⟩
  have HB1 := hide hb1
  clear hb1
  go_wp2_with fail
  refine (unhide HRF _).mono ?_
  rintro e w2 ⟨v, rfl, hp2, hb2⟩
  have HG2 := hide (keep_pat (heap_alloc_last w1 (.cells X 27)) hb2)
  have HT2 := hide hp2.at
  obtain ⟨a, cap, rfl⟩ := texts_slice (unhide HT2)
  have HB2 := hide hb2
  clear hp2 hb2
  go_wp2_with fail
  refine (wakes_any _).mono ?_
  rintro e w3 ⟨rfl, hb3⟩
  have HG3 := hide (keep_pat (unhide HG2) hb3)
  have hld3 := ldP_row (unhide HG3) hX
  have HT3 := hide ((unhide HT2).below hb3)
  have HB3 := hide hb3
  clear hb3
  rw [← hn] at *
  have HNN := hide hn
  clear hn
  go_wp2_with fail
  refine (unhide HLN _).mono ?_
  rintro e w4 ⟨rfl, hb4⟩
  have HG4 := hide (keep_pat (unhide HG3) hb4)
  have HT4 := hide ((unhide HT3).below hb4)
  have HB4 : Hid (Below w.heap.size w w4) := hide (by
    have b1 := unhide HB1
    have b2 := (b1.alloc b1.size (.cells X 27)).trans ((unhide HB2).mono (by have := b1.size; simp; omega))
    have b3 := b2.trans ((unhide HB3).mono b2.size)
    exact b3.trans (hb4.mono b3.size))
  clear hb4 hld3 HB1 HB2 HB3 HG2 HG3 HT2 HT3 HRD HRF HLN
  go_wp2
  go_loopw [33] (fun u wr => ∃ k : Nat, k ≤ 256 ∧ u = .int .i64 k ∧ Hid (wr.heap[w1.heap.size]? = some (.cells X 27 (0, 0))) ∧ Hid (TextsAt wr (.slice a n cap) R.1) ∧ Hid (Below w.heap.size w wr)) (fun u _ => 256 - (intOf u).toNat)
  case atStart => exact ⟨0, by omega, rfl, HG4, HT4, HB4⟩
  case round =>
    obtain ⟨k, hk, rfl, HG, HT, HB⟩ := hrel
    clear HG4 HT4 HB4
    by_cases hlt : k < 256
    · have hltz : (k : Int) < 256 := by omega
      have hwr := wrap_u8 hlt
      go_wp2
      obtain ⟨V0, hV0⟩ : ∃ V, V = wr := ⟨_, rfl⟩
      subst hV0
      go_loopw [38] (fun u wr => ∃ i : Nat, i ≤ n ∧ u = .int .i64 i ∧ Hid (wr.heap[w1.heap.size]? = some (.cells X 27 (0, 0))) ∧ Hid (TextsAt wr (.slice a n cap) R.1) ∧ Hid (Below w.heap.size w wr)) (fun u _ => n - (intOf u).toNat)
      case atStart => exact ⟨0, by omega, rfl, HG, HT, HB⟩
      case round =>
        obtain ⟨i, hi, rfl, HG5, HT5, HB5⟩ := hrel
        clear HG HT HB
        by_cases hlti : i < n
        · have hltiz : (i : Int) < (n : Int) := by omega
          obtain ⟨p, B, o, hp, hA, hR⟩ := unhide HPC k i hlt hlti
          have HAA := hide hA
          have HRR := hide hR
          obtain ⟨g, ha, hgl, hcell⟩ : ∃ g, a = some ⟨g, 0, none⟩ ∧ g < wr.heap.size ∧ wr.cell? ⟨g, i, none⟩ = some (.string (str p)) := by
            rcases unhide HT5 with ⟨_, e⟩ | ⟨g, c2, e, h2, h3⟩
            · rw [e] at hp; simp at hp
            · injection e with e1 _ _
              exact ⟨g, e1, h2, h3 i p hp⟩
          subst ha
          have hld := ldP_row (unhide HG5) hX
          have hldd := ldP_row (w := wr.drew) (unhide HG5) hX
          clear hA hR hp HPC HA1 HA2
          generalize str p = T at *
          cases B with
          | true =>
            go_wp2
            go_region_with (first | (go_at_call 12; refine (unhide HAA _).mono ?_; rintro e W1 ⟨rfl, rfl⟩) | (go_at_call 13; refine (unhide HRR _).mono ?_; rintro e W2 ⟨rfl, rfl⟩))
            all_goals
              go_wp2
              go_roundw
              case rel => exact ⟨i + 1, by omega, by go_num, keep_pat (unhide HG5) (keep3 _ _ _ _), (unhide HT5).below (keep3 _ _ _ _), (unhide HB5).trans ((keep3 _ _ _ _).mono (unhide HB5).size)⟩
              case measure => simp [intOf]; omega
          | false =>
            go_wp2
            go_region_with (first | (go_at_call 12; refine (unhide HAA _).mono ?_; rintro e W1 ⟨rfl, rfl⟩) | (go_at_call 13; refine (unhide HRR _).mono ?_; rintro e W2 ⟨rfl, rfl⟩))
            all_goals
              go_wp2
              go_roundw
              case rel => exact ⟨i + 1, by omega, by go_num, keep_pat (unhide HG5) (keep3 _ _ _ _), (unhide HT5).below (keep3 _ _ _ _), (unhide HB5).trans ((keep3 _ _ _ _).mono (unhide HB5).size)⟩
              case measure => simp [intOf]; omega
        · have hltiz : ¬ (i : Int) < (n : Int) := by omega
          have hld := ldP_row (unhide HG5) hX
          have hld2 := ldP_row (heap_two (o := .cells X 27) (unhide HG5)) hX
          have HAA := hide (fun W => unhide HA1 k W hlt)
          have HAB := hide (fun W => unhide HA2 k W hlt)
          clear HPC HA1 HA2
          go_wp2_with fail
          refine (unhide HAA _).mono ?_
          rintro e W1 ⟨rfl, rfl⟩
          go_wp2_with fail
          refine (unhide HAB _).mono ?_
          rintro e W2 ⟨rfl, rfl⟩
          go_wp2
          go_roundw
          case rel => exact ⟨k + 1, by omega, by go_num, keep_pat (unhide HG5) (keep2 _ _ _), (unhide HT5).below (keep2 _ _ _), (unhide HB5).trans ((keep2 _ _ _).mono (unhide HB5).size)⟩
          case measure => simp [intOf]; omega
    · have hltz : ¬ (k : Int) < 256 := by omega
      go_wp2
      go_ret
      exact ⟨rfl, unhide HB⟩

set_option maxRecDepth 100000 in
theorem contract (H : Type) (enc : TypeId × Value → H) (W : World) (base : Nat) (args : Array Value) (ds gs : List (DataW H)) (before : List MemPlace)
    (hval : ∀ (j : Nat) t v, Try.f3.params[j]? = some t → args[j]? = some v → Value.okWide Try.prog W .any base t v)
    (hW : DataW.Whole enc Try.prog Try.f3.params.toList Rows.condReadsSpec.vars false W args.toList ds gs before) :
    Calls Try.prog 3 args W fun e W' => ∃ v, e = .returned v ∧ Rows.condReadsSpec.post enc Try.prog Try.f3 false true false false W args v W' := by
  have hW' := hW
  obtain ⟨p, q, hA0, hV, rfl, hfz, hnd⟩ := hW
  have hA : DataW.TrodAll enc Try.prog W 0 (fun _ => true) true Try.f3.params.toList args.toList ds p := hA0
  rw [Try.params3] at hA hval
  obtain ⟨v0, vs0, d0, ds0, p0, q0, hargs, rfl, rfl, h0, r0⟩ := trodAll_cons hA
  obtain ⟨rfl, rfl, rfl⟩ := trodAll_nil r0
  obtain rfl : args = #[v0] := by cases args; simp_all
  obtain ⟨rfl, rfl⟩ := trodVars_none hV
  obtain ⟨s, rfl, rfl, rfl, hs_s⟩ := open_string Try.underlying9 (hval 0 9 v0 rfl rfl) h0
  clear hA0
  simp only [List.append_nil] at hW'
  refine (walk s W).mono fun e W' ⟨he, bel⟩ => ?_
  subst he
  exact ⟨_, rfl, _, _, _, [], [], [], hW', trodAll_mk1 (shut_bool Try.underlying4 _), (trodAll_cons_mk (shut_string Try.underlying9 hs_s) trodAll_mk0), rfl, bel.frame _, fun h => by cases h⟩

theorem laid_met (os : Os) : laidMet Try.prog Rows.condReadsRow.laid ((World.holding Try.prog os ⟨#[], #[], []⟩).forCall (fun _ _ => 0) ⟨#[], #[.string ByteArray.empty], []⟩).memory :=
  laidMet_of_run' 8 (by kernel_rfl) (by kernel_rfl)
theorem reads (os : Os) {H : Type} (enc : TypeId × Value → H) : ∃ places, DataW.whole enc Try.prog ((World.holding Try.prog os ⟨#[], #[], []⟩).forCall (fun _ _ => 0) ⟨#[], #[.string ByteArray.empty], []⟩).memory Try.f3.params.toList Rows.condReadsSpec.vars false #[Value.string ByteArray.empty].toList 8 = some ([.lit (.string [])], [], places) :=
  ⟨[], by kernel_rfl⟩

set_option maxRecDepth 100000 in
theorem lifted (os : Os) (started : os.Started) (H : Type) (enc : TypeId × Value → H) (F : Stop.Interp) :
    ReturnsInHanded {} Try.checked os 3 .any ((OpenSpec.ofChange Rows.condReadsSpec).preRow enc Try.prog Try.f3 Rows.condReadsRow.domain false Rows.condReadsRow.laid) (((OpenSpec.ofChange Rows.condReadsSpec).at F).post enc Try.prog Try.f3 false true false false) := by
  obtain ⟨places, hx⟩ := reads os enc
  refine returnsInHanded_of_row (C := Try.checked) (s := OpenSpec.ofChange Rows.condReadsSpec) own started (by kernel_rfl) Try.func3
    (witness_row_at (enc := enc) (C := Try.checked) false ((World.holding Try.prog os ⟨#[], #[], []⟩)) #[.string ByteArray.empty] rfl (by kernel_rfl) (by kernel_rfl) (by kernel_rfl)
      (OpenSpec.preRow_of_cond 8 hx (by kernel_rfl) (fun k hk => by cases hk) (by kernel_rfl) (laid_met os))) ?_
  intro W base args ds gs before hval hW _ _ _ _ _ _
  exact contract H enc W base args ds gs before hval hW 

theorem said : Rows.CondReadsSaid :=
  OpenClaim.holds_of_cond 3 Try.f3 rfl rfl rfl rfl rfl rfl rfl ⟨rfl, rfl, rfl, rfl, rfl⟩ rfl rfl rfl rfl rfl (by kernel_rfl) Try.func3 (by kernel_rfl)
    (of_decide_eq_true (by kernel_rfl)) (by unfold Func.isWrapper; first | (rw [if_pos (by decide +kernel)]; kernel_rfl) | (rw [if_neg (by decide +kernel)]; exact ⟨rfl, rfl⟩))
    (fun os started H enc _ F => by rw [OpenClaim.pre_eq_preRow]; exact lifted os started H enc F)

end Go.Proofs.Ytgaagbjbolfbjaa.condReads
namespace Go.Proofs.Ytgaagbjbolfbjaa
theorem condReads_holds : Rows.CondReadsSaid := condReads.said
end Go.Proofs.Ytgaagbjbolfbjaa
