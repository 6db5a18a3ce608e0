/- Contract: cond.Join: the items of all patterns, one behind the other, or too many. -/
import Derived.Test.YtgaagbjbolfbjabRtB
namespace Go.Proofs.Ytgaagbjbolfbjab
open Go.RowKit
namespace Pt
open Cd
attribute [local go_sem ↓] load_as

theorem add_at (g o j : Nat) : (⟨g, o, none⟩ : Addr).add j = ⟨g, o + j, none⟩ := by unfold Addr.add; split <;> simp_all
theorem ldP_at {w : World} {g o : Nat} {X : Array Value} (hc : ∀ i u, X[i]? = some u → w.cell? ⟨g, o + i, none⟩ = some u) (h : Sz65 X) : (ldP (.pointer (some ⟨g, o, none⟩))).run Try.prog w = .ok (.agg X) w := by
  have hX : X.size = 65 := h
  have hl := run_loadCells_list (P := Try.prog) w ⟨g, o, none⟩ X.toList (fun j v hv => by rw [add_at]; exact hc j v (by rw [← Array.getElem?_toList]; exact hv))
  rw [Array.length_toList, hX, Array.toArray_toList] at hl
  obtain ⟨i, hq, hi⟩ := Option.map_eq_some_iff.1 infoP
  simp [ldP, Instr.loadAt, Instr.sureAddr, loadVar, Sem.run_bind, Try.isAgg31, sizeOf, typeInfo, hq, hi, hl]
/-- patterns in memory -/
def PatsAt (W : World) (v : Value) (Fs : List (List (UInt8 → Bool))) : Prop :=
  ∃ a cap, v = .slice a Fs.length cap ∧ (0 < Fs.length → ∃ g, a = some ⟨g, 0, none⟩ ∧ g < W.heap.size ∧ ∀ j fs, Fs[j]? = some fs → ∀ i u, (patC fs)[i]? = some u → W.cell? ⟨g, j * 65 + i, none⟩ = some u)
theorem PatsAt.below {W W' : World} {v : Value} {Fs : List (List (UInt8 → Bool))} (h : PatsAt W v Fs) (hb : Below W.heap.size W W') : PatsAt W' v Fs := by
  obtain ⟨a, cap, h1, h2⟩ := h
  refine ⟨a, cap, h1, fun h0 => ?_⟩
  obtain ⟨g, h3, h4, h5⟩ := h2 h0
  exact ⟨g, h3, Nat.lt_of_lt_of_le h4 hb.size, fun j fs hj i u hu => (hb.cell (p := ⟨g, j * 65 + i, none⟩) h4).trans (h5 j fs hj i u hu)⟩
theorem flat_take {Fs : List (List (UInt8 → Bool))} {k : Nat} {fs : List (UInt8 → Bool)} (h : Fs[k]? = some fs) : (Fs.take (k + 1)).flatten = (Fs.take k).flatten ++ fs := by
  have hk := (List.getElem?_eq_some_iff.1 h).1
  rw [List.take_succ_eq_append_getElem hk, List.flatten_append]
  have : Fs[k] = fs := (List.getElem?_eq_some_iff.1 h).2
  simp [this]
theorem flat_le (Fs : List (List (UInt8 → Bool))) (k : Nat) : (Fs.take k).flatten.length ≤ Fs.flatten.length := by
  have e := congrArg List.flatten (List.take_append_drop k Fs)
  rw [List.flatten_append] at e
  rw [← e, List.length_append]
  omega
/-- the items' cells in a pattern that lies in the last block -/
theorem pat_news (W : World) (fs : List (UInt8 → Bool)) : ∀ j u, (flatC fs)[j]? = some u → (W.alloc (.cells (patC fs) 31)).cell? ((⟨W.heap.size, 1, none⟩ : Addr).add j) = some u := by
  intro j u hu
  rw [add_at, cell_of_row _ _ (1 + j) (patC fs) _ (0, 0) (heap_alloc_last W _)]
  have hlt := (List.getElem?_eq_some_iff.1 hu).1
  unfold patC
  rw [List.getElem?_toArray, Nat.add_comm 1, List.getElem?_cons_succ, List.getElem?_append_left hlt, hu]
theorem flatC_app (a b : List (UInt8 → Bool)) : flatC (a ++ b) = flatC a ++ flatC b := by simp [flatC]
/-- what Join answers -/
def joV (fs : List (UInt8 → Bool)) : Value := if 16 < fs.length then .tuple #[.agg (patC []), .int .i64 42] else .tuple #[.agg (patC fs), .int .i64 0]
theorem items_any (v : Value) (fs : List (UInt8 → Bool)) (w : World) (hv : ItemsAt w v fs) :
    Calls Try.prog 16 #[v] w fun e w' => ∃ C n, e = .returned (.tuple #[.agg C, .int .i64 n]) ∧ .tuple #[.agg C, .int .i64 n] = joV fs ∧ C.size = 65 ∧ C.all (·.oneCell') = true ∧ Below w.heap.size w w' := by
  by_cases h3 : fs.length ≤ 16
  · refine (patternOf_few v fs w h3 hv).mono ?_
    rintro e w' ⟨rfl, hb⟩
    exact ⟨_, _, rfl, by rw [joV, if_neg (by omega)], patC_size _ h3, patC_one _, hb⟩
  · have hsl : ∃ a cap, v = .slice a fs.length cap := by
      rcases hv with ⟨rfl, rfl⟩ | ⟨g, cap, rfl, _⟩
      · exact ⟨none, 0, rfl⟩
      · exact ⟨_, cap, rfl⟩
    obtain ⟨a, cap, e⟩ := hsl
    refine (patternOf_many v fs.length cap a w (by omega) e).mono ?_
    rintro e w' ⟨rfl, hb⟩
    exact ⟨_, _, rfl, by rw [joV, if_pos (by omega)], patC_size [] (by decide), patC_one _, hb⟩
theorem joV_more {a b : List (UInt8 → Bool)} (h : 16 < a.length) (h2 : a.length ≤ b.length) : joV a = joV b := by
  rw [joV, joV, if_pos h, if_pos (by omega)]
theorem owns_slice {W : World} {b e size n : Nat} {v : Value} {xs : List Value} (h : W.ownsRow b e size v n xs) : ∃ a cap, v = .slice a n cap := by
  obtain ⟨_, ⟨e, e2⟩ | ⟨g, cap, cur, e, _⟩⟩ := h
  · exact ⟨none, 0, by rw [e, e2]⟩
  · exact ⟨_, cap, e⟩
theorem push_one {B : Nat} {wr w2 : World} {A : Obj} {v : Value} {e size n : Nat} {xs : List Value} (hB : B ≤ wr.heap.size) (ho : wr.ownsRow B e size v n xs) (hg : (wr.alloc A).grownBy w2 v.ownBlock) : Below B wr w2 :=
  ((Below.refl B wr).alloc hB A).grown hg (by simp; omega) (fun k e => (ho.lt k e).1)
set_option maxHeartbeats 1000000 in
set_option maxRecDepth 100000 in
theorem join_any (v : Value) (Fs : List (List (UInt8 → Bool))) (w : World) (hF : ∀ fs ∈ Fs, fs.length ≤ 16) (hv : PatsAt w v Fs) (hn : Fs.length ≤ 1048576) :
    Calls Try.prog 9 #[v] w fun e w' => e = .returned (joV Fs.flatten) ∧ Below w.heap.size w w' := by
  obtain ⟨i0, hi, hz0, hz1, hz2⟩ := info_parts infoIt
  obtain ⟨n, hnn⟩ : ∃ n, n = Fs.length := ⟨_, rfl⟩
  have HF : Hid (∀ k, k < n → ∃ fs, Fs[k]? = some fs ∧ fs.length ≤ 16) := fun k hk => ⟨Fs[k], List.getElem?_eq_getElem (by omega), hF _ (List.getElem_mem _)⟩
  have HFULL : Hid (∀ k, n ≤ k → (Fs.take k).flatten = Fs.flatten) := fun k hk => by rw [List.take_of_length_le (by omega)]
  have HST : Hid (∀ W : World, W.heap[w.heap.size]? = some (.cells (patC []) 31 (0, 0)) → ∀ C : Array Value, C.size = 65 → C.all (·.oneCell') = true → (storeCells ⟨w.heap.size, 0, none⟩ C.toList 0).run Try.prog W = .ok () (W.setRow w.heap.size C)) := fun W hg C hc h1 => store_pat _ _ _ _ _ hg (patC_size [] (by decide)) hc h1
  have HSTN : Hid (∀ fs, fs.length ≤ 16 → ∀ W : World, (storeCells ⟨W.heap.size, 0, none⟩ (patC fs).toList 0).run Try.prog (W.alloc (.cells (patC []) 31)) = .ok () (W.alloc (.cells (patC fs) 31))) := fun fs h W => store_new W _ (patC_size fs h) (patC_one fs)
  have HPAT : Hid (∀ v fs W, ItemsAt W v fs → Calls Try.prog 16 #[v] W fun e w' => ∃ C n, e = .returned (.tuple #[.agg C, .int .i64 n]) ∧ .tuple #[.agg C, .int .i64 n] = joV fs ∧ C.size = 65 ∧ C.all (·.oneCell') = true ∧ Below W.heap.size W w') := fun v fs W h => items_any v fs W h
  have HV := hide hv
  have hz := zero_pat
  obtain ⟨a, cap, rfl, _⟩ := hv
  have hnz : (n : Int) ≤ 1048576 := by omega
  rw [← hnn] at *
  have HFF := hide hnn
  clear hF hnn
  generalize hZ : patC [] = Z at *
  clear hZ
  go_enter Try.func9, Try.ntmps9
  go_wp2
  go_loopg [4, 9] n (fun kk s4 s9 wr => ∃ (k : Nat) (u : Value), u = s4 ∧ s9 = .int .i64 k ∧ k ≤ n ∧ n - k ≤ kk ∧ (Fs.take k).flatten.length ≤ 16 ∧ Hid (wr.ownsRow (w.heap.size + 1) 28 4 u (Fs.take k).flatten.length (flatC (Fs.take k).flatten)) ∧ Hid (Below w.heap.size w wr) ∧ Hid (wr.heap[w.heap.size]? = some (.cells Z 31 (0, 0))))
  case atStart => exact ⟨0, _, rfl, rfl, by omega, by omega, by simp, World.ownsRow_nil _ _ _ _, (Below.refl _ w).alloc (Nat.le_refl _) _, heap_alloc_last w _⟩
  case round =>
    obtain ⟨k, u, rfl, rfl, hk, hkk, h16, HR, HB, HG⟩ := hrel
    by_cases hlt : k < n
    · have hltz : (k : Int) < (n : Int) := by omega
      obtain ⟨fs, hfs, hf16⟩ := unhide HF k hlt
      obtain ⟨g, ha, hgl, hcell⟩ : ∃ g, a = some ⟨g, 0, none⟩ ∧ g < wr.heap.size ∧ ∀ i u, (patC fs)[i]? = some u → wr.cell? ⟨g, k * 65 + i, none⟩ = some u := by
        obtain ⟨a', cap', e, h⟩ := (unhide HV).below (unhide HB)
        injection e with e1 _ _
        obtain ⟨g, h1, h2, h3⟩ := h (by have := (List.getElem?_eq_some_iff.1 hfs).1; omega)
        exact ⟨g, e1.trans h1, h2, h3 k fs hfs⟩
      subst ha
      have hld := ldP_at hcell (patC_size fs hf16)
      have hstn := unhide HSTN fs hf16
      have hX65 := patC_size fs hf16
      have hX0q := patC_zero fs
      have HNW := hide (pat_news wr fs)
      have HONE := hide (flatC_one fs)
      have HLEN := hide (flatC_len fs)
      have HTK := hide (flat_take hfs)
      have HCAT := hide (flatC_app (Fs.take k).flatten fs)
      have hfz : (fs.length : Int) ≤ 16 := by omega
      have HIO : Hid (∀ (W : World) u, W.ownsRow (w.heap.size + 1) 28 4 u ((Fs.take k).flatten.length + fs.length) (flatC (Fs.take k).flatten ++ flatC fs) → ItemsAt W u ((Fs.take k).flatten ++ fs)) := fun W u h => items_of (by rw [List.length_append, flatC_app]; exact h)
      have HMORE : Hid (16 < (Fs.take k).flatten.length + fs.length → joV ((Fs.take k).flatten ++ fs) = joV Fs.flatten) := fun h => joV_more (by rw [List.length_append]; exact h) (by rw [← unhide HTK]; exact flat_le _ _)
      have HLT : Hid (w.heap.size + 1 ≤ wr.heap.size) := (Array.getElem?_eq_some_iff.1 (unhide HG)).1
      generalize hL : (Fs.take k).flatten = acc at *
      generalize hM : flatC fs = news at *
      generalize patC fs = X at *
      have hX0 : X[0]'(by omega) = .int .i64 fs.length := by
        rw [Array.getElem?_eq_getElem (by omega)] at hX0q
        exact Option.some.inj hX0q
      have HL := hide hL
      clear hM hL hfs hcell hX0q
      have hcast : ((acc.length + fs.length : Nat) : Int) = (acc.length : Int) + (fs.length : Int) := by omega
      by_cases hbig : 16 < acc.length + fs.length
      · have hbigz : (16 : Int) < (acc.length : Int) + (fs.length : Int) := by omega
        go_wp2_with (first
          | (at_builtin; refine wpList_append_own _ rfl _ _ 45 rfl (w.heap.size + 1) 28 i0 (.agg #[.int .u64 0, .int .u64 0, .int .u64 0, .int .u64 0]) 4 32 Try.underlying45 hi hz0 hz1 hz2 rfl (by decide) _ _ _ rfl ((unhide HR).alloc _) ⟨wr.heap.size, 1, none⟩ fs.length 16 news rfl (unhide HLEN) (unhide HNW) (unhide HONE) (by unfold maxLen; omega) (by omega) (by have h1 := unhide HLT; simp; omega) ?_; intro v' w2 hown' hgrow hnil; clear hnil; obtain ⟨a2, c2, rfl⟩ := owns_slice hown'; have HO2 := hide hown'; have HB2 := hide (push_one (unhide HLT) (unhide HR) hgrow); have HIT := hide (unhide HIO _ _ (unhide HO2)); have HG2 := hide ((unhide HB2).block w.heap.size (by omega) |>.trans (unhide HG)); have HB3 := hide ((unhide HB).trans ((unhide HB2).mono (by omega))); clear hown' hgrow)
          | (go_at_call 16; refine (unhide HPAT _ _ _ (unhide HIT)).mono ?_; rintro e w3 ⟨C, n3, rfl, hCV, hC65, hC1, hb3⟩; have HCV := hide hCV; have hg3 := (hb3.block w.heap.size (Array.getElem?_eq_some_iff.1 (unhide HG2)).1).trans (unhide HG2); have hst := unhide HST w3 hg3 C hC65 hC1; have HGX := hide (setRow_heap _ _ _ C _ _ hg3); have HBX := hide (below_setRow ((unhide HB3).trans (hb3.mono (unhide HB3).size)) (Nat.le_refl _) C); clear hCV hb3 hC1 hg3))
        exact bodyPost_ret (ret_pat rfl _ _ w.heap.size C _ rfl (unhide HGX) hC65) rfl ⟨by rw [← unhide HMORE hbig, ← unhide HCV]; rfl, unhide HBX⟩
      · have hbigz : ¬ (16 : Int) < (acc.length : Int) + (fs.length : Int) := by omega
        go_wp2_with (at_builtin; refine wpList_append_own _ rfl _ _ 45 rfl (w.heap.size + 1) 28 i0 (.agg #[.int .u64 0, .int .u64 0, .int .u64 0, .int .u64 0]) 4 32 Try.underlying45 hi hz0 hz1 hz2 rfl (by decide) _ _ _ rfl ((unhide HR).alloc _) ⟨wr.heap.size, 1, none⟩ fs.length 16 news rfl (unhide HLEN) (unhide HNW) (unhide HONE) (by unfold maxLen; omega) (by omega) (by have h1 := unhide HLT; simp; omega) ?_; intro v' w2 hown' hgrow hnil; clear hnil; obtain ⟨a2, c2, rfl⟩ := owns_slice hown'; have HO2 := hide hown'; have HB2 := hide (push_one (unhide HLT) (unhide HR) hgrow); clear hown' hgrow)
        go_roundg (n - (k + 1))
        case rel => exact ⟨k + 1, _, rfl, by go_num, by omega, by omega, by rw [unhide HTK, List.length_append]; omega, hide (by rw [unhide HTK, List.length_append, unhide HCAT]; exact unhide HO2), (unhide HB).trans ((unhide HB2).mono (by omega)), ((unhide HB2).block w.heap.size (by omega)).trans (unhide HG)⟩
        case measure => omega
    · have hltz : ¬ (k : Int) < (n : Int) := by omega
      have HIT := hide (items_of (unhide HR))
      have HG2 := HG
      have HB3 := HB
      have HFU := hide (unhide HFULL k (by omega))
      obtain ⟨a2, c2, rfl⟩ := owns_slice (unhide HR)
      generalize (Fs.take k).flatten = acc at *
      go_wp2_with (go_at_call 16; refine (unhide HPAT _ _ _ (unhide HIT)).mono ?_; rintro e w3 ⟨C, n3, rfl, hCV, hC65, hC1, hb3⟩; have HCV := hide hCV; have hg3 := (hb3.block w.heap.size (Array.getElem?_eq_some_iff.1 (unhide HG2)).1).trans (unhide HG2); have hst := unhide HST w3 hg3 C hC65 hC1; have HGX := hide (setRow_heap _ _ _ C _ _ hg3); have HBX := hide (below_setRow ((unhide HB3).trans (hb3.mono (unhide HB3).size)) (Nat.le_refl _) C); clear hCV hb3 hC1 hg3)
      exact bodyPost_ret (ret_pat rfl _ _ w.heap.size C _ rfl (unhide HGX) hC65) rfl ⟨by rw [← unhide HFU, ← unhide HCV]; rfl, unhide HBX⟩
end Pt
end Go.Proofs.Ytgaagbjbolfbjab
