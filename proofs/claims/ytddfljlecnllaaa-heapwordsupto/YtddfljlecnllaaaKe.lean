/- Layer 7: the document's Pop of a heap with items. -/
import Derived.Test.YtddfljlecnllaaaKd
namespace Go.Proofs.Ytddfljlecnllaaa
open Go.RowKit
namespace Hp
def RRes (F : Nat → Prop) (w : World) (rb : Nat) (I : List It) (w' : World) : Prop := RAt w' rb I (Up F w w') ∧ Chg F w w'
theorem erase_take_ne {I : List It} {k i : Nat} {y : It} (h : I[i]? = some y) (hne : i ≠ k) : (I.take (i + 1)).eraseIdx k = (I.take i).eraseIdx k ++ [y] := by
  have hi := (List.getElem?_eq_some_iff.1 h).1
  rw [List.take_succ_eq_append_getElem hi, (List.getElem?_eq_some_iff.1 h).2]
  have hl : (I.take i).length = i := by rw [List.length_take]; omega
  rcases Nat.lt_or_gt_of_ne hne with e | e
  · rw [List.eraseIdx_of_length_le (by simp; omega), List.eraseIdx_of_length_le (by omega)]
  · rw [List.eraseIdx_append_of_lt_length (by omega)]
theorem erase_take_eq {I : List It} {k : Nat} (h : k < I.length) : (I.take (k + 1)).eraseIdx k = (I.take k).eraseIdx k := by
  have hl : (I.take k).length = k := by rw [List.length_take]; omega
  have e1 : (I.take k).eraseIdx k = I.take k := List.eraseIdx_of_length_le (by omega)
  rw [e1, List.take_succ_eq_append_getElem h, List.eraseIdx_append_of_length_le (by omega), hl, Nat.sub_self]
  simp
/-- the list was taken over -/
theorem RIn.take {w W V : World} {rb : Nat} {I J : List It} {F : Nat → Prop} {rv v : Value} (h : RIn w rb I F rv) (hwV : Below w.heap.size w V) (hg : Grow V v J W) : RIn (W.setCell ⟨rb, 0, none⟩ v) rb J (fun b => F b ∨ (V.heap.size ≤ b ∧ b < W.heap.size)) v ∧ Chg F w (W.setCell ⟨rb, 0, none⟩ v) ∧ (∃ u, W.cell? ⟨rb, 0, none⟩ = some u) ∧ (∀ k, W.frozen? ⟨rb, k, none⟩ = false) := by
  have hlt := h.lt _ h.own
  have hWB : Below w.heap.size w W := hwV.trans (hg.old.mono hwV.size)
  have ho : W.heap[rb]? = _ := (hWB.block rb hlt).trans h.obj
  obtain ⟨c0, cf, hl⟩ := dcell ho
  have hs := hg.old.size
  refine ⟨⟨fun b hb => ?_, .inl h.own, by rw [set_heap1 ho]; rfl, own_kept hg.row fun g hg' => Below.heap_setCell _ _ _ _ (fun e => by have := hg.new g hg'; have e : g = rb := e; have := hwV.size; omega), fun g hg' => .inr ⟨hg.new g hg', (hg.row.lt g hg').2⟩⟩, (Chg.of_below hWB).setCell (.inl h.own) _, ⟨_, c0⟩, cf⟩
  rcases hb with hb | hb
  · have := h.lt b hb; have := hwV.size; simp; omega
  · simpa using hb.2
set_option maxRecDepth 100000 in
set_option maxHeartbeats 4000000 in
theorem rpop_some {w : World} {rb : Nat} {I J : List It} {x : It} {F : Nat → Prop} {rv : Value} (h : RIn w rb I F rv) (hz : I.length ≤ 1099511627776) (hp : pop rise_ I = some (x, J)) :
    Calls Try.prog 30 #[.pointer (some ⟨rb, 0, none⟩)] w fun e w' => e = .returned (.tuple #[.agg #[.int .i64 x.1, .int .i64 x.2], .bool true]) ∧ RRes F w rb J w' := by
  obtain ⟨k, hk, rfl, hkl⟩ := pop_k rise_ord hp
  have HL : Hid (∀ o : Obj, Calls Try.prog 44 #[.pointer (some ⟨rb, 0, none⟩)] (w.alloc o) fun e w' => e = .returned (.int .i64 k) ∧ Below (w.alloc o).heap.size (w.alloc o) w') := fun o => least_some (h.below ((Below.refl _ _).alloc (Nat.le_refl _) o)) hz hk
  obtain ⟨c0, cf, hl⟩ := dcell h.obj
  have HIN := hide h
  have HLT := hide h.lt
  obtain ⟨ao, cap, rfl, hat⟩ := h.its
  obtain ⟨g, off, rfl, hg, -, hc⟩ := hat (by omega)
  obtain ⟨x0, x1⟩ := hc k x hk.1
  have HC := hide hc
  obtain ⟨n, hn⟩ : ∃ n, I.length = n := ⟨_, rfl⟩
  have HN := hide hn
  rw [hn] at hz hkl c0
  have hkz : (k : Int) < (n : Int) := by omega
  have hk0 : 0 ≤ (k : Int) := by omega
  have hkn : ¬ (k : Int) < 0 := by omega
  clear h hat hc hk hp hn
  go_enter Try.func30, Try.ntmps30
  go_wp2_with fail
  refine (unhide HL _).mono ?_
  rintro e w1 ⟨rfl, hb1⟩
  have g0 := (hb1.block w.heap.size (by simp)).trans (MapKept.heap_alloc w _).1
  obtain ⟨r0, r1, rf, rl⟩ := cells2 g0
  have HB1 : Hid (Below w.heap.size w w1) := ((Below.refl _ w).alloc (Nat.le_refl _) _).trans (hb1.mono (by simp))
  have s0 := ((unhide HB1).cell (p := ⟨rb, 0, none⟩) hl).trans c0
  have s1 := ((unhide HB1).cell (p := ⟨g, off + k * 2, none⟩) hg).trans x0
  have s2 := ((unhide HB1).cell (p := ⟨g, off + k * 2 + 1, none⟩) hg).trans x1
  have G0 := hide g0
  clear hb1 HL g0
  go_wp2
  refine gen_world ?_
  intro V hV
  have HVB : Hid (Below w.heap.size w V) := by rw [hV]; exact (unhide HB1).alloc (unhide HB1).size _
  have HR1 : Hid (V.heap[w.heap.size]? = some (.cells #[.int .i64 0, .int .i64 0] 43 (0, 0))) := by rw [hV]; exact (Below.heap_alloc _ _ _ rl).trans (unhide G0)
  have HX1 : Hid (V.heap[w1.heap.size]? = some (.cells #[.int .i64 x.1, .int .i64 x.2] 43 (0, 0))) := by rw [hV]; exact (MapKept.heap_alloc w1 _).1
  have hVs : w1.heap.size < V.heap.size := by rw [hV]; simp
  clear hV s0 s1 s2 r0 r1 rf c0 cf x0 x1 HB1
  have HG0 : Hid (Grow V (.slice none 0 0) ((I.take 0).eraseIdx k) V) := by unfold Hid; simpa using Grow.start V
  go_loopw [6, 7] (fun s6 s7 wr => ∃ (i : Nat), s7 = .int .i64 i ∧ i ≤ n ∧ Hid (Grow V s6 ((I.take i).eraseIdx k) wr)) (fun _ s7 _ => n - (intOf s7).toNat)
  case atStart => exact ⟨0, rfl, Nat.zero_le _, HG0⟩
  case round =>
    obtain ⟨i, rfl, hi, HG⟩ := hrel
    have hbw : Below w.heap.size w wr := (unhide HVB).trans ((unhide HG).old.mono (unhide HVB).size)
    have c0 := (dcell ((hbw.block rb hl).trans (unhide HIN).obj)).1
    rw [unhide HN] at c0
    by_cases hlt : i < n
    · have hltz : (i : Int) < (n : Int) := by omega
      have hi0 : 0 ≤ (i : Int) := by omega
      obtain ⟨y, hy⟩ : ∃ y, I[i]? = some y := ⟨_, List.getElem?_eq_getElem (by rw [unhide HN]; exact hlt)⟩
      by_cases hik : i = k
      · subst hik
        have HG2 := HG
        rw [← erase_take_eq (by rw [unhide HN]; exact hlt)] at HG2
        clear hy hbw
        go_wp2
        exact ⟨⟨i + 1, by go_num, by omega, HG2⟩, by simp [intOf]; omega⟩
      · have hne : ((i : Int) == (k : Int)) = false := by simp; omega
        obtain ⟨y0, y1⟩ := unhide HC i y hy
        have q0 := (hbw.cell (p := ⟨g, off + i * 2, none⟩) hg).trans y0
        have q1 := (hbw.cell (p := ⟨g, off + i * 2 + 1, none⟩) hg).trans y1
        obtain ⟨a5, c5, W5, hap, hgr, -⟩ := (unhide HG).push y (by have := (List.eraseIdx_sublist (I.take i) k).length_le; rw [List.length_take] at this; omega) 28
        rw [← erase_take_ne hy hik] at hgr
        have HAP := hide hap
        have HGR := hide hgr
        generalize ((I.take i).eraseIdx k).length + 1 = M at *
        clear hy hbw hap hgr y0 y1
        go_wp2_with (at_builtin; refine wpList_append_run rfl _ _ 28 28 rfl _ _ rfl rfl (.slice a5 M c5) W5 (unhide HAP) ?_)
        go_roundw
        case rel => exact ⟨i + 1, by go_num, by omega, HGR⟩
        case measure => simp [intOf]; omega
    · obtain rfl : i = n := by omega
      have hltz : ¬ (i : Int) < (i : Int) := by omega
      have HE : Hid (I.take i = I) := by rw [Hid, ← unhide HN, List.take_length]
      rw [unhide HE] at HG
      obtain ⟨z1, z2, ⟨u, z3⟩, z4⟩ := RIn.take (unhide HIN) (unhide HVB) (unhide HG)
      obtain ⟨p0, p1, pf, pl⟩ := cells2 (((unhide HG).old.block w.heap.size (Nat.lt_trans rl hVs)).trans (unhide HR1))
      obtain ⟨l0, l1, lf, ll⟩ := cells2 (((unhide HG).old.block w1.heap.size hVs).trans (unhide HX1))
      obtain ⟨a5, c5, rfl⟩ := own_slice (unhide HG).row
      generalize (I.eraseIdx k).length = M at *
      have HZ := hide (And.intro z1 z2)
      clear z1 z2 HE hbw
      go_wp2
      refine gen_post ?_
      intro V9 hV9
      have v0 : V9.cell? ⟨w.heap.size, 0, none⟩ = some (.int .i64 x.1) := by rw [hV9]; go_simp
      have v1 : V9.cell? ⟨w.heap.size, 1, none⟩ = some (.int .i64 x.2) := by rw [hV9]; go_simp
      have HEF : Hid (RRes F w rb (I.eraseIdx k) V9) := by
        rw [hV9]
        obtain ⟨z1, z2⟩ := unhide HZ
        refine ⟨⟨_, z1.kept (fun b hb => ?_) (fun b hb => ?_) (fun b hb => ?_)⟩, (z2.setCell (.inr (Nat.le_refl _)) _).setCell (.inr (Nat.le_refl _)) _⟩
        · have e : b ≠ w.heap.size := by
            rcases hb with hb | hb
            · have := unhide HLT b hb; omega
            · omega
          rw [Below.heap_setCell _ _ _ _ e, Below.heap_setCell _ _ _ _ e]
        · rcases hb with hb | hb
          · exact .inl hb
          · exact .inr ⟨by omega, by simpa using hb.2⟩
        · rcases hb with hb | hb
          · have := unhide HLT b hb; have := (unhide HG).old.size; simp; omega
          · exact hb.2
      clear hV9
      exact bodyPost_ret (v := .tuple #[.agg #[.int .i64 x.1, .int .i64 x.2], .bool true]) (by simp [results, Try.results30, go_sem, v0, v1]) rfl ⟨rfl, unhide HEF⟩
end Hp
end Go.Proofs.Ytddfljlecnllaaa
