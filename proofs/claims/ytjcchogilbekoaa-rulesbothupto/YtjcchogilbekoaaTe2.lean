/- Layer 15: slices.Backward over rules; what All and Backward hand back. -/
import Derived.Test.YtjcchogilbekoaaTe1
namespace Go.Proofs.Ytjcchogilbekoaa
open Go.RowKit Go.Shelf
namespace Rv
attribute [local go_sem] Oper.semAt_some

set_option maxRecDepth 100000 in
set_option maxHeartbeats 2000000 in
theorem back1_walks {w₀ : World} {B bx : Nat} {v : Value} {L : List RuB} (hbx : bx < B) (hc : w₀.cell? ⟨bx, 0, none⟩ = some v) (hr : RulesAt w₀ v L B) (hz : L.length ≤ 8796093022208) :
    Walks ar Try.prog 36 #[.pointer (some ⟨bx, 0, none⟩)] (en 0 L).reverse B w₀ := by
  refine ⟨enters_of Try.func36 (by kernel_rfl) rfl, fun l J Jx W T₀ hW hs fJ fX hY h0 => ?_⟩
  obtain ⟨ao, c, rfl, hat⟩ := hr
  have hT0 : ∀ b, T₀ b → B ≤ b := fun b hb => (fJ.foot h0 hb).1
  have rd : ∀ wr : World, Chg T₀ W wr → Below B w₀ wr := fun wr c => hW.trans (c.below hs hT0)
  have rc : ∀ wr : World, Chg T₀ W wr → wr.cell? ⟨bx, 0, none⟩ = some (.slice ao L.length c) := fun wr k => ((rd wr k).cell (p := ⟨bx, 0, none⟩) hbx).trans hc
  have hcW := rc W (Chg.refl _ _)
  have HY := hide hY
  have HAT := hide hat
  have FJ := hide fJ
  have H0 := hide h0
  have RD := hide rd
  have RC := hide rc
  clear hY hat fJ fX h0 rd rc hT0 hc
  generalize hn : L.length = n at *
  have HN := hide hn
  clear hn
  refine (callsIn_wide (n := 8)).1 ?_
  refine callsIn_of_wp Try.func36 rfl trivial ?_ rfl
  simp only [Try.ntmps36, List.size_toArray, List.length_cons, List.length_nil, Nat.reduceAdd, Nat.reduceSub, Array.replicate_succ, Array.replicate_zero, List.push_toArray, List.append_toArray, List.nil_append, List.cons_append]
  gi_wp2
  gi_loopw [3] (fun p wr => ∃ (m : Nat), p = .int .i64 ((m : Int) - 1) ∧ m ≤ n ∧ Hid (∃ T, J ((en 0 L).reverse.take (n - m)) T wr ∧ Chg T₀ W wr ∧ ∀ b, T b → Up T₀ W wr b))
    (fun p _ => (intOf p + 1).toNat)
  case atStart => exact ⟨n, by go_num, Nat.le_refl _, ⟨T₀, by simpa using unhide H0, Chg.refl _ _, fun b hb => .inl hb⟩⟩
  case round =>
    obtain ⟨m, rfl, hk, HJ⟩ := hrel
    cases m with
    | succ k =>
      have hkl : k < L.length := by rw [unhide HN]; omega
      obtain ⟨g, off, rfl, hgB, hcell⟩ := unhide HAT (by omega)
      obtain ⟨x, hx⟩ : ∃ x, L[k]? = some x := ⟨_, List.getElem?_eq_getElem hkl⟩
      obtain ⟨T, hJ, hch, hup⟩ := unhide HJ
      have hbl := unhide RD _ hch
      have hcr := unhide RC _ hch
      obtain ⟨q0, q1, q2, q3, q4, q5, q6⟩ := rule_cells (w := wr) (g := g) (o := off + k * 7) (x := x) (fun i u hu => (hbl.cell (p := ⟨g, off + k * 7 + i, none⟩) hgB).trans (hcell k x hx i u hu))
      have hek : (en 0 L).reverse[n - (k + 1)]? = some (k, x) := by
        rw [List.getElem?_reverse (by rw [en_len, unhide HN]; omega), en_len, unhide HN, show n - 1 - (n - (k + 1)) = k by omega, en_get, hx]
        simp
      have htk : (en 0 L).reverse.take (n - k) = (en 0 L).reverse.take (n - (k + 1)) ++ [(k, x)] := by rw [show n - k = n - (k + 1) + 1 by omega, List.take_add_one, hek]; rfl
      have hq : YieldAt Fence.wide 7 Try.prog l #[.int .i64 (k : Int), .agg #[.int .i64 x.k, .int .u16 x.fl, .bool x.cr, .string x.st, .string x.ad, .string x.cd, .slice x.ao x.nl x.nc]] wr (RndPost J Jx ((en 0 L).reverse.take (n - (k + 1)) ++ [(k, x)]) T wr) :=
        (unhide HY ((en 0 L).reverse.take (n - (k + 1))) (k, x) T wr hJ (by rw [← htk]; exact List.take_prefix ..) hch).at 7
      obtain ⟨fn, tmps, assign, body, hy, hR⟩ := hq
      have HR := hide hR
      have HX := hide htk
      have HC := hide hch
      have HU := hide hup
      have hkn : (k : Int) < (n : Int) := by omega
      have e1 : ((k + 1 : Nat) : Int) - 1 = (k : Int) := by omega
      rw [e1]
      clear hR htk hch hup hJ hx hcell HJ hbl hek e1
      gi_wp2
      refine (unhide HR).mono ?_
      rintro e W3 ⟨T3, c3, u3, (⟨rfl, hJ3⟩ | ⟨rfl, hX3⟩)⟩
      · have H3 : Hid (∃ T, J ((en 0 L).reverse.take (n - k)) T W3 ∧ Chg T₀ W W3 ∧ ∀ b, T b → Up T₀ W W3 b) :=
          ⟨T3, by rw [unhide HX]; exact hJ3, (unhide HC).on c3 (unhide HU), Up.on (unhide HC) c3 (unhide HU) u3⟩
        clear c3 u3 hJ3
        gi_wp2
        go_roundw
        case rel => exact ⟨k, by go_num, by omega, H3⟩
        case measure => simp [intOf]
      · have H3 : Hid (Ended (en 0 L).reverse J Jx T₀ W W3) :=
          ⟨T3, (unhide HC).on c3 (unhide HU), Up.on (unhide HC) c3 (unhide HU) u3, .inr ⟨(en 0 L).reverse.take (n - k), List.take_prefix .., by rw [unhide HX]; exact hX3⟩⟩
        clear c3 u3 hX3
        gi_wp2
        refine bodyPost_ret (results_none rfl _ _ _) rfl ?_
        exact ⟨⟨_, rfl⟩, unhide H3⟩
    | zero =>
      have H3 : Hid (Ended (en 0 L).reverse J Jx T₀ W wr) := by
        obtain ⟨T, a, b, c⟩ := unhide HJ
        refine ⟨T, b, c, .inl ?_⟩
        rw [Nat.sub_zero, ← unhide HN, ← en_len 0 L, ← List.length_reverse, List.take_length] at a
        exact a
      have e1 : ((0 : Nat) : Int) - 1 = -1 := by omega
      rw [e1]
      gi_wp2
      go_end0
      exact ⟨⟨_, rfl⟩, unhide H3⟩

set_option maxRecDepth 100000 in
set_option maxHeartbeats 1000000 in
theorem all_any {v : Value} {L : List RuB} (w : World) (h : RulesAt w v L w.heap.size) (hz : L.length ≤ 8796093022208) :
    Calls Try.prog 27 #[v] w fun e w' => ∃ gf lb, e = .returned (.func (.func gf) #[] lb) ∧ Walks ar Try.prog gf lb (en 0 L) w'.heap.size w' ∧ Below w.heap.size w w' := by
  have HW : Hid (Walks ar Try.prog 35 #[.pointer (some ⟨w.heap.size, 0, none⟩)] (en 0 L) (w.alloc (.cells #[v] 36)).heap.size (w.alloc (.cells #[v] 36))) :=
    all1_walks (by simp) (Boxed.new w 36 v).cell ((h.below ((Below.refl _ w).alloc (Nat.le_refl _) _)).mono (by simp)) hz
  obtain ⟨ao, c, rfl, _⟩ := h
  go_enter Try.func27, Try.ntmps27
  go_wp2
  go_ret
  exact ⟨_, _, rfl, unhide HW, (Below.refl _ w).alloc (Nat.le_refl _) _⟩
set_option maxRecDepth 100000 in
set_option maxHeartbeats 1000000 in
theorem back_any {v : Value} {L : List RuB} (w : World) (h : RulesAt w v L w.heap.size) (hz : L.length ≤ 8796093022208) :
    Calls Try.prog 28 #[v] w fun e w' => ∃ gf lb, e = .returned (.func (.func gf) #[] lb) ∧ Walks ar Try.prog gf lb (en 0 L).reverse w'.heap.size w' ∧ Below w.heap.size w w' := by
  have HW : Hid (Walks ar Try.prog 36 #[.pointer (some ⟨w.heap.size, 0, none⟩)] (en 0 L).reverse (w.alloc (.cells #[v] 36)).heap.size (w.alloc (.cells #[v] 36))) :=
    back1_walks (by simp) (Boxed.new w 36 v).cell ((h.below ((Below.refl _ w).alloc (Nat.le_refl _) _)).mono (by simp)) hz
  obtain ⟨ao, c, rfl, _⟩ := h
  go_enter Try.func28, Try.ntmps28
  go_wp2
  go_ret
  exact ⟨_, _, rfl, unhide HW, (Below.refl _ w).alloc (Nat.le_refl _) _⟩
end Rv
end Go.Proofs.Ytjcchogilbekoaa
