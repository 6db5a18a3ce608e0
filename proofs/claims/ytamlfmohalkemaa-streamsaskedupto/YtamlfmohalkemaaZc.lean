/- Layer 8: a stream's walk as a value (All); the walk of a list that was laid out (Of). -/
import Derived.Shelf.Abstract
import Derived.Shelf.RegionOpen
import Derived.WalkKit
import Derived.OwnWalkIn
import Derived.TacticsInMore
import Derived.LoopNIn
import Derived.LoopIn
import Derived.Maps.AppendAt
import Derived.Test.YtamlfmohalkemaaZa
import Derived.Test.YtamlfmohalkemaaZb
namespace Go.Proofs.Ytamlfmohalkemaa
open Go.RowKit Go.Shelf
namespace Sm
attribute [local go_sem] Oper.semAt_some

/-- a list of texts in memory, below B -/
def RowAt (w : World) (v : Value) (L : List Tx) (B : Nat) : Prop :=
  ∃ ao c, v = .slice ao L.length c ∧ (0 < L.length → ∃ g off, ao = some ⟨g, off, none⟩ ∧ g < B ∧ ∀ (j : Nat) x, L[j]? = some x → w.cell? ⟨g, off + j, none⟩ = some (.string x))
theorem RowAt.below {w w' : World} {v : Value} {L : List Tx} {B : Nat} (h : RowAt w v L B) (hb : Below B w w') : RowAt w' v L B := by
  obtain ⟨ao, c, e, hat⟩ := h
  refine ⟨ao, c, e, fun h0 => ?_⟩
  obtain ⟨g, off, e1, e2, e3⟩ := hat h0
  exact ⟨g, off, e1, e2, fun j x hj => (hb.cell (p := ⟨g, off + j, none⟩) e2).trans (e3 j x hj)⟩
theorem RowAt.mono {w : World} {v : Value} {L : List Tx} {B B' : Nat} (h : RowAt w v L B) (hB : B ≤ B') : RowAt w v L B' := by
  obtain ⟨ao, c, e, hat⟩ := h
  refine ⟨ao, c, e, fun h0 => ?_⟩
  obtain ⟨g, off, e1, e2, e3⟩ := hat h0
  exact ⟨g, off, e1, by omega, e3⟩

theorem nil_walks {w₀ : World} {B : Nat} : Walks Try.prog 35 #[] [] B w₀ := by
  refine ⟨enters_of Try.func35 (by kernel_rfl) rfl, fun l J Jx W T₀ hW hs fJ fX hY h0 => ?_⟩
  refine (callsIn_wide (n := 8)).1 ?_
  refine callsIn_of_wp Try.func35 rfl trivial ?_ rfl
  simp only [Try.ntmps35, List.size_toArray, List.length_cons, List.length_nil, Nat.reduceAdd, Nat.reduceSub, Array.replicate_succ, Array.replicate_zero, List.push_toArray, List.append_toArray, List.nil_append, List.cons_append]
  gi_wp2
  go_end0
  exact ⟨⟨_, rfl⟩, T₀, Chg.refl _ _, fun b hb => .inl hb, .inl h0⟩

theorem eq_fn (gf : FuncId) (lb : Array Value) (W : World) : Sem.run Try.prog (binOp .eql 25 (.func (.func gf) #[] lb) .nilFunc) W = .ok (.bool false) W := by kernel_rfl
theorem eq_nofn (W : World) : Sem.run Try.prog (binOp .eql 25 .nilFunc .nilFunc) W = .ok (.bool true) W := by kernel_rfl

set_option maxRecDepth 100000 in
theorem all_any {v : Value} {L : List Tx} {B : Nat} {w₀ : World} (h : Gives Try.prog v L B w₀) (w : World) :
    Calls Try.prog 19 #[.agg #[v]] w fun e w' => ∃ gf lb, e = .returned (.func (.func gf) #[] lb) ∧ Walks Try.prog gf lb L B w₀ ∧ w' = w.alloc (.cells #[v] 27) := by
  have q1 := eq_fn
  have q2 := eq_nofn
  rcases h with ⟨rfl, rfl⟩ | ⟨gf, lb, rfl, h⟩
  · go_enter Try.func19, Try.ntmps19
    go_wp2
    go_ret
    exact ⟨_, _, rfl, nil_walks, rfl⟩
  · have H := hide h
    clear h
    go_enter Try.func19, Try.ntmps19
    go_wp2
    go_ret
    exact ⟨_, _, rfl, unhide H, rfl⟩

set_option maxRecDepth 100000 in
set_option maxHeartbeats 2000000 in
theorem of1_walks {w₀ : World} {B bx : Nat} {v : Value} {L : List Tx} (hbx : bx < B) (hc : w₀.cell? ⟨bx, 0, none⟩ = some v) (hr : RowAt w₀ v L B) (hz : L.length ≤ 8796093022208) :
    Walks Try.prog 27 #[.pointer (some ⟨bx, 0, none⟩)] L B w₀ := by
  refine ⟨enters_of Try.func27 (by kernel_rfl) rfl, fun l J Jx W T₀ hW hs fJ fX hY h0 => ?_⟩
  obtain ⟨ao, c, rfl, hat⟩ := hr
  have hT0 : ∀ b, T₀ b → B ≤ b := fun b hb => (fJ.foot h0 hb).1
  have rd : ∀ wr : World, Chg T₀ W wr → Below B w₀ wr := fun wr c => hW.trans (c.below hs hT0)
  have hcW : W.cell? ⟨bx, 0, none⟩ = some (.slice ao L.length c) := (hW.cell (p := ⟨bx, 0, none⟩) hbx).trans hc
  have HY := hide hY
  have HAT := hide hat
  have FJ := hide fJ
  have FX := hide fX
  have H0 := hide h0
  have RD := hide rd
  clear hY hat fJ fX h0 rd hT0 hc
  refine (callsIn_wide (n := 8)).1 ?_
  refine callsIn_of_wp Try.func27 rfl trivial ?_ rfl
  simp only [Try.ntmps27, List.size_toArray, List.length_cons, List.length_nil, Nat.reduceAdd, Nat.reduceSub, Array.replicate_succ, Array.replicate_zero, List.push_toArray, List.append_toArray, List.nil_append, List.cons_append]
  gi_wp2
  gi_loopw [7] (fun p wr => ∃ (k : Nat), p = .int .i64 (k : Int) ∧ k ≤ L.length ∧ Hid (∃ T, J (L.take k) T wr ∧ Chg T₀ W wr ∧ ∀ b, T b → Up T₀ W wr b))
    (fun p _ => L.length - (intOf p).toNat)
  case atStart => exact ⟨0, rfl, Nat.zero_le _, ⟨T₀, by simpa using unhide H0, Chg.refl _ _, fun b hb => .inl hb⟩⟩
  case round =>
    obtain ⟨k, rfl, hk, HJ⟩ := hrel
    by_cases hkl : k < L.length
    · obtain ⟨g, off, rfl, hgB, hcell⟩ := unhide HAT (by omega)
      obtain ⟨x, hx⟩ : ∃ x, L[k]? = some x := ⟨_, List.getElem?_eq_getElem hkl⟩
      obtain ⟨T, hJ, hch, hup⟩ := unhide HJ
      have hcx : wr.cell? ⟨g, off + k, none⟩ = some (.string x) := ((unhide RD _ hch).cell (p := ⟨g, off + k, none⟩) hgB).trans (hcell k x hx)
      have htk : L.take (k + 1) = L.take k ++ [x] := by rw [List.take_add_one, hx]; rfl
      obtain ⟨fn, tmps, assign, body, hy, hR⟩ := (unhide HY (L.take k) x T wr hJ (by rw [← htk]; exact List.take_prefix ..) hch).at 7
      have HR := hide hR
      have HX := hide htk
      have HC := hide hch
      have HU := hide hup
      clear hR htk hch hup hJ hx hcell HJ
      gi_wp2
      refine (unhide HR).mono ?_
      rintro e W3 ⟨T3, c3, u3, (⟨rfl, hJ3⟩ | ⟨rfl, hX3⟩)⟩
      · have H3 : Hid (∃ T, J (L.take (k + 1)) T W3 ∧ Chg T₀ W W3 ∧ ∀ b, T b → Up T₀ W W3 b) :=
          ⟨T3, by rw [unhide HX]; exact hJ3, (unhide HC).on c3 (unhide HU), Up.on (unhide HC) c3 (unhide HU) u3⟩
        clear c3 u3 hJ3
        gi_wp2
        go_roundw
        case rel => exact ⟨k + 1, by simp, by omega, H3⟩
        case measure => simp [intOf]; omega
      · have H3 : Hid (Ended L J Jx T₀ W W3) :=
          ⟨T3, (unhide HC).on c3 (unhide HU), Up.on (unhide HC) c3 (unhide HU) u3, .inr ⟨L.take (k + 1), List.take_prefix .., by rw [unhide HX]; exact hX3⟩⟩
        clear c3 u3 hX3
        gi_wp2
        refine bodyPost_ret (results_none rfl _ _ _) rfl ?_
        exact ⟨⟨_, rfl⟩, unhide H3⟩
    · have hkk : k = L.length := by omega
      have H3 : Hid (Ended L J Jx T₀ W wr) := by
        obtain ⟨T, a, b, c⟩ := unhide HJ
        refine ⟨T, b, c, .inl ?_⟩
        rw [hkk, List.take_length] at a
        exact a
      clear hkk
      gi_wp2
      go_end0
      exact ⟨⟨_, rfl⟩, unhide H3⟩
end Sm
end Go.Proofs.Ytamlfmohalkemaa
