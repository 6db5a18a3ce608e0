/- Layer 15: rows of rules in memory; the iterators slices.All and slices.Backward over them. -/
import Derived.Shelf.Abstract
import Derived.Shelf.RegionOpen
import Derived.WalkKit
import Derived.OwnWalkIn
import Derived.TacticsInMore
import Derived.LoopNIn
import Derived.LoopIn
import Derived.Maps.AppendAt
import Derived.Test.YtjcchogilbekoabTe0
import Derived.Test.YtjcchogilbekoabTc2
namespace Go.Proofs.Ytjcchogilbekoab
open Go.RowKit Go.Shelf
namespace Rv
attribute [local go_sem] Oper.semAt_some

/-- a rule as it comes in -/
structure RuB where
  k : Int
  fl : Int
  cr : Bool
  st : ByteArray
  ad : ByteArray
  cd : ByteArray
  ao : Option Addr
  nl : Nat
  nc : Nat
abbrev RuB.v (x : RuB) : Value := .agg #[.int .i64 x.k, .int .u16 x.fl, .bool x.cr, .string x.st, .string x.ad, .string x.cd, .slice x.ao x.nl x.nc]
def RuB.cs (x : RuB) : List Value := [.int .i64 x.k, .int .u16 x.fl, .bool x.cr, .string x.st, .string x.ad, .string x.cd, .slice x.ao x.nl x.nc]
def RuB.r (x : RuB) : Ta.Ru := Pt.ruR x.k x.st x.ad x.cd
/-- a list of rules in memory, below B -/
def RulesAt (w : World) (v : Value) (L : List RuB) (B : Nat) : Prop :=
  ∃ ao c, v = .slice ao L.length c ∧ (0 < L.length → ∃ g off, ao = some ⟨g, off, none⟩ ∧ g < B ∧ ∀ (j : Nat) x, L[j]? = some x → ∀ (i : Nat) u, x.cs[i]? = some u → w.cell? ⟨g, off + j * 7 + i, none⟩ = some u)
theorem RulesAt.below {w w' : World} {v : Value} {L : List RuB} {B : Nat} (h : RulesAt w v L B) (hb : Below B w w') : RulesAt w' v L B := by
  obtain ⟨ao, c, e, hat⟩ := h
  refine ⟨ao, c, e, fun h0 => ?_⟩
  obtain ⟨g, off, e1, e2, e3⟩ := hat h0
  exact ⟨g, off, e1, e2, fun j x hj i u hu => (hb.cell (p := ⟨g, off + j * 7 + i, none⟩) e2).trans (e3 j x hj i u hu)⟩
theorem RulesAt.mono {w : World} {v : Value} {L : List RuB} {B B' : Nat} (h : RulesAt w v L B) (hB : B ≤ B') : RulesAt w v L B' := by
  obtain ⟨ao, c, e, hat⟩ := h
  refine ⟨ao, c, e, fun h0 => ?_⟩
  obtain ⟨g, off, e1, e2, e3⟩ := hat h0
  exact ⟨g, off, e1, by omega, e3⟩
/-- the cells of one rule of a row -/
theorem rule_cells {w : World} {g o : Nat} {x : RuB} (h : ∀ (i : Nat) u, x.cs[i]? = some u → w.cell? ⟨g, o + i, none⟩ = some u) :
    w.cell? ⟨g, o, none⟩ = some (.int .i64 x.k) ∧ w.cell? ⟨g, o + 1, none⟩ = some (.int .u16 x.fl) ∧ w.cell? ⟨g, o + 2, none⟩ = some (.bool x.cr) ∧ w.cell? ⟨g, o + 3, none⟩ = some (.string x.st) ∧ w.cell? ⟨g, o + 4, none⟩ = some (.string x.ad) ∧ w.cell? ⟨g, o + 5, none⟩ = some (.string x.cd) ∧ w.cell? ⟨g, o + 6, none⟩ = some (.slice x.ao x.nl x.nc) :=
  ⟨h 0 _ rfl, h 1 _ rfl, h 2 _ rfl, h 3 _ rfl, h 4 _ rfl, h 5 _ rfl, h 6 _ rfl⟩
/-- the rules with their places -/
def en : Nat → List RuB → List (Nat × RuB)
  | _, [] => []
  | n, x :: t => (n, x) :: en (n + 1) t
theorem en_len : ∀ (n : Nat) (L : List RuB), (en n L).length = L.length
  | _, [] => rfl
  | n, _ :: t => by rw [en, List.length_cons, List.length_cons, en_len (n + 1) t]
theorem en_get : ∀ (n : Nat) (L : List RuB) (k : Nat), (en n L)[k]? = L[k]?.map fun x => (n + k, x)
  | _, [], _ => by simp [en]
  | n, x :: t, 0 => by simp [en]
  | n, x :: t, k + 1 => by
    rw [en, List.getElem?_cons_succ, List.getElem?_cons_succ, en_get (n + 1) t k, show n + 1 + k = n + (k + 1) by omega]
theorem en_snd : ∀ (n : Nat) (L : List RuB), (en n L).map (·.2) = L
  | _, [] => rfl
  | n, x :: t => by rw [en, List.map_cons, en_snd (n + 1) t]
/-- what a round of the loop gets -/
def ar (p : Nat × RuB) : Array Value := #[.int .i64 (p.1 : Int), p.2.v]

set_option maxRecDepth 100000 in
set_option maxHeartbeats 2000000 in
theorem all1_walks {w₀ : World} {B bx : Nat} {v : Value} {L : List RuB} (hbx : bx < B) (hc : w₀.cell? ⟨bx, 0, none⟩ = some v) (hr : RulesAt w₀ v L B) (hz : L.length ≤ 8796093022208) :
    Walks ar Try.prog 16 #[.pointer (some ⟨bx, 0, none⟩)] (en 0 L) B w₀ := by
  refine ⟨enters_of Try.func16 (by kernel_rfl) rfl, fun l J Jx W T₀ hW hs fJ fX hY h0 => ?_⟩
  obtain ⟨ao, c, rfl, hat⟩ := hr
  have hT0 : ∀ b, T₀ b → B ≤ b := fun b hb => (fJ.foot h0 hb).1
  have rd : ∀ wr : World, Chg T₀ W wr → Below B w₀ wr := fun wr c => hW.trans (c.below hs hT0)
  have hcW : W.cell? ⟨bx, 0, none⟩ = some (.slice ao L.length c) := (hW.cell (p := ⟨bx, 0, none⟩) hbx).trans hc
  have HY := hide hY
  have HAT := hide hat
  have FJ := hide fJ
  have FX := hide fX
  have H0 := hide h0
  have RD := hide rd
  have HBs := hide hs
  clear hY hat fJ fX h0 rd hT0 hc
  refine (callsIn_wide (n := 8)).1 ?_
  refine callsIn_of_wp Try.func16 rfl trivial ?_ rfl
  simp only [Try.ntmps16, List.size_toArray, List.length_cons, List.length_nil, Nat.reduceAdd, Nat.reduceSub, Array.replicate_succ, Array.replicate_zero, List.push_toArray, List.append_toArray, List.nil_append, List.cons_append]
  gi_wp2
  gi_loopw [7] (fun p wr => ∃ (k : Nat), p = .int .i64 (k : Int) ∧ k ≤ L.length ∧ Hid (∃ T, J ((en 0 L).take k) T wr ∧ Chg T₀ W wr ∧ ∀ b, T b → Up T₀ W wr b))
    (fun p _ => L.length - (intOf p).toNat)
  case atStart => exact ⟨0, rfl, Nat.zero_le _, ⟨T₀, by simpa using unhide H0, Chg.refl _ _, fun b hb => .inl hb⟩⟩
  case round =>
    obtain ⟨k, rfl, hk, HJ⟩ := hrel
    by_cases hkl : k < L.length
    · obtain ⟨g, off, rfl, hgB, hcell⟩ := unhide HAT (by omega)
      obtain ⟨x, hx⟩ : ∃ x, L[k]? = some x := ⟨_, List.getElem?_eq_getElem hkl⟩
      obtain ⟨T, hJ, hch, hup⟩ := unhide HJ
      have hbl := unhide RD _ hch
      obtain ⟨q0, q1, q2, q3, q4, q5, q6⟩ := rule_cells (w := wr) (g := g) (o := off + k * 7) (x := x) (fun i u hu => (hbl.cell (p := ⟨g, off + k * 7 + i, none⟩) hgB).trans (hcell k x hx i u hu))
      have hek : (en 0 L)[k]? = some (k, x) := by rw [en_get, hx]; simp
      have htk : (en 0 L).take (k + 1) = (en 0 L).take k ++ [(k, x)] := by rw [List.take_add_one, hek]; rfl
      obtain ⟨V, hV⟩ : ∃ V, V = wr.alloc (.cells #[.int .i64 x.k, .int .u16 x.fl, .bool x.cr, .string x.st, .string x.ad, .string x.cd, .slice x.ao x.nl x.nc] 26) := ⟨_, rfl⟩
      have cV : ∀ F, Chg F wr V := fun F => by rw [hV]; exact (Chg.refl F wr).alloc _
      have hJV : J ((en 0 L).take k) T V := (unhide FJ).abide hJ (cV _)
      have hchV : Chg T₀ W V := hch.on (cV (fun _ => False)) (fun i h => h.elim)
      have hupV : ∀ b, T b → Up T₀ W V b := fun b hb => by
        rcases hup b hb with e | e
        · exact .inl e
        · exact .inr ⟨e.1, Nat.lt_of_lt_of_le e.2 (cV (fun _ => False)).size⟩
      have hq : YieldAt Fence.wide 7 Try.prog l #[.int .i64 (k : Int), .agg #[.int .i64 x.k, .int .u16 x.fl, .bool x.cr, .string x.st, .string x.ad, .string x.cd, .slice x.ao x.nl x.nc]] V (RndPost J Jx ((en 0 L).take k ++ [(k, x)]) T V) :=
        (unhide HY ((en 0 L).take k) (k, x) T V hJV (by rw [← htk]; exact List.take_prefix ..) hchV).at 7
      subst hV
      obtain ⟨fn, tmps, assign, body, hy, hR⟩ := hq
      have HR := hide hR
      have HX := hide htk
      have HC := hide hchV
      have HU := hide hupV
      clear hR htk hch hup hJ hx hcell HJ hbl hek cV hJV hchV hupV
      gi_wp2
      refine (unhide HR).mono ?_
      rintro e W3 ⟨T3, c3, u3, (⟨rfl, hJ3⟩ | ⟨rfl, hX3⟩)⟩
      · have H3 : Hid (∃ T, J ((en 0 L).take (k + 1)) T W3 ∧ Chg T₀ W W3 ∧ ∀ b, T b → Up T₀ W W3 b) :=
          ⟨T3, by rw [unhide HX]; exact hJ3, (unhide HC).on c3 (unhide HU), Up.on (unhide HC) c3 (unhide HU) u3⟩
        clear c3 u3 hJ3
        gi_wp2
        go_roundw
        case rel => exact ⟨k + 1, by simp, by omega, H3⟩
        case measure => simp [intOf]; omega
      · have H3 : Hid (Ended (en 0 L) J Jx T₀ W W3) :=
          ⟨T3, (unhide HC).on c3 (unhide HU), Up.on (unhide HC) c3 (unhide HU) u3, .inr ⟨(en 0 L).take (k + 1), List.take_prefix .., by rw [unhide HX]; exact hX3⟩⟩
        clear c3 u3 hX3
        gi_wp2
        refine bodyPost_ret (results_none rfl _ _ _) rfl ?_
        exact ⟨⟨_, rfl⟩, unhide H3⟩
    · have hkk : k = L.length := by omega
      have H3 : Hid (Ended (en 0 L) J Jx T₀ W wr) := by
        obtain ⟨T, a, b, c⟩ := unhide HJ
        refine ⟨T, b, c, .inl ?_⟩
        rw [hkk, ← en_len 0 L, List.take_length] at a
        exact a
      clear hkk
      gi_wp2
      go_end0
      exact ⟨⟨_, rfl⟩, unhide H3⟩
end Rv
end Go.Proofs.Ytjcchogilbekoab
