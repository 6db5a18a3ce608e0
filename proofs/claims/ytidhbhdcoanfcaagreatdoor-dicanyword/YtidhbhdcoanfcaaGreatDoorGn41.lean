import Derived.ProofKit
import Derived.OpenShut
import Derived.Deep.Slices
import Derived.Test.YtidhbhdcoanfcaaGreatDoorGn40
namespace Go.Proofs.YtidhbhdcoanfcaaGreatDoor
open Go.RowKit
namespace ArgB

theorem laidOut : laidOutB Tryz.prog = true := by kernel_rfl

def ArgOf {α : Type} (enc : α → Value) (W : World) (v : Value) (L : List α) : Prop :=
 ∃ ao cap, v = .slice ao L.length cap ∧ L.length ≤ cap ∧ L.length ≤ maxLen ∧ (0 < L.length → ∃ g off, ao = some ⟨g, off, none⟩ ∧ g < W.heap.size ∧ ∀ (j : Nat) x, L[j]? = some x → W.cell? ⟨g, off + j, none⟩ = some (enc x))
theorem ArgOf.below {α : Type} {enc : α → Value} {W W' : World} {v : Value} {L : List α} (h : ArgOf enc W v L) (hB : Below W.heap.size W W') : ArgOf enc W' v L := by
 obtain ⟨ao, cap, e, h1, h2, h3⟩ := h
 refine ⟨ao, cap, e, h1, h2, fun h0 => ?_⟩
 obtain ⟨g, off, e2, hg, hc⟩ := h3 h0
 exact ⟨g, off, e2, Nat.lt_of_lt_of_le hg hB.size, fun j x hx => (hB.cell (p := ⟨g, off + j, none⟩) hg).trans (hc j x hx)⟩
theorem arg_at {α : Type} {enc : α → Value} {W : World} {a : Addr} {len cap : Nat} {ss : List α} (hlen : len ≤ ss.length) (hl : len ≤ cap) (hm : cap ≤ maxLen) (hcell : ∀ (i : Nat) x, ss[i]? = some x → W.cell? (a.add i) = some (enc x)) : ArgOf enc W (.slice (some a) len cap) (ss.take len) := by
 have hl2 : (ss.take len).length = len := by simp; omega
 refine ⟨some a, cap, by rw [hl2], by omega, by omega, fun h0 => ?_⟩
 rw [hl2] at h0
 have h00 := hcell 0 ss[0] (List.getElem?_eq_getElem (by omega))
 obtain ⟨b, off, spot⟩ := a
 have hspot : spot = none := by simpa [Addr.add] using World.cell?_spot h00
 subst hspot
 refine ⟨b, off, rfl, ?_, fun j x hx => ?_⟩
 ·exact World.block_lt_of_cell? W _ h00
 ·rw [List.getElem?_take] at hx
  split at hx
  ·have := hcell j x hx
   rwa [Go.WideShapes.add_plain] at this
  ·cases hx
theorem arg_nil {α : Type} {enc : α → Value} {W : World} : ArgOf enc W (.slice none 0 0) ([] : List α) := ⟨none, 0, rfl, Nat.le_refl _, by simp, fun h => absurd h (by simp)⟩
section
variable {H : Type} {enc : TypeId × Value → H} {P : Program} {w : World}

theorem open_arg {α : Type} (ev : α → Value) (dat : α → DataW H) {t e : TypeId} (ht : P.underlying t = some (.slice e)) (hc : P.cellsOf e = 1)
  (hel : ∀ (n : Nat) (u : Value) (d : DataW H) (p : List MemPlace), DataW.trod enc P w 0 (fun _ => true) true n e [u] = some (d, p) → ∃ x : α, u = ev x ∧ d = dat x)
  {a : Option Addr} {len cap : Nat} {d : DataW H} {p : List MemPlace} (h : DataW.Trod enc P w 0 (fun _ => true) true t (.slice a len cap) d p) :
  ∃ L S : List α, ArgOf ev w (.slice a len cap) L ∧ ((d = .nil ∧ L = []) ∨ d = .slice (L.map dat) (S.map dat)) := by
 obtain ⟨fuel, hf⟩ := h
 rcases Go.Deep.open_slice1 ht hc hf with ⟨hcs, hx⟩ | ⟨x, len', cap', m, n, V, D, Pl, hcs, _, hl, hm, hmm, hx, hV⟩
 ·simp [Value.cells] at hcs
  obtain ⟨rfl, rfl, rfl⟩ := hcs
  simp only [Prod.mk.injEq] at hx
  exact ⟨[], [], arg_nil, .inl ⟨hx.1, rfl⟩⟩
 ·simp [Value.cells] at hcs
  obtain ⟨rfl, rfl, rfl⟩ := hcs
  have hm2 : m = cap := by simpa using hmm
  subst hm2
  have hX : ∀ i, i < m → ∃ x : α, V i = ev x ∧ D i = dat x := fun i hi => hel n (V i) (D i) (Pl i) (hV i hi).2
  have hss : ∀ j, j ≤ m → ∃ ss : List α, ss.length = j ∧ ∀ (i : Nat) y, ss[i]? = some y → V i = ev y ∧ D i = dat y := by
   intro j
   induction j with
   | zero => intro _; exact ⟨[], rfl, fun i y h => by simp at h⟩
   | succ j ih =>
    intro hj
    obtain ⟨ss, h1, h2⟩ := ih (by omega)
    obtain ⟨y, hy⟩ := hX j (by omega)
    refine ⟨ss ++ [y], by simp [h1], fun i z hz => ?_⟩
    by_cases hi : i < ss.length
    ·rw [List.getElem?_append_left hi] at hz
     exact h2 i z hz
    ·have : i = j := by
      have := (List.getElem?_eq_some_iff.1 hz).1
      simp at this
      omega
     subst this
     rw [List.getElem?_append_right (by omega)] at hz
     simp [h1] at hz
     subst hz
     exact hy
  obtain ⟨ss, h1, h2⟩ := hss m (Nat.le_refl _)
  refine ⟨ss.take len, ss.drop len, arg_at (by omega) hl hm (fun i y hy => ?_), .inr ?_⟩
  ·have hi : i < m := by rw [← h1]; exact (List.getElem?_eq_some_iff.1 hy).1
   rw [(hV i hi).1, (h2 i y hy).1]
  ·simp only [Prod.mk.injEq] at hx
   rw [hx.1]
   congr 1
   ·apply List.ext_getElem?
    intro i
    by_cases hi : i < len
    ·have hi2 : i < ss.length := by omega
     simp only [List.getElem?_map, List.getElem?_range hi, List.getElem?_take, if_pos hi, List.getElem?_eq_getElem hi2, Option.map_some]
     rw [(h2 i _ (List.getElem?_eq_getElem hi2)).2]
    ·simp [hi]
     omega
   ·apply List.ext_getElem?
    intro i
    by_cases hi : i < m - len
    ·have hi2 : len + i < ss.length := by omega
     simp only [List.getElem?_map, List.getElem?_range hi, List.getElem?_drop, List.getElem?_eq_getElem hi2, Option.map_some]
     rw [(h2 _ _ (List.getElem?_eq_getElem hi2)).2]
    ·rw [List.getElem?_eq_none (by rw [List.length_map, List.length_range]; omega), List.getElem?_eq_none (by rw [List.length_map, List.length_drop, h1]; omega)]
def datS (s : ByteArray) : DataW H := .lit (.string s.data.toList)
theorem el_string {e : TypeId} (he : P.underlying e = some .string) (n : Nat) (u : Value) (d : DataW H) (p : List MemPlace) (h : DataW.trod enc P w 0 (fun _ => true) true n e [u] = some (d, p)) : ∃ x : ByteArray, u = .string x ∧ d = datS x := by
 obtain ⟨s, h1, h2, _⟩ := DataW.trod_string he h
 simp at h1 h2
 exact ⟨s, h1, h2.1⟩
theorem weights_all {e : TypeId} (L : List ByteArray) : ∀ x ∈ L, x.data.toList.length ∈ DataW.weightsAll (H := H) P e (L.map datS) := by
 induction L with
 | nil => intro x hx; simp at hx
 | cons y t ih =>
  intro x hx
  simp only [List.map_cons, DataW.weightsAll, List.mem_append]
  rcases List.mem_cons.1 hx with rfl | hx
  ·left; simp [datS, DataW.weights]
  ·right; exact ih x hx
theorem sized_strs {ts : List TypeId} {ds : List (DataW H)} (h : (DataW.weightsEach P ts ds).all (· ≤ reachBytes) = true) {j : Nat} {t e : TypeId} {L S : List ByteArray} (ht : ts[j]? = some t) (hd : ds[j]? = some (.slice (L.map datS) (S.map datS))) (hu : P.underlying t = some (.slice e)) :
  ∀ x ∈ L, x.size ≤ 140737488351232 := by
 intro x hx
 have hm := weights_all (H := H) (P := P) (e := e) L x hx
 have := List.all_eq_true.1 h _ (DataW.weights_mem_each ht hd x.data.toList.length (by simp only [DataW.weights, hu]; simp only [List.mem_cons, List.mem_append]; exact .inr (.inl hm)))
 have h2 : x.data.toList.length ≤ reachBytes := by simpa using this
 have h3 : reachBytes = 140737488351232 := by decide
 have h4 : x.data.toList.length = x.size := by simp
 omega
end
end ArgB
namespace Af
open RowB FldW
def F00 : Fil := ⟨1, [], [], [0, 0, 0, 0, 0], 3, [], [], [], []⟩
theorem affR_00 : affR [] = .ok F00 := by kernel_rfl
theorem isW_fit {s : ByteArray} (h : VlW.isW s = true) : fitW s.data.toList ∧ s.size ≤ 64 := by
 unfold VlW.isW VlW.okB at h
 simp only [Bool.and_eq_true, decide_eq_true_eq, Bool.not_eq_true'] at h
 obtain ⟨h1, h2, h3⟩ := h
 refine ⟨⟨fun q => by rw [q] at h2; simp at h2, by simp; exact h1, h3⟩, h1⟩
theorem dec_dg (n : Nat) (hn : n ≤ 8192) : ∃ D, DgN D n ∧ ∀ w, Calls Tryz.prog 19 #[.int .i64 (n : Int)] w fun e w' => e = .returned (.string (Fld.str D)) ∧ Below w.heap.size w w' := by
 by_cases h0 : n = 0
 ·subst h0
  refine ⟨[48], ⟨by decide, by decide, by decide, by decide⟩, fun w => ?_⟩
  refine (DecW.dec_zero w).mono ?_
  rintro e w' ⟨rfl, hw⟩
  obtain rfl := hw.symm
  exact ⟨rfl, Below.refl _ _⟩
 ·exact ⟨Lib.decDigits n, dgN_dec hn, fun w => DecW.dec_pos n (by omega) (by omega) w⟩
structure FitA (w W : World) (v : Value) (T : ByteArray) (X : List Bs) : Prop where
 fit : ∀ x ∈ X, fitW x
 few : X.length ≤ 8192
 row : W.ownsRow w.heap.size 9 1 v X.length (vals X)
 txt : T = Fld.str (anyT X)
 len : T.size ≤ 40200
 low : Below w.heap.size w W
theorem FitA.size {w W : World} {v : Value} {T : ByteArray} {X : List Bs} (h : FitA w W v T X) : (anyT X).length = T.size := by rw [h.txt, str_size]
theorem farg_nil (W : World) : So.FArg W (.slice none 0 0) [] := ⟨none, 0, rfl, Nat.le_refl _, Nat.zero_le _, fun _ => rfl, fun h => absurd h (by simp)⟩
theorem str_wd (l : Bs) : Wd.str l = Fld.str l := rfl
theorem FitA.next {w W W' : World} {v v' : Value} {T x : ByteArray} {X : List Bs} (h : FitA w W v T X) (hx : VlW.isW x = true) (hn : X.length < 8192) (ht : T.size < 40000) (hr : W'.ownsRow w.heap.size 9 1 v' (X.length + 1) (vals X ++ [.string x])) (hb : Below w.heap.size w W') : FitA w W' v' (Fld.str (anyT X ++ (Wd.wt x.data.toList ++ [10]))) (X ++ [x.data.toList]) := by
 obtain ⟨hf, h64⟩ := isW_fit hx
 have hl := Wd.wt_len x.data.toList
 have hl2 : x.data.toList.length = x.size := by simp
 refine ⟨fun y hy => ?_, by simp; omega, ?_, by rw [anyT_snoc], ?_, hb⟩
 ·rcases List.mem_append.1 hy with q | q
  ·exact h.fit y q
  ·rw [List.mem_singleton] at q
   rw [q]
   exact hf
 ·have e : vals (X ++ [x.data.toList]) = vals X ++ [.string x] := by simp [vals, show Fld.str x.data.toList = x from rfl]
  rw [e, List.length_append]
  exact hr
 ·rw [str_size]
  have := h.size
  simp only [List.length_append, List.length_singleton]
  omega
theorem FitA.below {w W W' : World} {v : Value} {T : ByteArray} {X : List Bs} (h : FitA w W v T X) (b : Below W.heap.size W W') : FitA w W' v T X :=
 ⟨h.fit, h.few, own_kq h.row (T := []) (M := noM) (Kq.below b) (by simp), h.txt, h.len, h.low.trans (b.mono h.low.size)⟩
abbrev AnyW (v : Value) (w : World) : Prop := Calls Tryz.prog 4 #[v] w fun e w' => e = .returned (.bool true) ∧ Below w.heap.size w w'
set_option maxRecDepth 100000 in
set_option maxHeartbeats 8000000 in
theorem anyword_walk (v : Value) (L : List ByteArray) (w : World) (hA : ArgB.ArgOf Value.string w v L) (hz : ∀ x ∈ L, x.size ≤ maxLen) (hM : Mx w.heap.size w) : AnyW v w := by
 obtain ⟨i0, hi, hz'⟩ := Option.map_eq_some_iff.1 infoS
 simp only [Prod.mk.injEq] at hz'
 obtain ⟨hz0, hz1, hz2⟩ := hz'
 have HAF := hide (fun W (b : Below w.heap.size w W) => affOk (a := ⟨#[]⟩) (hM.up b) affR_00)
 unfold AffOk at HAF
 have HWk := hide (wakes12_any w hM)
 have HV := hide (fun x (hx : x ∈ L) W => VlW.ref_any x W (hz x hx))
 have HA := hide hA
 obtain ⟨ao, cap, rfl, hcap, hlm, -⟩ := hA
 generalize hm : L.length = m at *
 have HM' := hide hm
 unfold maxLen at hlm
 clear hm hz hM
 go_enter Tryz.func4, Tryz.ntmps4
 go_wp2_with fail
 refine (unhide HWk).mono ?_
 rintro e w1 ⟨rfl, b1⟩
 have B1 := hide b1
 clear b1
 go_wp2_with fail
 go_loopw [3, 4, 17] (fun s3 s4 s17 wr => ∃ (k : Nat) (X : List Bs) (T : ByteArray) (a : Option Addr) (c : Nat), k ≤ m ∧ s17 = .int .i64 k ∧ s4 = .string T ∧ s3 = .slice a X.length c ∧ Hid (FitA w wr s3 T X)) (fun _ _ s17 _ => m - (intOf s17).toNat)
 case atStart => exact ⟨0, [], ⟨#[]⟩, none, 0, Nat.zero_le _, rfl, rfl, rfl, ⟨fun x hx => (by cases hx), by simp, World.ownsRow_nil _ _ _ _, rfl, by decide, unhide B1⟩⟩
 case round =>
  obtain ⟨k, X, T, a3, c3, hk, rfl, rfl, rfl, HF⟩ := hrel
  by_cases hlt : k < m
  ·have hltz : (k : Int) < (m : Int) := by omega
   obtain ⟨x, hx⟩ : ∃ x, L[k]? = some x := ⟨_, List.getElem?_eq_getElem (by rw [unhide HM']; exact hlt)⟩
   obtain ⟨g, off, rfl, hg, hcl⟩ := (by
    obtain ⟨ao', cap', e1, -, -, h3⟩ := (unhide HA).below (unhide HF).low
    injection e1 with e1
    subst e1
    exact h3 (by rw [unhide HM']; omega) : ∃ g off, ao = some ⟨g, off, none⟩ ∧ g < wr.heap.size ∧ ∀ (j : Nat) x, L[j]? = some x → wr.cell? ⟨g, off + j, none⟩ = some (.string x))
   have ck := hcl k x hx
   have HVx := hide (unhide HV x (List.mem_of_getElem? hx))
   clear hcl hx
   have hfew := (unhide HF).few
   cases hw : VlW.isW x with
   | false =>
    rw [hw] at HVx
    clear hw
    go_wp2_with (go_at_call 16; refine (unhide HVx _).mono ?_; rintro e w9 ⟨rfl, hw9⟩; obtain rfl := hw9.symm)
    go_roundw
    case rel => exact ⟨k + 1, X, T, a3, c3, by omega, by go_num, rfl, rfl, HF⟩
    case measure => simp [intOf]; omega
   | true =>
    rw [hw] at HVx
    by_cases hn : X.length < 8192
    ·have hnz : (X.length : Int) < 8192 := by omega
     by_cases ht : T.size < 40000
     ·have htz : (T.size : Int) < 40000 := by omega
      have h64 := (isW_fit hw).2
      have HWr := hide (fun W => RdW.write_any x W (by omega))
      have hwl := Wd.wt_len x.data.toList
      have hxl : x.data.toList.length = x.size := by simp
      have HN := hide (fun W' v' hr hb => (unhide HF).next (W' := W') (v' := v') hw hn ht hr hb)
      have hsz := (unhide HF).low.size
      have ha1 : ∀ Wq : World, (Op.stringOp .add (Wd.str (Wd.wt x.data.toList)) ⟨#[10]⟩).run Tryz.prog Wq = .ok (.string (Fld.str (Wd.wt x.data.toList ++ [10]))) Wq := fun Wq => by
       rw [show Fld.str (Wd.wt x.data.toList ++ [10]) = Fld.str (Wd.wt x.data.toList) ++ Fld.str [10] from (str_add _ _).symm]
       exact run_string_add_sum _ _ _ (by rw [str_wd, str_size]; have : (ByteArray.mk #[10]).size = 1 := rfl; omega)
      have ha2 : ∀ Wq : World, (Op.stringOp .add T (Fld.str (Wd.wt x.data.toList ++ [10]))).run Tryz.prog Wq = .ok (.string (Fld.str (anyT X ++ (Wd.wt x.data.toList ++ [10])))) Wq := fun Wq => by
       rw [show Fld.str (anyT X ++ (Wd.wt x.data.toList ++ [10])) = Fld.str (anyT X) ++ Fld.str (Wd.wt x.data.toList ++ [10]) from (str_add _ _).symm, ← (unhide HF).txt]
       exact run_string_add_sum _ _ _ (by rw [str_size]; simp only [List.length_append, List.length_singleton]; omega)
      clear hw hwl hxl h64
      generalize Wd.str (Wd.wt x.data.toList) = Y at *
      generalize Fld.str (Wd.wt x.data.toList ++ [10]) = Y2 at *
      generalize hT2 : Fld.str (anyT X ++ (Wd.wt x.data.toList ++ [10])) = T2 at *
      go_wp2_with (first
       | (go_at_call 16; refine (unhide HVx _).mono ?_; rintro e w9 ⟨rfl, hw9⟩; obtain rfl := hw9.symm)
       | (at_builtin; refine wpList_append_own _ rfl _ _ 23 rfl w.heap.size 9 i0 (.string ⟨#[]⟩) 1 16 Tryz.underlying23 hi hz0 hz1 hz2 rfl (by decide) _ _ _ rfl ((unhide HF).row.alloc _) ⟨wr.heap.size, 0, none⟩ 1 1 [.string x] rfl rfl (cell_one_new _ _ _) (fun y hy => by simp at hy; subst hy; rfl) (by unfold maxLen; omega) (by omega) (by simp; omega) ?_; intro v' w2 hown' hgrow _; have HO1 := hide hown'; have HB1 := hide (So.irow_push (unhide HF).row (unhide HF).low hgrow); clear hown' hgrow)
       | (go_at_call 17; refine (unhide HWr _).mono ?_; rintro e w8 ⟨rfl, b8⟩; have HB8 := hide b8; clear b8))
      obtain ⟨a4, c4, rfl, -, -⟩ := own_len (unhide HO1)
      go_roundw
      case rel => exact ⟨k + 1, X ++ [x.data.toList], T2, a4, c4, by omega, by go_num, rfl, by simp, (unhide HN _ _ (unhide HO1) (unhide HB1)).below (unhide HB8)⟩
      case measure => simp [intOf]; omega
     ·have htz : decide ((T.size : Int) < 40000) = false := decide_eq_false (by omega)
      clear ht hn hw hfew
      go_wp2_with (go_at_call 16; refine (unhide HVx _).mono ?_; rintro e w9 ⟨rfl, hw9⟩; obtain rfl := hw9.symm)
      go_roundw
      case rel => exact ⟨k + 1, X, T, a3, c3, by omega, by go_num, rfl, rfl, HF⟩
      case measure => simp [intOf]; omega
    ·have hnz : ¬ (X.length : Int) < 8192 := by omega
     clear hn hw hfew
     go_wp2_with (go_at_call 16; refine (unhide HVx _).mono ?_; rintro e w9 ⟨rfl, hw9⟩; obtain rfl := hw9.symm)
     go_roundw
     case rel => exact ⟨k + 1, X, T, a3, c3, by omega, by go_num, rfl, rfl, HF⟩
     case measure => simp [intOf]; omega
  ·obtain rfl : k = m := by omega
   have hltz : ¬ (k : Int) < (k : Int) := by omega
   clear HA HV
   have hW := (unhide HF).fit
   have hfew := (unhide HF).few
   obtain ⟨D, hD, hDC⟩ := dec_dg X.length hfew
   have HDC := hide hDC
   have hTs := (unhide HF).size
   have hTl := (unhide HF).len
   have hdl := hD.len
   have hdr := dic_any (F := F00) hW hfew hD (by omega)
   have HDR : Hid (dicR F00 (Fld.str (D ++ 10 :: anyT X)).data.toList = .ok (X.map fun x => ⟨x, []⟩)) := by
    rw [show (Fld.str (D ++ 10 :: anyT X)).data.toList = D ++ 10 :: anyT X by simp [Fld.str]]
    exact hdr
   have ha1 : ∀ Wq : World, (Op.stringOp .add (Fld.str D) ⟨#[10]⟩).run Tryz.prog Wq = .ok (.string (Fld.str (D ++ [10]))) Wq := fun Wq => by
    rw [show Fld.str (D ++ [10]) = Fld.str D ++ Fld.str [10] from (str_add _ _).symm]
    exact run_string_add_sum _ _ _ (by rw [str_size]; have : (ByteArray.mk #[10]).size = 1 := rfl; omega)
   have ha2 : ∀ Wq : World, (Op.stringOp .add (Fld.str (D ++ [10])) T).run Tryz.prog Wq = .ok (.string (Fld.str (D ++ 10 :: anyT X))) Wq := fun Wq => by
    rw [show D ++ 10 :: anyT X = (D ++ [10]) ++ anyT X by simp, show Fld.str ((D ++ [10]) ++ anyT X) = Fld.str (D ++ [10]) ++ Fld.str (anyT X) from (str_add _ _).symm, ← (unhide HF).txt]
    exact run_string_add_sum _ _ _ (by rw [str_size]; simp only [List.length_append, List.length_singleton]; omega)
   clear hW hDC hTs hTl hdl hdr hD
   generalize Fld.str (D ++ 10 :: anyT X) = S at *
   generalize Fld.str (D ++ [10]) = S1 at *
   generalize Fld.str D = S0 at *
   go_wp2_with fail
   refine (unhide HAF _ (unhide HF).low).mono ?_
   rintro e w3 ⟨fb, rfl, b3, hDk⟩
   have HDk := hide hDk
   have HF3 := hide ((unhide HF).below b3)
   clear b3 hDk HF
   go_wp2_with fail
   refine (unhide HDC _).mono ?_
   rintro e w4 ⟨rfl, b4⟩
   have b34 : Below w3.heap.size w3 w4 := ((Below.refl _ _).alloc (Nat.le_refl _) _).trans (b4.mono (by simp))
   have HB4 := hide b34
   have HF4 := hide ((unhide HF3).below b34)
   clear b4 b34 HF3
   go_wp2_with fail
   refine ((unhide HDk).yesW (unhide HB4) (unhide HDR)).mono ?_
   rintro e w5 ⟨wb, n5, Q5, rfl, b5, hwa⟩
   have HF5 := hide ((unhide HF4).below b5)
   have b6 : Below w5.heap.size w5 (w5.alloc (.cells #[.int .i64 0, .int .i64 0, .int .i64 0] 31)) := (Below.refl _ _).alloc (Nat.le_refl _) _
   have HEN := hide (entries_any (hwa.below b6) (fun x hx => by
    obtain ⟨y, -, rfl⟩ := List.mem_map.1 hx
    simp))
   have HF6 := hide ((unhide HF5).below b6)
   clear b5 hwa b6 HF4 HF5
   go_wp2_with fail
   refine (unhide HEN).mono ?_
   rintro e w7 ⟨b7, v7, fv7, rfl, hE⟩
   have HF7 := hide ((unhide HF6).below b7)
   have hen := hE.ena
   obtain ⟨a7, c7, rfl, -⟩ := id hen
   have HE7 := hide hen
   clear b7 hE hen HF6 HEN
   have hln : (X.map fun x => (⟨x, []⟩ : Ent)).length = X.length := by simp
   rw [hln]
   have hne : ((X.length : Int) != (X.length : Int)) = false := by simp
   generalize hn : X.length = n at *
   have HXN := hide hn
   clear hn
   go_wp2_with fail
   go_loopw [74] (fun s74 wr => ∃ k : Nat, k ≤ n ∧ s74 = .int .i64 k ∧ Hid (Below w7.heap.size w7 wr)) (fun s74 _ => n - (intOf s74).toNat)
   case atStart => exact ⟨0, Nat.zero_le _, rfl, Below.refl _ _⟩
   case round =>
    obtain ⟨k, hk, rfl, HB⟩ := hrel
    by_cases hlt : k < n
    ·have hltz : (k : Int) < (n : Int) := by omega
     obtain ⟨x, hx⟩ : ∃ x, X[k]? = some x := ⟨_, List.getElem?_eq_getElem (by rw [unhide HXN]; exact hlt)⟩
     obtain ⟨g1, fl, rfl, hg1, c0, c1, hfa⟩ : ∃ g fl, a7 = some ⟨g, 0, none⟩ ∧ g < wr.heap.size ∧ wr.cell? ⟨g, k * 2, none⟩ = some (.string (Fld.str x)) ∧ wr.cell? ⟨g, k * 2 + 1, none⟩ = some fl ∧ So.FArg wr fl [] := by
      obtain ⟨ao', cap', e1, -, -, h3⟩ := (unhide HE7).below (unhide HB)
      injection e1 with e1 e2 e3
      subst e1
      exact h3 k ⟨x, []⟩ (by simp [hx])
     obtain ⟨g2, rfl, hg2, c2⟩ : ∃ g, a3 = some ⟨g, 0, none⟩ ∧ g < wr.heap.size ∧ wr.cell? ⟨g, k, none⟩ = some (.string (Fld.str x)) := by
      have hro := own_kq (unhide HF7).row (T := []) (M := noM) (Kq.below (unhide HB)) (by simp)
      obtain ⟨g, cap', e, -, hg, -, -, -, hc⟩ := own_at hro (by rw [unhide HXN]; omega)
      injection e with e1 e2 e3
      refine ⟨g, e1, hg, ?_⟩
      rw [hc k (by rw [unhide HXN]; omega)]
      simp [vals, hx]
     obtain ⟨af, cf, rfl, -⟩ := id hfa
     have HIS := hide (fun W (b : Below wr.heap.size wr W) => entryIs_any (s := Fld.str x) (hfa.below b) (farg_nil W))
     have h4 : wr.drew.cell? ⟨g1, k * 2, none⟩ = some (.string (Fld.str x)) ∧ wr.drew.cell? ⟨g1, k * 2 + 1, none⟩ = some (.slice af 0 cf) ∧ wr.drew.cell? ⟨g2, k, none⟩ = some (.string (Fld.str x)) := ⟨c0, c1, c2⟩
     clear hfa hx
     generalize Fld.str x = sx at *
     go_wp2
     go_region_held2 (fun w' => w'.cell? ⟨g1, k * 2, none⟩ = some (.string sx) ∧ w'.cell? ⟨g1, k * 2 + 1, none⟩ = some (.slice af 0 cf) ∧ w'.cell? ⟨g2, k, none⟩ = some (.string sx)) (first | (with_reducible exact h5) | (with_reducible exact h4)) (first | (go_at_call 21; refine (unhide HIS _ ((Below.refl wr.heap.size wr).drew)).mono ?_; rintro e w8 ⟨rfl, b8⟩; have HB8 := hide (((Below.refl wr.heap.size wr).drew).trans b8); have h5 : w8.cell? ⟨g1, k * 2, none⟩ = some (.string sx) ∧ w8.cell? ⟨g1, k * 2 + 1, none⟩ = some (.slice af 0 cf) ∧ w8.cell? ⟨g2, k, none⟩ = some (.string sx) := ⟨((unhide HB8).cell (p := ⟨g1, k * 2, none⟩) hg1).trans c0, ((unhide HB8).cell (p := ⟨g1, k * 2 + 1, none⟩) hg1).trans c1, ((unhide HB8).cell (p := ⟨g2, k, none⟩) hg2).trans c2⟩))
     go_wp2
     go_roundw
     case rel => exact ⟨k + 1, by omega, by go_num, (unhide HB).trans ((unhide HB8).mono (unhide HB).size)⟩
     case measure => simp [intOf]; omega
    ·obtain rfl : k = n := by omega
     have hltz : ¬ (k : Int) < (k : Int) := by omega
     go_wp2
     go_ret
     exact ⟨rfl, (unhide HF7).low.trans ((unhide HB).mono (unhide HF7).low.size)⟩
end Af
end Go.Proofs.YtidhbhdcoanfcaaGreatDoor
