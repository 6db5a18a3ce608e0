import Derived.Test.YtidhbhdcoanfcaaGreatDoorGp37
set_option maxHeartbeats 8000000
set_option maxRecDepth 100000
namespace Go.Proofs.YtidhbhdcoanfcaaGreatDoor
open Go.RowKit
namespace Af
open RowB
theorem wk_ents {n : Nat} {W : World} {v : Value} {fv : List Value} (h : EntR n W [⟨[102, 108, 121], [65]⟩, ⟨[105, 110, 47, 111, 117, 116], []⟩] v fv 2) : ∃ g cap g1 c1, v = .slice (some ⟨g, 0, none⟩) 2 cap ∧ g < W.heap.size ∧ W.cell? ⟨g, 0, none⟩ = some (.string ⟨#[102, 108, 121]⟩) ∧ W.cell? ⟨g, 1, none⟩ = some (.slice (some ⟨g1, 0, none⟩) 1 c1) ∧ W.cell? ⟨g, 2, none⟩ = some (.string ⟨#[105, 110, 47, 111, 117, 116]⟩) ∧ W.cell? ⟨g1, 0, none⟩ = some (.int .u16 65) ∧ g1 < W.heap.size := by
 obtain ⟨h1, h2, h3⟩ := h
 obtain ⟨g, cap, rfl, -, hg, -, -, -, hcl⟩ := own_at h1 (by decide)
 match fv, h2 with
 | [u0, u1], _ =>
  have f0 := h3 0 u0 _ rfl rfl
  rcases f0 with ⟨-, q⟩ | f0
  ·cases q
  ·obtain ⟨g1, c1, e1, -, hg1, -, -, hc⟩ := So.FRow.cells f0
   subst e1
   refine ⟨g, cap, g1, c1, rfl, hg, hcl 0 (by decide), hcl 1 (by decide), hcl 2 (by decide), ?_, hg1⟩
   have := hc 0 (by simp)
   simp [So.encF] at this
   exact this.1
theorem wakes12_any (w : World) (hM : Mx w.heap.size w) : Calls Tryz.prog 15 #[] w fun e w' => e = .returned (.bool true) ∧ Below w.heap.size w w' := by
 have HR : Hid (Calls Tryz.prog 12 #[.string ⟨#[83, 70, 88, 32, 65, 32, 89, 32, 48, 10]⟩] w fun e w' => Below w.heap.size w w' ∧ ∃ f, e = .returned (.tuple #[.pointer (some ⟨f, 0, none⟩), .agg #[.int .i64 0, .int .i64 0, .int .i64 0]]) ∧ Hid (∀ W, Below w'.heap.size w' W → Calls Tryz.prog 18 #[.pointer (some ⟨f, 0, none⟩), .string ⟨#[50, 10, 102, 108, 121, 47, 65, 10, 105, 110, 92, 47, 111, 117, 116, 10]⟩] W fun e W' => Below W.heap.size W W' ∧ ∃ wb, e = .returned (.tuple #[.pointer (some ⟨wb, 0, none⟩), .agg #[.int .i64 0, .int .i64 0, .int .i64 0]]) ∧ Hid (∀ V, Below W'.heap.size W' V → Calls Tryz.prog 24 #[.pointer (some ⟨wb, 0, none⟩)] V (fun e V' => e = .returned (.int .i64 2) ∧ V' = V) ∧ Calls Tryz.prog 20 #[.pointer (some ⟨wb, 0, none⟩)] V fun e V' => Below V.heap.size V V' ∧ ∃ g cap g1 c1, e = .returned (.slice (some ⟨g, 0, none⟩) 2 cap) ∧ g < V'.heap.size ∧ V'.cell? ⟨g, 0, none⟩ = some (.string ⟨#[102, 108, 121]⟩) ∧ V'.cell? ⟨g, 1, none⟩ = some (.slice (some ⟨g1, 0, none⟩) 1 c1) ∧ V'.cell? ⟨g, 2, none⟩ = some (.string ⟨#[105, 110, 47, 111, 117, 116]⟩) ∧ V'.cell? ⟨g1, 0, none⟩ = some (.int .u16 65) ∧ g1 < V'.heap.size))) := by
  refine (Read_any _ w hM).mono ?_
  rintro e w' ⟨b, h⟩
  have hk : affR (⟨#[83, 70, 88, 32, 65, 32, 89, 32, 48, 10]⟩ : ByteArray).data.toList = .ok wkF2 := wk_aff2
  rw [hk] at h
  obtain ⟨B, P, hB, rfl, hF⟩ := h
  refine ⟨b, _, rfl, fun W bW => ?_⟩
  have hFB : B ≤ w'.heap.size := Nat.le_of_lt (Nat.lt_of_le_of_lt hF.fbB (lt_some hF.fil))
  have hMB : Mx B W := by
   obtain ⟨m1, m2⟩ := (hM.low b).low (bW.mono b.size)
   exact ⟨Nat.lt_of_lt_of_le m1 hB, m2⟩
  have hd := dic_of wk_aff2 (hF.below bW) hMB (Nat.le_trans hFB bW.size) ⟨#[50, 10, 102, 108, 121, 47, 65, 10, 105, 110, 92, 47, 111, 117, 116, 10]⟩
  have hk2 : dicR wkF2 (⟨#[50, 10, 102, 108, 121, 47, 65, 10, 105, 110, 92, 47, 111, 117, 116, 10]⟩ : ByteArray).data.toList = .ok [⟨[102, 108, 121], [65]⟩, ⟨[105, 110, 47, 111, 117, 116], []⟩] := wk_dic
  rw [hk2] at hd
  refine hd.mono ?_
  rintro e W' ⟨b2, n0, wb, Q, -, rfl, hW⟩
  refine ⟨b2, wb, rfl, fun V bV => ⟨len_any (hW.below bV), (entries_any (hW.below bV) (dicR_len (affR_sets wk_aff2) wk_dic)).mono ?_⟩⟩
  rintro e V' ⟨b3, v, fv, rfl, hE⟩
  obtain ⟨g, cap, g1, c1, rfl, k1, k2, k3, k4, k5, k6⟩ := wk_ents hE
  exact ⟨b3, g, cap, g1, c1, rfl, k1, k2, k3, k4, k5, k6⟩
 clear hM
 go_enter Tryz.func15, Tryz.ntmps15
 go_wp2_with (first
  | (go_at_call 12; refine (unhide HR).mono ?_; rintro e w1 ⟨b1, f, rfl, HA⟩; have HB1 := hide b1; clear b1)
  | (go_at_call 18; refine (unhide HA _ (by (repeat (first | exact Below.refl _ _ | refine Below.drew ?_ | refine Below.alloc ?_ (by first | (simp; done) | (simp; omega)) _ | refine Below.setCell ?_ (by first | (simp; done) | (simp; omega)) _)))).mono ?_; rintro e w2 ⟨b2, wb, rfl, HD⟩; have HB2 := hide ((unhide HB1).trans ((((Below.refl _ _).alloc (Nat.le_refl _) _).trans (b2.mono (by simp))).mono (unhide HB1).size)); clear b2)
  | (go_at_call 24; refine (unhide HD _ (by (repeat (first | exact Below.refl _ _ | refine Below.drew ?_ | refine Below.alloc ?_ (by first | (simp; done) | (simp; omega)) _ | refine Below.setCell ?_ (by first | (simp; done) | (simp; omega)) _)))).1.mono ?_; rintro e w3 ⟨rfl, hw3⟩; obtain rfl := hw3.symm)
  | (go_at_call 20; refine (unhide HD _ (by (repeat (first | exact Below.refl _ _ | refine Below.drew ?_ | refine Below.alloc ?_ (by first | (simp; done) | (simp; omega)) _ | refine Below.setCell ?_ (by first | (simp; done) | (simp; omega)) _)))).2.mono ?_; rintro e w4 ⟨b4, g, cap, g1, c1, rfl, k1, k2, k3, k4, k5, k6⟩; have HB4 := hide ((unhide HB2).trans ((((Below.refl _ _).alloc (Nat.le_refl _) _).trans (b4.mono (by simp))).mono (unhide HB2).size)); clear b4))
 go_ret
 exact ⟨rfl, unhide HB4⟩
open FldW
def StrAt (w : World) (ao : Option Addr) (L : List Bs) : Prop := L ≠ [] → ∃ g off, ao = some ⟨g, off, none⟩ ∧ g < w.heap.size ∧ ∀ j x, L[j]? = some x → w.cell? ⟨g, off + j, none⟩ = some (.string (Fld.str x))
theorem StrAt.below {w w' : World} {ao : Option Addr} {L : List Bs} (h : StrAt w ao L) (k : Below w.heap.size w w') : StrAt w' ao L := fun hn => by
 obtain ⟨g, off, rfl, hg, hc⟩ := h hn
 exact ⟨g, off, rfl, Nat.lt_of_lt_of_le hg k.size, fun j x hj => (k.cell (p := ⟨g, off + j, none⟩) hg).trans (hc j x hj)⟩
theorem StrAt.of_own {w : World} {B : Nat} {v : Value} {L : List Bs} (h : w.ownsRow B 9 1 v L.length (vals L)) : ∃ ao cap, v = .slice ao L.length cap ∧ L.length ≤ cap ∧ StrAt w ao L := by
 obtain ⟨ao, cap, rfl, hc, -⟩ := own_len h
 refine ⟨ao, cap, rfl, hc, fun hn => ?_⟩
 have h0 : 0 < L.length := by cases L with | nil => exact absurd rfl hn | cons _ _ => simp
 obtain ⟨g, cap', e, -, hg, -, -, -, hcl⟩ := own_at h h0
 injection e with e1 e2 e3
 subst e1
 refine ⟨g, 0, rfl, hg, fun j x hj => ?_⟩
 have hj2 := (List.getElem?_eq_some_iff.1 hj).1
 rw [Nat.zero_add, hcl j (by omega)]
 simp [vals, hj]
theorem StrAt.take {w : World} {ao : Option Addr} {L : List Bs} (h : StrAt w ao L) (k : Nat) : StrAt w ao (L.take k) := fun hn => by
 obtain ⟨g, off, e, hg, hc⟩ := h (fun q => hn (by rw [q]; simp))
 refine ⟨g, off, e, hg, fun j x hj => hc j x ?_⟩
 by_cases hjk : j < k
 ·rwa [List.getElem?_take_of_lt hjk] at hj
 ·rw [List.getElem?_eq_none (by simp; omega)] at hj; cases hj
theorem joinL_snoc {L : List Bs} {k : Nat} {x : Bs} (h : L[k]? = some x) : joinL (L.take (k + 1)) = joinL (L.take k) ++ (x ++ [13, 10]) := by
 rw [List.take_add_one, h, joinL_append]
 simp [joinL]
theorem joinL_le (L : List Bs) (k : Nat) : (joinL (L.take k)).length ≤ (joinL L).length := by
 have : joinL L = joinL (L.take k) ++ joinL (L.drop k) := by rw [← joinL_append, List.take_append_drop]
 rw [this, List.length_append]
 omega
theorem ln_sum : ∀ (n : Nat) (l : Bs), l.length ≤ n → ((Ln.ln l).map List.length).sum ≤ l.length
 | 0, l, h => by
  have : l = [] := List.eq_nil_of_length_eq_zero (by omega)
  subst this
  simp [Ln.ln_nil]
 | n + 1, l, h => by
  by_cases hl : l = []
  ·subst hl; simp [Ln.ln_nil]
  ·have h1 := Ln.aft_lt l hl
   have ih := ln_sum n (Ln.aft l) (by omega)
   have h2 : (Ln.bef l).length + (Ln.aft l).length ≤ l.length := by
    clear ih h1 hl h
    induction l with
    | nil => simp [Ln.bef, Ln.aft]
    | cons c t q =>
     unfold Ln.bef Ln.aft
     split
     ·simp
     ·simp; omega
   have h3 := Ln.ended_len (Ln.bef l)
   rw [Ln.ln_cons l hl]
   simp
   omega
theorem lines_sum (l : Bs) : ((Ln.linesOf l).map List.length).sum ≤ l.length := by
 have h1 := ln_sum _ (Ln.unmark l) (Nat.le_refl _)
 have h2 := Ln.unmark_le l
 unfold Ln.linesOf
 omega
theorem str_size (l : Bs) : (Fld.str l).size = l.length := by show l.toArray.size = _; simp
theorem str_add (a b : Bs) : Fld.str a ++ Fld.str b = Fld.str (a ++ b) := by
 apply ByteArray.ext
 simp [Fld.str]
theorem joined_any (ao : Option Addr) (cap n : Nat) (L : List Bs) (w : World) (hn : L.length = n) (hb : n ≤ 1000000) (hz : (joinL L).length ≤ 1000000) (h : StrAt w ao L) :
  Calls Tryz.prog 23 #[.slice ao n cap] w fun e w' => e = .returned (.string (Fld.str (joinL L))) ∧ w' = w := by
 have HN := hide hn
 have HZ := hide hz
 have HC := hide h
 clear hn hz h
 go_enter Tryz.func23, Tryz.ntmps23
 go_wp2
 go_loop [3, 8] (fun s i => ∃ k : Nat, i = .int .i64 k ∧ k ≤ n ∧ s = .string (Fld.str (joinL (L.take k)))) (fun _ i => n - (intOf i).toNat)
 case atStart => exact ⟨0, rfl, Nat.zero_le _, rfl⟩
 case round =>
  obtain ⟨k, rfl, hk, rfl⟩ := hrel
  by_cases hlt : k < n
  ·obtain ⟨x, hx⟩ : ∃ x, L[k]? = some x := ⟨_, List.getElem?_eq_getElem (by rw [unhide HN]; exact hlt)⟩
   obtain ⟨g, off, rfl, hg, hc⟩ := unhide HC (by intro q; rw [q] at hx; cases hx)
   have hck := hc k x hx
   have e1 := joinL_snoc hx
   have hl1 := joinL_le L (k + 1)
   have hl0 : (joinL (L.take (k + 1))).length ≤ 1000000 := Nat.le_trans hl1 (unhide HZ)
   rw [e1, List.length_append] at hl0
   have ha1 : ∀ Wq : World, (Op.stringOp .add (Fld.str x) ⟨#[13, 10]⟩).run Tryz.prog Wq = .ok (.string (Fld.str (x ++ [13, 10]))) Wq := fun Wq => by
    rw [← str_add]
    exact run_string_add_sum _ _ _ (by rw [str_size]; have : (ByteArray.mk #[13, 10]).size = 2 := rfl; simp only [List.length_append] at hl0; omega)
   have ha2 : ∀ Wq : World, (Op.stringOp .add (Fld.str (joinL (L.take k))) (Fld.str (x ++ [13, 10]))).run Tryz.prog Wq = .ok (.string (Fld.str (joinL (L.take (k + 1))))) Wq := fun Wq => by
    rw [e1, show Fld.str (joinL (L.take k) ++ (x ++ [13, 10])) = Fld.str (joinL (L.take k)) ++ Fld.str (x ++ [13, 10]) from (str_add _ _).symm]
    exact run_string_add_sum _ _ _ (by rw [str_size, str_size]; omega)
   have hltz : (k : Int) < (n : Int) := by omega
   clear hc hx e1 hl1 hl0
   generalize Fld.str (joinL (L.take k)) = T at *
   generalize hT2 : Fld.str (joinL (L.take (k + 1))) = T2 at *
   have HT2 := hide hT2
   clear hT2
   generalize Fld.str (x ++ [13, 10]) = X2 at *
   generalize Fld.str x = X at *
   go_wp2
   go_round
   case rel => exact ⟨k + 1, by go_num, by omega, by rw [unhide HT2]⟩
   case measure => simp [intOf]; omega
  ·obtain rfl : k = n := by omega
   have hltz : ¬ (k : Int) < (k : Int) := by omega
   have e : L.take k = L := by rw [← unhide HN]; exact List.take_length
   rw [e]
   go_wp2
   go_ret
   exact ⟨rfl, rfl⟩
theorem infoS : (Tryz.prog.info? 9).map (fun i => (i.zero, i.size, i.bytes)) = some (some (.string ⟨#[]⟩), 1, 16) := by kernel_rfl
theorem add0 (g off j : Nat) : (⟨g, off, none⟩ : Addr).add j = ⟨g, off + j, none⟩ := by
 unfold Addr.add
 split
 ·next h => subst h; simp
 ·simp
theorem app_txt {n0 : Nat} {W : World} {v : Value} {L M : List Bs} (h : W.ownsRow n0 9 1 v L.length (vals L)) (hn0 : n0 ≤ W.heap.size) {ao : Option Addr} (hs : StrAt W ao M) (ha : ao.isSome = true ∨ M = []) (c : Nat) (hc : ao = none → c = 0) (hl : L.length + M.length ≤ 2000000) (ty : TypeId) :
  ∃ v' W', (Builtin.append_ #[23, 23] ty #[v, .slice ao M.length c]).run Tryz.prog W = .ok v' W' ∧ W'.ownsRow n0 9 1 v' (L ++ M).length (vals (L ++ M)) ∧ Below n0 W W' := by
 obtain ⟨i, hi, hz'⟩ := Option.map_eq_some_iff.1 infoS
 simp only [Prod.mk.injEq] at hz'
 obtain ⟨hz0, hz1, hz2⟩ := hz'
 have e1 : vals (L ++ M) = vals L ++ vals M := by simp [vals]
 have hM : (vals M).length = M.length := by simp [vals]
 cases ao with
 | none =>
  have : M = [] := by simpa using ha
  subst this
  rw [hc rfl]
  refine ⟨v, W, run_append_owned_none (P := Tryz.prog) W n0 23 ty 9 i 1 Tryz.underlying23 hi v L.length (vals L) h, ?_, Below.refl _ _⟩
  rw [List.append_nil]
  exact h
 | some a =>
  obtain ⟨v', W', hr, h2, h3, -⟩ := run_append_own (P := Tryz.prog) W n0 23 ty 9 i (.string ⟨#[]⟩) 1 16 Tryz.underlying23 hi hz0 hz1 hz2 rfl (by decide) v L.length (vals L) h a M.length c (vals M) (by rw [hM]; omega) (fun j u hj => by
   have hne : M ≠ [] := by intro q; subst q; simp [vals] at hj
   obtain ⟨g, off, e, hg, hcl⟩ := hs hne
   injection e with e
   subst e
   rw [add0]
   unfold vals at hj
   rw [List.getElem?_map, Option.map_eq_some_iff] at hj
   obtain ⟨x, hx, rfl⟩ := hj
   exact hcl j x hx) (fun u hu => by
   obtain ⟨x, -, rfl⟩ := List.mem_map.1 hu
   rfl) (by unfold maxLen; omega) (by omega) hn0
  refine ⟨v', W', hr, ?_, (Below.refl _ _).grown h3 hn0 fun k hk => (h.lt k hk).1⟩
  rw [e1, List.length_append]
  exact h2
end Af
end Go.Proofs.YtidhbhdcoanfcaaGreatDoor
