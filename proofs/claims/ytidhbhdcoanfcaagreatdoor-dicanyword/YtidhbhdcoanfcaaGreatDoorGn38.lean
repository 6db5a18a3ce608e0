import Derived.Test.YtidhbhdcoanfcaaGreatDoorGn37
namespace Go.Proofs.YtidhbhdcoanfcaaGreatDoor
open Go.RowKit
namespace Af
open RowB
theorem wk_ents {n : Nat} {W : World} {v : Value} {fv : List Value} (h : EntR n W [⟨[102, 108, 121], [65]⟩, ⟨[105, 110, 47, 111, 117, 116], []⟩] v fv 2) : ∃ g cap g1 c1, v = .slice (some ⟨g, 0, none⟩) 2 cap ∧ g < W.heap.size ∧ W.cell? ⟨g, 0, none⟩ = some (.string ⟨#[102, 108, 121]⟩) ∧ W.cell? ⟨g, 1, none⟩ = some (.slice (some ⟨g1, 0, none⟩) 1 c1) ∧ W.cell? ⟨g, 2, none⟩ = some (.string ⟨#[105, 110, 47, 111, 117, 116]⟩) ∧ W.cell? ⟨g1, 0, none⟩ = some (.int .u16 65) ∧ g1 < W.heap.size := by
 obtain ⟨h1, h2, h3⟩ := h
 obtain ⟨g, cap, rfl, -, hg, -, -, -, hcl⟩ := own_at h1 (by decide)
 match fv, h2 with
 | [u0, u1], _ =>
  have f0 := h3 0 u0 _ rfl rfl
  rcases f0 with ⟨-, q⟩ | f0
  ·cases q
  ·obtain ⟨g1, c1, e1, -, hg1, -, -, hc⟩ := So.FRow.cells f0
   subst e1
   refine ⟨g, cap, g1, c1, rfl, hg, hcl 0 (by decide), hcl 1 (by decide), hcl 2 (by decide), ?_, hg1⟩
   have := hc 0 (by simp)
   simp [So.encF] at this
   exact this.1
set_option maxRecDepth 100000 in
set_option maxHeartbeats 4000000 in
theorem wakes12_any (w : World) (hM : Mx w.heap.size w) : Calls Tryz.prog 15 #[] w fun e w' => e = .returned (.bool true) ∧ Below w.heap.size w w' := by
 have HR : Hid (Calls Tryz.prog 12 #[.string ⟨#[83, 70, 88, 32, 65, 32, 89, 32, 48, 10]⟩] w fun e w' => Below w.heap.size w w' ∧ ∃ f, e = .returned (.tuple #[.pointer (some ⟨f, 0, none⟩), .agg #[.int .i64 0, .int .i64 0, .int .i64 0]]) ∧ Hid (∀ W, Below w'.heap.size w' W → Calls Tryz.prog 18 #[.pointer (some ⟨f, 0, none⟩), .string ⟨#[50, 10, 102, 108, 121, 47, 65, 10, 105, 110, 92, 47, 111, 117, 116, 10]⟩] W fun e W' => Below W.heap.size W W' ∧ ∃ wb, e = .returned (.tuple #[.pointer (some ⟨wb, 0, none⟩), .agg #[.int .i64 0, .int .i64 0, .int .i64 0]]) ∧ Hid (∀ V, Below W'.heap.size W' V → Calls Tryz.prog 24 #[.pointer (some ⟨wb, 0, none⟩)] V (fun e V' => e = .returned (.int .i64 2) ∧ V' = V) ∧ Calls Tryz.prog 20 #[.pointer (some ⟨wb, 0, none⟩)] V fun e V' => Below V.heap.size V V' ∧ ∃ g cap g1 c1, e = .returned (.slice (some ⟨g, 0, none⟩) 2 cap) ∧ g < V'.heap.size ∧ V'.cell? ⟨g, 0, none⟩ = some (.string ⟨#[102, 108, 121]⟩) ∧ V'.cell? ⟨g, 1, none⟩ = some (.slice (some ⟨g1, 0, none⟩) 1 c1) ∧ V'.cell? ⟨g, 2, none⟩ = some (.string ⟨#[105, 110, 47, 111, 117, 116]⟩) ∧ V'.cell? ⟨g1, 0, none⟩ = some (.int .u16 65) ∧ g1 < V'.heap.size))) := by
  refine (Read_any _ w hM).mono ?_
  rintro e w' ⟨b, h⟩
  have hk : affR (⟨#[83, 70, 88, 32, 65, 32, 89, 32, 48, 10]⟩ : ByteArray).data.toList = .ok wkF2 := wk_aff2
  rw [hk] at h
  obtain ⟨B, P, hB, rfl, hF⟩ := h
  refine ⟨b, _, rfl, fun W bW => ?_⟩
  have hFB : B ≤ w'.heap.size := Nat.le_of_lt (Nat.lt_of_le_of_lt hF.fbB (lt_some hF.fil))
  have hMB : Mx B W := by
   obtain ⟨m1, m2⟩ := (hM.low b).low (bW.mono b.size)
   exact ⟨Nat.lt_of_lt_of_le m1 hB, m2⟩
  have hd := dic_of wk_aff2 (hF.below bW) hMB (Nat.le_trans hFB bW.size) ⟨#[50, 10, 102, 108, 121, 47, 65, 10, 105, 110, 92, 47, 111, 117, 116, 10]⟩
  have hk2 : dicR wkF2 (⟨#[50, 10, 102, 108, 121, 47, 65, 10, 105, 110, 92, 47, 111, 117, 116, 10]⟩ : ByteArray).data.toList = .ok [⟨[102, 108, 121], [65]⟩, ⟨[105, 110, 47, 111, 117, 116], []⟩] := wk_dic
  rw [hk2] at hd
  refine hd.mono ?_
  rintro e W' ⟨b2, n0, wb, Q, -, rfl, hW⟩
  refine ⟨b2, wb, rfl, fun V bV => ⟨len_any (hW.below bV), (entries_any (hW.below bV) (dicR_len (affR_sets wk_aff2) wk_dic)).mono ?_⟩⟩
  rintro e V' ⟨b3, v, fv, rfl, hE⟩
  obtain ⟨g, cap, g1, c1, rfl, k1, k2, k3, k4, k5, k6⟩ := wk_ents hE
  exact ⟨b3, g, cap, g1, c1, rfl, k1, k2, k3, k4, k5, k6⟩
 clear hM
 go_enter Tryz.func15, Tryz.ntmps15
 go_wp2_with (first
  | (go_at_call 12; refine (unhide HR).mono ?_; rintro e w1 ⟨b1, f, rfl, HA⟩; have HB1 := hide b1; clear b1)
  | (go_at_call 18; refine (unhide HA _ (by (repeat (first | exact Below.refl _ _ | refine Below.drew ?_ | refine Below.alloc ?_ (by first | (simp; done) | (simp; omega)) _ | refine Below.setCell ?_ (by first | (simp; done) | (simp; omega)) _)))).mono ?_; rintro e w2 ⟨b2, wb, rfl, HD⟩; have HB2 := hide ((unhide HB1).trans ((((Below.refl _ _).alloc (Nat.le_refl _) _).trans (b2.mono (by simp))).mono (unhide HB1).size)); clear b2)
  | (go_at_call 24; refine (unhide HD _ (by (repeat (first | exact Below.refl _ _ | refine Below.drew ?_ | refine Below.alloc ?_ (by first | (simp; done) | (simp; omega)) _ | refine Below.setCell ?_ (by first | (simp; done) | (simp; omega)) _)))).1.mono ?_; rintro e w3 ⟨rfl, hw3⟩; obtain rfl := hw3.symm)
  | (go_at_call 20; refine (unhide HD _ (by (repeat (first | exact Below.refl _ _ | refine Below.drew ?_ | refine Below.alloc ?_ (by first | (simp; done) | (simp; omega)) _ | refine Below.setCell ?_ (by first | (simp; done) | (simp; omega)) _)))).2.mono ?_; rintro e w4 ⟨b4, g, cap, g1, c1, rfl, k1, k2, k3, k4, k5, k6⟩; have HB4 := hide ((unhide HB2).trans ((((Below.refl _ _).alloc (Nat.le_refl _) _).trans (b4.mono (by simp))).mono (unhide HB2).size)); clear b4))
 go_ret
 exact ⟨rfl, unhide HB4⟩
open FldW
def StrAt (w : World) (ao : Option Addr) (L : List Bs) : Prop := L ≠ [] → ∃ g off, ao = some ⟨g, off, none⟩ ∧ g < w.heap.size ∧ ∀ j x, L[j]? = some x → w.cell? ⟨g, off + j, none⟩ = some (.string (Fld.str x))
theorem StrAt.below {w w' : World} {ao : Option Addr} {L : List Bs} (h : StrAt w ao L) (k : Below w.heap.size w w') : StrAt w' ao L := fun hn => by
 obtain ⟨g, off, rfl, hg, hc⟩ := h hn
 exact ⟨g, off, rfl, Nat.lt_of_lt_of_le hg k.size, fun j x hj => (k.cell (p := ⟨g, off + j, none⟩) hg).trans (hc j x hj)⟩
theorem StrAt.take {w : World} {ao : Option Addr} {L : List Bs} (h : StrAt w ao L) (k : Nat) : StrAt w ao (L.take k) := fun hn => by
 obtain ⟨g, off, e, hg, hc⟩ := h (fun q => hn (by rw [q]; simp))
 refine ⟨g, off, e, hg, fun j x hj => hc j x ?_⟩
 by_cases hjk : j < k
 ·rwa [List.getElem?_take_of_lt hjk] at hj
 ·rw [List.getElem?_eq_none (by simp; omega)] at hj; cases hj
theorem str_size (l : Bs) : (Fld.str l).size = l.length := by show l.toArray.size = _; simp
theorem str_add (a b : Bs) : Fld.str a ++ Fld.str b = Fld.str (a ++ b) := by
 apply ByteArray.ext
 simp [Fld.str]
theorem infoS : (Tryz.prog.info? 9).map (fun i => (i.zero, i.size, i.bytes)) = some (some (.string ⟨#[]⟩), 1, 16) := by kernel_rfl
end Af
end Go.Proofs.YtidhbhdcoanfcaaGreatDoor
