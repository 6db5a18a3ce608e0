import Derived.Test.YtidhbhdcoanfcaaGreatDoorGp40
namespace Go.Proofs.YtidhbhdcoanfcaaGreatDoor
open Go.RowKit
namespace Af
open RowB FldW
theorem StrAt.drop {w : World} {g : Nat} {L : List Bs} (h : StrAt w (some ⟨g, 0, none⟩) L) (k : Nat) : StrAt w (some ⟨g, k, none⟩) (L.drop k) := fun hn => by
 have h0 : L ≠ [] := by rintro rfl; simp at hn
 obtain ⟨g', off, e, hg, hc⟩ := h h0
 injection e with e
 injection e with e1 e2 e3
 subst e1
 subst e2
 exact ⟨g, k, rfl, hg, fun j x hj => by
  have := hc (k + j) x (by rw [List.getElem?_drop] at hj; exact hj)
  rwa [Nat.zero_add] at this⟩
theorem own_both {w : World} {B : Nat} {v : Value} {L : List Bs} (h : w.ownsRow B 9 1 v L.length (vals L)) : ∃ ao cap, v = .slice ao L.length cap ∧ L.length ≤ cap ∧ StrAt w ao L ∧ ((ao = none ∧ cap = 0 ∧ L = []) ∨ ∃ g, ao = some ⟨g, 0, none⟩) := by
 obtain ⟨ao, cap, e, hc, hs⟩ := StrAt.of_own h
 rcases h.2 with ⟨h1, h0⟩ | ⟨g, cap2, cur, h1, -⟩
 ·rw [e] at h1
  injection h1 with a1 a2 a3
  subst a1
  exact ⟨none, cap, e, hc, hs, .inl ⟨rfl, a3, List.length_eq_zero_iff.1 h0⟩⟩
 ·rw [e] at h1
  injection h1 with a1 a2 a3
  subst a1
  exact ⟨_, cap, e, hc, hs, .inr ⟨g, rfl⟩⟩
theorem at_num (n : Int) (m : Nat) : ∃ k : Nat, k ≤ m ∧ max 0 (min n (m : Int)) = (k : Int) := ⟨(max 0 (min n (m : Int))).toNat, by omega, by omega⟩
set_option maxRecDepth 100000 in
set_option maxHeartbeats 8000000 in
theorem drem_go (a s : ByteArray) (n : Int) (w : World) (_hn0 : -9223372036854775808 ≤ n) (_hn1 : n ≤ 9223372036854775807) (hM : Mx w.heap.size w) (hs : s.size ≤ 65536) {F : Fil} (hx : affR a.data.toList = .ok F) : DRem a s n w := by
 have HA := hide (fun W (b : Below w.heap.size w W) => affOk (hM.up b) hx)
 unfold AffOk at HA
 have HWk := hide (wakes12_any w hM)
 have HS := hide (fun W => LnR.ref_split_short s W hs)
 obtain ⟨k, hk, hkn⟩ := at_num n (Ln.linesOf s.data.toList).length
 obtain ⟨one, two, mk, hR⟩ := remD (s := s) hs hk F
 have HR := hide hR
 have hsz := hR.sz
 have HJ1 := hide (fun W ao cap h => hR.j1 W ao cap h)
 have HJ2 := hide (fun W ao cap h => hR.j2 W ao cap h)
 have HMK := hide (fun W => hR.mrk W)
 have HNP := hide (affR_sets hx)
 have hml : (Ln.linesOf s.data.toList).length ≤ 70000 := by
  have := Ln.linesOf_len s.data.toList
  have : s.data.toList.length = s.size := by simp
  omega
 clear hM hx hs
 generalize Ln.linesOf s.data.toList = L at *
 generalize hm : L.length = m at *
 have HM := hide hm
 have HBD := hide (fun h1 h2 l c h3 => hR.bd h1 h2 l c h3)
 simp only [hm] at HBD
 have HRD := hide (fun h1 h2 => hR.rd h1 h2)
 clear hm hR HR
 go_enter Tryz.func6, Tryz.ntmps6
 go_wp2_with fail
 refine (unhide HWk).mono ?_
 rintro e w1 ⟨rfl, b1⟩
 have B1 := hide b1
 clear b1
 go_wp2_with fail
 refine (unhide HS _).mono ?_
 rintro e w2 ⟨v, rfl, hv, b2⟩
 have B2 := hide (btr (unhide B1) b2)
 have hv' := hv
 rw [← unhide HM] at hv'
 obtain ⟨ao, cap, rfl, hcap, hst, hao⟩ := own_both hv'
 rw [unhide HM] at hcap
 rw [unhide HM]
 have HST := hide hst
 clear b2 hv hv' hst
 go_wp2_with fail
 refine (unhide HA _ (unhide B2)).mono ?_
 rintro e w3 ⟨fb, rfl, b3, hD⟩
 have HD := hide hD
 have b3' : Below w3.heap.size w3 (w3.alloc (.cells #[.int .i64 0, .int .i64 0, .int .i64 0] 31)) := (Below.refl _ _).alloc (Nat.le_refl _) _
 have HST3 := hide ((unhide HST).below b3)
 have B3 := hide (btr (unhide B2) b3)
 have B3' := hide b3'
 clear b3 b3' hD HST HA HWk HS
 go_upto_region 8 with fail
 go_cut [11] from 44 (fun s11 wc => ∃ a11 c11, s11 = .slice a11 (m + 3) c11 ∧ Hid (StrAt wc a11 (more3 L k)) ∧ Hid (Below w3.heap.size w3 wc))
 case first =>
  have HBD0 := hide ((unhide B3').drew)
  have HW0 := hide ((unhide HST3).below (unhide HBD0))
  rcases hao with ⟨rfl, rfl, hL0⟩ | ⟨g0, rfl⟩
  ·obtain rfl : m = 0 := by rw [← unhide HM, hL0]; rfl
   obtain rfl : k = 0 := by omega
   have htk : (L.take 0).length = 0 := by simp
   have hdk : (L.drop 0).length = 0 := by rw [hL0]; simp
   go_wp2_with fail
   refine Lst.region_last (ops1 := ?opsa) (o := ?opa) (S := fun _ => True) (by kernel_rfl) ?hpa ?hba ?hka trivial ?hna
   case hpa => (simp only [List.pop_toArray, List.dropLast_cons_cons, List.dropLast_singleton]; rfl)
   case hba => (simp only [List.back?_toArray, List.getLast?_cons_cons, List.getLast?_singleton]; rfl)
   case hka => kernel_rfl
   intro hHeld
   refine wpAnyH_take (i := 0) (v := ?va0) (by simp only [List.getElem?_toArray, List.getElem?_cons_zero]; rfl) (by kernel_rfl) (by kernel_rfl) (by kernel_rfl) (by exact fun _ _ _ h => h) (Or.inl ⟨by rfl, ?hya0⟩) (by assumption) ?_
   case hya0 => (intro w hSw; (try dsimp only at hSw); go_simp; first | done | (with_reducible rfl))
   (try simp only [Act.put, List.setIfInBounds_toArray, List.set_cons_zero, List.set_cons_succ])
   refine wpAnyH_take (i := 1) (v := ?va1) (by simp only [List.getElem?_toArray, List.getElem?_cons_succ, List.getElem?_cons_zero]; rfl) (by kernel_rfl) (by kernel_rfl) (by kernel_rfl) (by exact fun _ _ _ h => h) (Or.inl ⟨by rfl, ?hya1⟩) (by assumption) ?_
   case hya1 => (intro w hSw; (try dsimp only at hSw); go_simp; first | done | (with_reducible rfl))
   (try simp only [Act.put, List.setIfInBounds_toArray, List.set_cons_zero, List.set_cons_succ])
   refine wpAnyH_take (i := 2) (v := ?va2) (by simp only [List.getElem?_toArray, List.getElem?_cons_succ, List.getElem?_cons_zero]; rfl) (by kernel_rfl) (by kernel_rfl) (by kernel_rfl) (by exact fun _ _ _ h => h) (Or.inl ⟨by rfl, ?hya2⟩) (by assumption) ?_
   case hya2 => (intro w hSw; (try dsimp only at hSw); go_simp; first | done | (with_reducible rfl))
   (try simp only [Act.put, List.setIfInBounds_toArray, List.set_cons_zero, List.set_cons_succ])
   refine wpAnyH_take (i := 6) (v := ?va6) (by simp only [List.getElem?_toArray, List.getElem?_cons_succ, List.getElem?_cons_zero]; rfl) (by kernel_rfl) (by kernel_rfl) (by kernel_rfl) (by exact fun _ _ _ h => h) (Or.inl ⟨by rfl, ?hya6⟩) (by assumption) ?_
   case hya6 => (intro w hSw; (try dsimp only at hSw); go_simp; first | done | (with_reducible rfl))
   (try simp only [Act.put, List.setIfInBounds_toArray, List.set_cons_zero, List.set_cons_succ])
   refine wpAnyH_take (i := 7) (v := ?va7) (by simp only [List.getElem?_toArray, List.getElem?_cons_succ, List.getElem?_cons_zero]; rfl) (by kernel_rfl) (by kernel_rfl) (by kernel_rfl) (by exact fun _ _ _ h => h) (Or.inl ⟨by rfl, ?hya7⟩) (by assumption) ?_
   case hya7 => (intro w hSw; (try dsimp only at hSw); go_simp; first | done | (with_reducible rfl))
   (try simp only [Act.put, List.setIfInBounds_toArray, List.set_cons_zero, List.set_cons_succ])
   refine wpAnyH_take (i := 8) (v := ?va8) (by simp only [List.getElem?_toArray, List.getElem?_cons_succ, List.getElem?_cons_zero]; rfl) (by kernel_rfl) (by kernel_rfl) (by kernel_rfl) (by exact fun _ _ _ h => h) (Or.inl ⟨by rfl, ?hya8⟩) (by assumption) ?_
   case hya8 => (intro w hSw; (try dsimp only at hSw); go_simp; first | done | (with_reducible rfl))
   (try simp only [Act.put, List.setIfInBounds_toArray, List.set_cons_zero, List.set_cons_succ])
   refine wpAnyH_ready (rs := [3, 4]) (by kernel_rfl) (by simp) ?_
   refine AllReadyH.cons (by simp only [List.getElem?_toArray, List.getElem?_cons_succ, List.getElem?_cons_zero]; rfl) (fun K hK => ?_) (AllReadyH.cons (by simp only [List.getElem?_toArray, List.getElem?_cons_succ, List.getElem?_cons_zero]; rfl) (fun K hK => ?_) AllReadyH.nil)
   ·obtain ⟨v3, W1, v5, W3, v9, W4, r3, r5, r9, o9, g9⟩ := reg8_a (W0 := (w3.alloc (.cells #[.int .i64 0, .int .i64 0, .int .i64 0] 31)).drew) (L := L) (k := 0) (by rw [unhide HM]; omega) (a3 := none) (a9 := none) (c3 := 0) (c9 := 0) ((unhide HW0).take 0) (.inr (by rw [hL0]; simp)) (fun _ => rfl) (by rw [hL0]; exact fun hn => absurd (by simp) hn) (.inr (by rw [hL0]; simp)) (fun _ => rfl) 23
    rw [htk] at r3
    rw [hdk] at r9
    obtain ⟨a9, c9, e9, -, s9⟩ := StrAt.of_own o9
    have hl9 := more3_len L 0
    rw [hl9, unhide HM] at e9
    have b9 := (unhide HBD0).trans (g9.mono (unhide HBD0).size)
    refine step_app (by rfl) _ _ _ (by rfl) _ _ v3 W1 (by rfl) (by rfl) ?hr ?_
    case hr => exact r3
    refine hK.out _ _ trivial (fun hh => ?_)
    clear hK K
    (try simp only [Act.put, List.setIfInBounds_toArray, List.set_cons_zero, List.set_cons_succ])
    refine wpAnyH_ready (rs := [4]) (by kernel_rfl) (by simp) ?_
    refine AllReadyH.cons (by simp only [List.getElem?_toArray, List.getElem?_cons_succ, List.getElem?_cons_zero]; rfl) (fun K hK => ?_) AllReadyH.nil
    go_simp
    refine hK.out _ _ trivial (fun hh => ?_)
    clear hK K
    (try simp only [Act.put, List.setIfInBounds_toArray, List.set_cons_zero, List.set_cons_succ])
    refine wpAnyH_ready (rs := [5]) (by kernel_rfl) (by simp) ?_
    refine AllReadyH.cons (by simp only [List.getElem?_toArray, List.getElem?_cons_succ, List.getElem?_cons_zero]; rfl) (fun K hK => ?_) AllReadyH.nil
    refine step_app (by rfl) _ _ _ (by rfl) _ _ v5 W3 (by rfl) (by rfl) ?hr ?_
    case hr => exact r5
    refine hK.out _ _ trivial (fun hh => ?_)
    clear hK K
    (try simp only [Act.put, List.setIfInBounds_toArray, List.set_cons_zero, List.set_cons_succ])
    refine wpAnyH_ready (rs := [9]) (by kernel_rfl) (by simp) ?_
    refine AllReadyH.cons (by simp only [List.getElem?_toArray, List.getElem?_cons_succ, List.getElem?_cons_zero]; rfl) (fun K hK => ?_) AllReadyH.nil
    refine step_app (by rfl) _ _ _ (by rfl) _ _ v9 W4 (by rfl) (by rfl) ?hr ?_
    case hr => exact r9
    refine hK.out _ _ trivial (fun hh => ?_)
    clear hK K
    (try simp only [Act.put, List.setIfInBounds_toArray, List.set_cons_zero, List.set_cons_succ])
    refine wpAnyH_done (by kernel_rfl) ?_ _
    show Oper.wp _ _ _ _ _ _
    go_simp
    go_wp2_with fail
    go_meet
    exact ⟨a9, c9, by first | rfl | rw [e9], hide s9, hide b9⟩
   ·obtain ⟨v3, W1, v5, W3, v9, W4, r3, r5, r9, o9, g9⟩ := reg8_b (W0 := (w3.alloc (.cells #[.int .i64 0, .int .i64 0, .int .i64 0] 31)).drew) (L := L) (k := 0) (by rw [unhide HM]; omega) (a3 := none) (a9 := none) (c3 := 0) (c9 := 0) ((unhide HW0).take 0) (.inr (by rw [hL0]; simp)) (fun _ => rfl) (by rw [hL0]; exact fun hn => absurd (by simp) hn) (.inr (by rw [hL0]; simp)) (fun _ => rfl) 23
    rw [show ((w3.alloc (.cells #[.int .i64 0, .int .i64 0, .int .i64 0] 31)).drew).alloc T3 = ((w3.alloc (.cells #[.int .i64 0, .int .i64 0, .int .i64 0] 31)).alloc T3).drew from rfl] at r3
    rw [show ((w3.alloc (.cells #[.int .i64 0, .int .i64 0, .int .i64 0] 31)).drew).heap.size = w3.heap.size + 1 from by show (w3.alloc (.cells #[.int .i64 0, .int .i64 0, .int .i64 0] 31)).heap.size = _; simp] at r5
    rw [htk] at r3
    rw [hdk] at r9
    obtain ⟨a9, c9, e9, -, s9⟩ := StrAt.of_own o9
    have hl9 := more3_len L 0
    rw [hl9, unhide HM] at e9
    have b9 := (unhide HBD0).trans (g9.mono (unhide HBD0).size)
    go_simp
    refine hK.out _ _ trivial (fun hh => ?_)
    clear hK K
    (try simp only [Act.put, List.setIfInBounds_toArray, List.set_cons_zero, List.set_cons_succ])
    refine wpAnyH_ready (rs := [3]) (by kernel_rfl) (by simp) ?_
    refine AllReadyH.cons (by simp only [List.getElem?_toArray, List.getElem?_cons_succ, List.getElem?_cons_zero]; rfl) (fun K hK => ?_) AllReadyH.nil
    refine step_app (by rfl) _ _ _ (by rfl) _ _ v3 W1 (by rfl) (by rfl) ?hr ?_
    case hr => exact r3
    refine hK.out _ _ trivial (fun hh => ?_)
    clear hK K
    (try simp only [Act.put, List.setIfInBounds_toArray, List.set_cons_zero, List.set_cons_succ])
    refine wpAnyH_ready (rs := [5]) (by kernel_rfl) (by simp) ?_
    refine AllReadyH.cons (by simp only [List.getElem?_toArray, List.getElem?_cons_succ, List.getElem?_cons_zero]; rfl) (fun K hK => ?_) AllReadyH.nil
    refine step_app (by rfl) _ _ _ (by rfl) _ _ v5 W3 (by rfl) (by rfl) ?hr ?_
    case hr => exact r5
    refine hK.out _ _ trivial (fun hh => ?_)
    clear hK K
    (try simp only [Act.put, List.setIfInBounds_toArray, List.set_cons_zero, List.set_cons_succ])
    refine wpAnyH_ready (rs := [9]) (by kernel_rfl) (by simp) ?_
    refine AllReadyH.cons (by simp only [List.getElem?_toArray, List.getElem?_cons_succ, List.getElem?_cons_zero]; rfl) (fun K hK => ?_) AllReadyH.nil
    refine step_app (by rfl) _ _ _ (by rfl) _ _ v9 W4 (by rfl) (by rfl) ?hr ?_
    case hr => exact r9
    refine hK.out _ _ trivial (fun hh => ?_)
    clear hK K
    (try simp only [Act.put, List.setIfInBounds_toArray, List.set_cons_zero, List.set_cons_succ])
    refine wpAnyH_done (by kernel_rfl) ?_ _
    show Oper.wp _ _ _ _ _ _
    go_simp
    go_wp2_with fail
    go_meet
    exact ⟨a9, c9, by first | rfl | rw [e9], hide s9, hide b9⟩
  ·by_cases hck : cap = k
   ·obtain rfl : m = cap := by omega
    obtain rfl : k = m := by omega
    have hdn : L.drop k = [] := List.drop_eq_nil_of_le (by rw [unhide HM]; exact Nat.le_refl _)
    have htk : (L.take k).length = k := by rw [List.length_take, unhide HM]; omega
    have hdk : (L.drop k).length = 0 := by rw [hdn]; rfl
    go_wp2_with fail
    refine Lst.region_last (ops1 := ?opsb) (o := ?opb) (S := fun _ => True) (by kernel_rfl) ?hpb ?hbb ?hkb trivial ?hnb
    case hpb => (simp only [List.pop_toArray, List.dropLast_cons_cons, List.dropLast_singleton]; rfl)
    case hbb => (simp only [List.back?_toArray, List.getLast?_cons_cons, List.getLast?_singleton]; rfl)
    case hkb => kernel_rfl
    intro hHeld
    refine wpAnyH_take (i := 0) (v := ?vb0) (by simp only [List.getElem?_toArray, List.getElem?_cons_zero]; rfl) (by kernel_rfl) (by kernel_rfl) (by kernel_rfl) (by exact fun _ _ _ h => h) (Or.inl ⟨by rfl, ?hyb0⟩) (by assumption) ?_
    case hyb0 => (intro w hSw; (try dsimp only at hSw); go_simp; first | done | (with_reducible rfl))
    (try simp only [Act.put, List.setIfInBounds_toArray, List.set_cons_zero, List.set_cons_succ])
    refine wpAnyH_take (i := 1) (v := ?vb1) (by simp only [List.getElem?_toArray, List.getElem?_cons_succ, List.getElem?_cons_zero]; rfl) (by kernel_rfl) (by kernel_rfl) (by kernel_rfl) (by exact fun _ _ _ h => h) (Or.inl ⟨by rfl, ?hyb1⟩) (by assumption) ?_
    case hyb1 => (intro w hSw; (try dsimp only at hSw); go_simp; first | done | (with_reducible rfl))
    (try simp only [Act.put, List.setIfInBounds_toArray, List.set_cons_zero, List.set_cons_succ])
    refine wpAnyH_take (i := 2) (v := ?vb2) (by simp only [List.getElem?_toArray, List.getElem?_cons_succ, List.getElem?_cons_zero]; rfl) (by kernel_rfl) (by kernel_rfl) (by kernel_rfl) (by exact fun _ _ _ h => h) (Or.inl ⟨by rfl, ?hyb2⟩) (by assumption) ?_
    case hyb2 => (intro w hSw; (try dsimp only at hSw); go_simp; first | done | (with_reducible rfl))
    (try simp only [Act.put, List.setIfInBounds_toArray, List.set_cons_zero, List.set_cons_succ])
    refine wpAnyH_take (i := 6) (v := ?vb6) (by simp only [List.getElem?_toArray, List.getElem?_cons_succ, List.getElem?_cons_zero]; rfl) (by kernel_rfl) (by kernel_rfl) (by kernel_rfl) (by exact fun _ _ _ h => h) (Or.inl ⟨by rfl, ?hyb6⟩) (by assumption) ?_
    case hyb6 => (intro w hSw; (try dsimp only at hSw); go_simp; first | done | (with_reducible rfl))
    (try simp only [Act.put, List.setIfInBounds_toArray, List.set_cons_zero, List.set_cons_succ])
    refine wpAnyH_take (i := 7) (v := ?vb7) (by simp only [List.getElem?_toArray, List.getElem?_cons_succ, List.getElem?_cons_zero]; rfl) (by kernel_rfl) (by kernel_rfl) (by kernel_rfl) (by exact fun _ _ _ h => h) (Or.inl ⟨by rfl, ?hyb7⟩) (by assumption) ?_
    case hyb7 => (intro w hSw; (try dsimp only at hSw); go_simp; first | done | (with_reducible rfl))
    (try simp only [Act.put, List.setIfInBounds_toArray, List.set_cons_zero, List.set_cons_succ])
    refine wpAnyH_take (i := 8) (v := ?vb8) (by simp only [List.getElem?_toArray, List.getElem?_cons_succ, List.getElem?_cons_zero]; rfl) (by kernel_rfl) (by kernel_rfl) (by kernel_rfl) (by exact fun _ _ _ h => h) (Or.inl ⟨by rfl, ?hyb8⟩) (by assumption) ?_
    case hyb8 => (intro w hSw; (try dsimp only at hSw); go_simp; first | done | (with_reducible rfl))
    (try simp only [Act.put, List.setIfInBounds_toArray, List.set_cons_zero, List.set_cons_succ])
    refine wpAnyH_ready (rs := [3, 4]) (by kernel_rfl) (by simp) ?_
    refine AllReadyH.cons (by simp only [List.getElem?_toArray, List.getElem?_cons_succ, List.getElem?_cons_zero]; rfl) (fun K hK => ?_) (AllReadyH.cons (by simp only [List.getElem?_toArray, List.getElem?_cons_succ, List.getElem?_cons_zero]; rfl) (fun K hK => ?_) AllReadyH.nil)
    ·obtain ⟨v3, W1, v5, W3, v9, W4, r3, r5, r9, o9, g9⟩ := reg8_a (W0 := (w3.alloc (.cells #[.int .i64 0, .int .i64 0, .int .i64 0] 31)).drew) (L := L) (k := k) (by rw [unhide HM]; omega) (a3 := some ⟨g0, 0, none⟩) (a9 := some ⟨g0, 0, none⟩) (c3 := k) (c9 := 0) ((unhide HW0).take k) (.inl rfl) (fun q => by cases q) (by rw [hdn]; exact fun hn => absurd rfl hn) (.inl rfl) (fun q => by cases q) 23
     rw [htk] at r3
     rw [hdk] at r9
     obtain ⟨a9, c9, e9, -, s9⟩ := StrAt.of_own o9
     have hl9 := more3_len L k
     rw [hl9, unhide HM] at e9
     have b9 := (unhide HBD0).trans (g9.mono (unhide HBD0).size)
     refine step_app (by rfl) _ _ _ (by rfl) _ _ v3 W1 (by rfl) (by rfl) ?hr ?_
     case hr => exact r3
     refine hK.out _ _ trivial (fun hh => ?_)
     clear hK K
     (try simp only [Act.put, List.setIfInBounds_toArray, List.set_cons_zero, List.set_cons_succ])
     refine wpAnyH_ready (rs := [4]) (by kernel_rfl) (by simp) ?_
     refine AllReadyH.cons (by simp only [List.getElem?_toArray, List.getElem?_cons_succ, List.getElem?_cons_zero]; rfl) (fun K hK => ?_) AllReadyH.nil
     go_simp
     refine hK.out _ _ trivial (fun hh => ?_)
     clear hK K
     (try simp only [Act.put, List.setIfInBounds_toArray, List.set_cons_zero, List.set_cons_succ])
     refine wpAnyH_ready (rs := [5]) (by kernel_rfl) (by simp) ?_
     refine AllReadyH.cons (by simp only [List.getElem?_toArray, List.getElem?_cons_succ, List.getElem?_cons_zero]; rfl) (fun K hK => ?_) AllReadyH.nil
     refine step_app (by rfl) _ _ _ (by rfl) _ _ v5 W3 (by rfl) (by rfl) ?hr ?_
     case hr => exact r5
     refine hK.out _ _ trivial (fun hh => ?_)
     clear hK K
     (try simp only [Act.put, List.setIfInBounds_toArray, List.set_cons_zero, List.set_cons_succ])
     refine wpAnyH_ready (rs := [9]) (by kernel_rfl) (by simp) ?_
     refine AllReadyH.cons (by simp only [List.getElem?_toArray, List.getElem?_cons_succ, List.getElem?_cons_zero]; rfl) (fun K hK => ?_) AllReadyH.nil
     refine step_app (by rfl) _ _ _ (by rfl) _ _ v9 W4 (by rfl) (by rfl) ?hr ?_
     case hr => exact r9
     refine hK.out _ _ trivial (fun hh => ?_)
     clear hK K
     (try simp only [Act.put, List.setIfInBounds_toArray, List.set_cons_zero, List.set_cons_succ])
     refine wpAnyH_done (by kernel_rfl) ?_ _
     show Oper.wp _ _ _ _ _ _
     go_simp
     go_wp2_with fail
     go_meet
     exact ⟨a9, c9, by first | rfl | rw [e9], hide s9, hide b9⟩
    ·obtain ⟨v3, W1, v5, W3, v9, W4, r3, r5, r9, o9, g9⟩ := reg8_b (W0 := (w3.alloc (.cells #[.int .i64 0, .int .i64 0, .int .i64 0] 31)).drew) (L := L) (k := k) (by rw [unhide HM]; omega) (a3 := some ⟨g0, 0, none⟩) (a9 := some ⟨g0, 0, none⟩) (c3 := k) (c9 := 0) ((unhide HW0).take k) (.inl rfl) (fun q => by cases q) (by rw [hdn]; exact fun hn => absurd rfl hn) (.inl rfl) (fun q => by cases q) 23
     rw [show ((w3.alloc (.cells #[.int .i64 0, .int .i64 0, .int .i64 0] 31)).drew).alloc T3 = ((w3.alloc (.cells #[.int .i64 0, .int .i64 0, .int .i64 0] 31)).alloc T3).drew from rfl] at r3
     rw [show ((w3.alloc (.cells #[.int .i64 0, .int .i64 0, .int .i64 0] 31)).drew).heap.size = w3.heap.size + 1 from by show (w3.alloc (.cells #[.int .i64 0, .int .i64 0, .int .i64 0] 31)).heap.size = _; simp] at r5
     rw [htk] at r3
     rw [hdk] at r9
     obtain ⟨a9, c9, e9, -, s9⟩ := StrAt.of_own o9
     have hl9 := more3_len L k
     rw [hl9, unhide HM] at e9
     have b9 := (unhide HBD0).trans (g9.mono (unhide HBD0).size)
     go_simp
     refine hK.out _ _ trivial (fun hh => ?_)
     clear hK K
     (try simp only [Act.put, List.setIfInBounds_toArray, List.set_cons_zero, List.set_cons_succ])
     refine wpAnyH_ready (rs := [3]) (by kernel_rfl) (by simp) ?_
     refine AllReadyH.cons (by simp only [List.getElem?_toArray, List.getElem?_cons_succ, List.getElem?_cons_zero]; rfl) (fun K hK => ?_) AllReadyH.nil
     refine step_app (by rfl) _ _ _ (by rfl) _ _ v3 W1 (by rfl) (by rfl) ?hr ?_
     case hr => exact r3
     refine hK.out _ _ trivial (fun hh => ?_)
     clear hK K
     (try simp only [Act.put, List.setIfInBounds_toArray, List.set_cons_zero, List.set_cons_succ])
     refine wpAnyH_ready (rs := [5]) (by kernel_rfl) (by simp) ?_
     refine AllReadyH.cons (by simp only [List.getElem?_toArray, List.getElem?_cons_succ, List.getElem?_cons_zero]; rfl) (fun K hK => ?_) AllReadyH.nil
     refine step_app (by rfl) _ _ _ (by rfl) _ _ v5 W3 (by rfl) (by rfl) ?hr ?_
     case hr => exact r5
     refine hK.out _ _ trivial (fun hh => ?_)
     clear hK K
     (try simp only [Act.put, List.setIfInBounds_toArray, List.set_cons_zero, List.set_cons_succ])
     refine wpAnyH_ready (rs := [9]) (by kernel_rfl) (by simp) ?_
     refine AllReadyH.cons (by simp only [List.getElem?_toArray, List.getElem?_cons_succ, List.getElem?_cons_zero]; rfl) (fun K hK => ?_) AllReadyH.nil
     refine step_app (by rfl) _ _ _ (by rfl) _ _ v9 W4 (by rfl) (by rfl) ?hr ?_
     case hr => exact r9
     refine hK.out _ _ trivial (fun hh => ?_)
     clear hK K
     (try simp only [Act.put, List.setIfInBounds_toArray, List.set_cons_zero, List.set_cons_succ])
     refine wpAnyH_done (by kernel_rfl) ?_ _
     show Oper.wp _ _ _ _ _ _
     go_simp
     go_wp2_with fail
     go_meet
     exact ⟨a9, c9, by first | rfl | rw [e9], hide s9, hide b9⟩
   ·have htk : (L.take k).length = k := by rw [List.length_take, unhide HM]; omega
    have hdk : (L.drop k).length = m - k := by rw [List.length_drop, unhide HM]
    have hkc : k ≤ cap := by omega
    go_wp2_with fail
    refine Lst.region_last (ops1 := ?opsc) (o := ?opc) (S := fun _ => True) (by kernel_rfl) ?hpc ?hbc ?hkc trivial ?hnc
    case hpc => (simp only [List.pop_toArray, List.dropLast_cons_cons, List.dropLast_singleton]; rfl)
    case hbc => (simp only [List.back?_toArray, List.getLast?_cons_cons, List.getLast?_singleton]; rfl)
    case hkc => kernel_rfl
    intro hHeld
    refine wpAnyH_take (i := 0) (v := ?vc0) (by simp only [List.getElem?_toArray, List.getElem?_cons_zero]; rfl) (by kernel_rfl) (by kernel_rfl) (by kernel_rfl) (by exact fun _ _ _ h => h) (Or.inl ⟨by rfl, ?hyc0⟩) (by assumption) ?_
    case hyc0 => (intro w hSw; (try dsimp only at hSw); go_simp; first | done | (with_reducible rfl))
    (try simp only [Act.put, List.setIfInBounds_toArray, List.set_cons_zero, List.set_cons_succ])
    refine wpAnyH_take (i := 1) (v := ?vc1) (by simp only [List.getElem?_toArray, List.getElem?_cons_succ, List.getElem?_cons_zero]; rfl) (by kernel_rfl) (by kernel_rfl) (by kernel_rfl) (by exact fun _ _ _ h => h) (Or.inl ⟨by rfl, ?hyc1⟩) (by assumption) ?_
    case hyc1 => (intro w hSw; (try dsimp only at hSw); go_simp; first | done | (with_reducible rfl))
    (try simp only [Act.put, List.setIfInBounds_toArray, List.set_cons_zero, List.set_cons_succ])
    refine wpAnyH_take (i := 2) (v := ?vc2) (by simp only [List.getElem?_toArray, List.getElem?_cons_succ, List.getElem?_cons_zero]; rfl) (by kernel_rfl) (by kernel_rfl) (by kernel_rfl) (by exact fun _ _ _ h => h) (Or.inl ⟨by rfl, ?hyc2⟩) (by assumption) ?_
    case hyc2 => (intro w hSw; (try dsimp only at hSw); go_simp; first | done | (with_reducible rfl))
    (try simp only [Act.put, List.setIfInBounds_toArray, List.set_cons_zero, List.set_cons_succ])
    refine wpAnyH_take (i := 6) (v := ?vc6) (by simp only [List.getElem?_toArray, List.getElem?_cons_succ, List.getElem?_cons_zero]; rfl) (by kernel_rfl) (by kernel_rfl) (by kernel_rfl) (by exact fun _ _ _ h => h) (Or.inl ⟨by rfl, ?hyc6⟩) (by assumption) ?_
    case hyc6 => (intro w hSw; (try dsimp only at hSw); go_simp; first | done | (with_reducible rfl))
    (try simp only [Act.put, List.setIfInBounds_toArray, List.set_cons_zero, List.set_cons_succ])
    refine wpAnyH_take (i := 7) (v := ?vc7) (by simp only [List.getElem?_toArray, List.getElem?_cons_succ, List.getElem?_cons_zero]; rfl) (by kernel_rfl) (by kernel_rfl) (by kernel_rfl) (by exact fun _ _ _ h => h) (Or.inl ⟨by rfl, ?hyc7⟩) (by assumption) ?_
    case hyc7 => (intro w hSw; (try dsimp only at hSw); go_simp; first | done | (with_reducible rfl))
    (try simp only [Act.put, List.setIfInBounds_toArray, List.set_cons_zero, List.set_cons_succ])
    refine wpAnyH_take (i := 8) (v := ?vc8) (by simp only [List.getElem?_toArray, List.getElem?_cons_succ, List.getElem?_cons_zero]; rfl) (by kernel_rfl) (by kernel_rfl) (by kernel_rfl) (by exact fun _ _ _ h => h) (Or.inl ⟨by rfl, ?hyc8⟩) (by assumption) ?_
    case hyc8 => (intro w hSw; (try dsimp only at hSw); go_simp; first | done | (with_reducible rfl))
    (try simp only [Act.put, List.setIfInBounds_toArray, List.set_cons_zero, List.set_cons_succ])
    refine wpAnyH_ready (rs := [3, 4]) (by kernel_rfl) (by simp) ?_
    refine AllReadyH.cons (by simp only [List.getElem?_toArray, List.getElem?_cons_succ, List.getElem?_cons_zero]; rfl) (fun K hK => ?_) (AllReadyH.cons (by simp only [List.getElem?_toArray, List.getElem?_cons_succ, List.getElem?_cons_zero]; rfl) (fun K hK => ?_) AllReadyH.nil)
    ·obtain ⟨v3, W1, v5, W3, v9, W4, r3, r5, r9, o9, g9⟩ := reg8_a (W0 := (w3.alloc (.cells #[.int .i64 0, .int .i64 0, .int .i64 0] 31)).drew) (L := L) (k := k) (by rw [unhide HM]; omega) (a3 := some ⟨g0, 0, none⟩) (a9 := some ⟨g0, k, none⟩) (c3 := cap) (c9 := cap - k) ((unhide HW0).take k) (.inl rfl) (fun q => by cases q) ((unhide HW0).drop k) (.inl rfl) (fun q => by cases q) 23
     rw [htk] at r3
     rw [hdk] at r9
     obtain ⟨a9, c9, e9, -, s9⟩ := StrAt.of_own o9
     have hl9 := more3_len L k
     rw [hl9, unhide HM] at e9
     have b9 := (unhide HBD0).trans (g9.mono (unhide HBD0).size)
     refine step_app (by rfl) _ _ _ (by rfl) _ _ v3 W1 (by rfl) (by rfl) ?hr ?_
     case hr => exact r3
     refine hK.out _ _ trivial (fun hh => ?_)
     clear hK K
     (try simp only [Act.put, List.setIfInBounds_toArray, List.set_cons_zero, List.set_cons_succ])
     refine wpAnyH_ready (rs := [4]) (by kernel_rfl) (by simp) ?_
     refine AllReadyH.cons (by simp only [List.getElem?_toArray, List.getElem?_cons_succ, List.getElem?_cons_zero]; rfl) (fun K hK => ?_) AllReadyH.nil
     go_simp
     refine hK.out _ _ trivial (fun hh => ?_)
     clear hK K
     (try simp only [Act.put, List.setIfInBounds_toArray, List.set_cons_zero, List.set_cons_succ])
     refine wpAnyH_ready (rs := [5]) (by kernel_rfl) (by simp) ?_
     refine AllReadyH.cons (by simp only [List.getElem?_toArray, List.getElem?_cons_succ, List.getElem?_cons_zero]; rfl) (fun K hK => ?_) AllReadyH.nil
     refine step_app (by rfl) _ _ _ (by rfl) _ _ v5 W3 (by rfl) (by rfl) ?hr ?_
     case hr => exact r5
     refine hK.out _ _ trivial (fun hh => ?_)
     clear hK K
     (try simp only [Act.put, List.setIfInBounds_toArray, List.set_cons_zero, List.set_cons_succ])
     refine wpAnyH_ready (rs := [9]) (by kernel_rfl) (by simp) ?_
     refine AllReadyH.cons (by simp only [List.getElem?_toArray, List.getElem?_cons_succ, List.getElem?_cons_zero]; rfl) (fun K hK => ?_) AllReadyH.nil
     refine step_app (by rfl) _ _ _ (by rfl) _ _ v9 W4 (by rfl) (by rfl) ?hr ?_
     case hr => exact r9
     refine hK.out _ _ trivial (fun hh => ?_)
     clear hK K
     (try simp only [Act.put, List.setIfInBounds_toArray, List.set_cons_zero, List.set_cons_succ])
     refine wpAnyH_done (by kernel_rfl) ?_ _
     show Oper.wp _ _ _ _ _ _
     go_simp
     go_wp2_with fail
     go_meet
     exact ⟨a9, c9, by first | rfl | rw [e9], hide s9, hide b9⟩
    ·obtain ⟨v3, W1, v5, W3, v9, W4, r3, r5, r9, o9, g9⟩ := reg8_b (W0 := (w3.alloc (.cells #[.int .i64 0, .int .i64 0, .int .i64 0] 31)).drew) (L := L) (k := k) (by rw [unhide HM]; omega) (a3 := some ⟨g0, 0, none⟩) (a9 := some ⟨g0, k, none⟩) (c3 := cap) (c9 := cap - k) ((unhide HW0).take k) (.inl rfl) (fun q => by cases q) ((unhide HW0).drop k) (.inl rfl) (fun q => by cases q) 23
     rw [show ((w3.alloc (.cells #[.int .i64 0, .int .i64 0, .int .i64 0] 31)).drew).alloc T3 = ((w3.alloc (.cells #[.int .i64 0, .int .i64 0, .int .i64 0] 31)).alloc T3).drew from rfl] at r3
     rw [show ((w3.alloc (.cells #[.int .i64 0, .int .i64 0, .int .i64 0] 31)).drew).heap.size = w3.heap.size + 1 from by show (w3.alloc (.cells #[.int .i64 0, .int .i64 0, .int .i64 0] 31)).heap.size = _; simp] at r5
     rw [htk] at r3
     rw [hdk] at r9
     obtain ⟨a9, c9, e9, -, s9⟩ := StrAt.of_own o9
     have hl9 := more3_len L k
     rw [hl9, unhide HM] at e9
     have b9 := (unhide HBD0).trans (g9.mono (unhide HBD0).size)
     go_simp
     refine hK.out _ _ trivial (fun hh => ?_)
     clear hK K
     (try simp only [Act.put, List.setIfInBounds_toArray, List.set_cons_zero, List.set_cons_succ])
     refine wpAnyH_ready (rs := [3]) (by kernel_rfl) (by simp) ?_
     refine AllReadyH.cons (by simp only [List.getElem?_toArray, List.getElem?_cons_succ, List.getElem?_cons_zero]; rfl) (fun K hK => ?_) AllReadyH.nil
     refine step_app (by rfl) _ _ _ (by rfl) _ _ v3 W1 (by rfl) (by rfl) ?hr ?_
     case hr => exact r3
     refine hK.out _ _ trivial (fun hh => ?_)
     clear hK K
     (try simp only [Act.put, List.setIfInBounds_toArray, List.set_cons_zero, List.set_cons_succ])
     refine wpAnyH_ready (rs := [5]) (by kernel_rfl) (by simp) ?_
     refine AllReadyH.cons (by simp only [List.getElem?_toArray, List.getElem?_cons_succ, List.getElem?_cons_zero]; rfl) (fun K hK => ?_) AllReadyH.nil
     refine step_app (by rfl) _ _ _ (by rfl) _ _ v5 W3 (by rfl) (by rfl) ?hr ?_
     case hr => exact r5
     refine hK.out _ _ trivial (fun hh => ?_)
     clear hK K
     (try simp only [Act.put, List.setIfInBounds_toArray, List.set_cons_zero, List.set_cons_succ])
     refine wpAnyH_ready (rs := [9]) (by kernel_rfl) (by simp) ?_
     refine AllReadyH.cons (by simp only [List.getElem?_toArray, List.getElem?_cons_succ, List.getElem?_cons_zero]; rfl) (fun K hK => ?_) AllReadyH.nil
     refine step_app (by rfl) _ _ _ (by rfl) _ _ v9 W4 (by rfl) (by rfl) ?hr ?_
     case hr => exact r9
     refine hK.out _ _ trivial (fun hh => ?_)
     clear hK K
     (try simp only [Act.put, List.setIfInBounds_toArray, List.set_cons_zero, List.set_cons_succ])
     refine wpAnyH_done (by kernel_rfl) ?_ _
     show Oper.wp _ _ _ _ _ _
     go_simp
     go_wp2_with fail
     go_meet
     exact ⟨a9, c9, by first | rfl | rw [e9], hide s9, hide b9⟩
 case rest =>
  obtain ⟨a11, c11, rfl, HST2, HC⟩ := hcut
  have HSTc := hide ((unhide HST3).below (unhide HC))
  clear HST3 B3' hao hcap
  go_wp2_with fail
  refine (unhide HJ1 _ _ _ (unhide HSTc)).mono ?_
  rintro e w5 ⟨rfl, hw5⟩
  obtain rfl := hw5.symm
  go_wp2_with fail
  refine (unhide HJ2 _ _ _ (unhide HST2)).mono ?_
  rintro e w6 ⟨rfl, hw6⟩
  obtain rfl := hw6.symm
  clear HJ1 HJ2 HSTc HST2
  by_cases hz : 65536 < two.size
  ·have hzz : (65536 : Int) < (two.size : Int) := by omega
   go_wp2
   go_ret
   exact ⟨rfl, btr (unhide B3) (unhide HC)⟩
  ·have hzz : ¬ (65536 : Int) < (two.size : Int) := by omega
   cases mk with
   | true =>
    go_wp2_with fail
    refine (unhide HMK _).mono ?_
    rintro e w7 ⟨rfl, hw7⟩
    obtain rfl := hw7.symm
    go_wp2
    go_ret
    exact ⟨rfl, btr (unhide B3) (unhide HC)⟩
   | false =>
    have hrd := unhide HRD rfl (by omega)
    have hbd := unhide HBD rfl (by omega)
    go_wp2_with fail
    refine (unhide HMK _).mono ?_
    rintro e w7 ⟨rfl, hw7⟩
    obtain rfl := hw7.symm
    clear HMK HRD HBD
    cases hq : dicR F one.data.toList with
    | ok E =>
     rw [hq] at hrd
     have hq2 : dicR F two.data.toList = .ok E := hrd
     have hfl := dicR_len (unhide HNP) hq
     go_wp2_with fail
     refine ((unhide HD).yesW (unhide HC) hq).mono ?_
     rintro e w8 ⟨wb8, n8, Q8, rfl, b8, hwa8⟩
     have BC8 := hide (btr (unhide HC) b8)
     have HWA8 := hide hwa8
     clear b8 hwa8
     go_wp2_with fail
     refine ((unhide HD).yesW ((unhide BC8).alloc (unhide BC8).size _) hq2).mono ?_
     rintro e w9 ⟨wb9, n9, Q9, rfl, b9, hwa9⟩
     obtain ⟨b9a, h9, b9b⟩ := flt_go (unhide BC8) b9
     obtain ⟨x0, x1, x2, xz⟩ := fault3 h9
     have lx := lt_some h9
     have b10 : Below w9.heap.size w9 (w9.alloc (.cells #[.int .i64 0, .int .i64 0, .int .i64 0] 31)) := (Below.refl _ _).alloc (Nat.le_refl _) _
     have HB10 := hide (btr b9a b10)
     have HL8 := hide (len_any ((unhide HWA8).below (btr b9b b10)))
     have HL9 := hide (len_any (hwa9.below b10))
     have HE8 := hide (entries_any ((unhide HWA8).below (btr b9b b10)) hfl)
     have HE9 := hide (fun W b => entries_any ((hwa9.below b10).below (w' := W) b) hfl)
     clear b9 b9a b9b h9 b10 hwa9 HWA8 hfl hbd hrd hq hq2 HD HNP BC8
     have hkz : ¬ (k : Int) < 0 := by omega
     go_wp2_with (first | (go_at_call 24; refine (unhide HL8).mono ?_; rintro e w' ⟨rfl, hw'⟩; obtain rfl := hw'.symm) | (go_at_call 24; refine (unhide HL9).mono ?_; rintro e w' ⟨rfl, hw'⟩; obtain rfl := hw'.symm))
     refine (unhide HE8).mono ?_
     rintro e w11 ⟨b11, v11, fv11, rfl, hE11⟩
     have HB11 := hide (btr (unhide HB10) b11)
     have HN11 := hide hE11.ena
     have HE9b := hide (unhide HE9 _ b11)
     clear b11 hE11 HE8 HE9 HL8 HL9
     go_wp2_with fail
     refine (unhide HE9b).mono ?_
     rintro e w12 ⟨b12, v12, fv12, rfl, hE12⟩
     have HB12 := hide (btr (unhide HB11) b12)
     have hen11 := (unhide HN11).below b12
     have hen12 := hE12.ena
     obtain ⟨a8, c8, rfl, hc8, hm8, -⟩ := id hen11
     unfold maxLen at hm8
     obtain ⟨a9, c9, rfl, -⟩ := id hen12
     have HE11 := hide hen11
     have HE12 := hide hen12
     clear b12 hE12 hen11 hen12 HN11 HE9b HB11 HB10
     generalize hne : E.length = ne at *
     have HNE := hide hne
     clear hne
     go_wp2_with fail
     go_loopw [108] (fun s108 wr => ∃ j : Nat, j ≤ ne ∧ s108 = .int .i64 j ∧ Hid (Below w12.heap.size w12 wr)) (fun s108 _ => ne - (intOf s108).toNat)
     case atStart => exact ⟨0, Nat.zero_le _, rfl, Below.refl _ _⟩
     case round =>
      obtain ⟨j, hj, rfl, HB⟩ := hrel
      by_cases hlt : j < ne
      ·have hltz : (j : Int) < (ne : Int) := by omega
       obtain ⟨x, hx⟩ : ∃ x, E[j]? = some x := ⟨_, List.getElem?_eq_getElem (by rw [unhide HNE]; exact hlt)⟩
       obtain ⟨g1, fl1, rfl, hg1, c0, c1, hfa1⟩ : ∃ g fl, a8 = some ⟨g, 0, none⟩ ∧ g < wr.heap.size ∧ wr.cell? ⟨g, j * 2, none⟩ = some (.string (Wd.str x.word)) ∧ wr.cell? ⟨g, j * 2 + 1, none⟩ = some fl ∧ So.FArg wr fl x.flags := by
        obtain ⟨ao', cap', e1, -, -, h3⟩ := (unhide HE11).below (unhide HB)
        injection e1 with e1 e2 e3
        subst e1
        exact h3 j x hx
       obtain ⟨g2, fl2, rfl, hg2, c2, c3, hfa2⟩ : ∃ g fl, a9 = some ⟨g, 0, none⟩ ∧ g < wr.heap.size ∧ wr.cell? ⟨g, j * 2, none⟩ = some (.string (Wd.str x.word)) ∧ wr.cell? ⟨g, j * 2 + 1, none⟩ = some fl ∧ So.FArg wr fl x.flags := by
        obtain ⟨ao', cap', e1, -, -, h3⟩ := (unhide HE12).below (unhide HB)
        injection e1 with e1 e2 e3
        subst e1
        exact h3 j x hx
       obtain ⟨af1, cf1, rfl, -⟩ := id hfa1
       obtain ⟨af2, cf2, rfl, -⟩ := id hfa2
       have HIS := hide (fun W (b : Below wr.heap.size wr W) => entryIs_any (s := Wd.str x.word) (hfa1.below b) (hfa2.below b))
       have h4 : wr.drew.cell? ⟨g1, j * 2, none⟩ = some (.string (Wd.str x.word)) ∧ wr.drew.cell? ⟨g1, j * 2 + 1, none⟩ = some (.slice af1 x.flags.length cf1) ∧ wr.drew.cell? ⟨g2, j * 2, none⟩ = some (.string (Wd.str x.word)) ∧ wr.drew.cell? ⟨g2, j * 2 + 1, none⟩ = some (.slice af2 x.flags.length cf2) := ⟨c0, c1, c2, c3⟩
       clear hfa1 hfa2 hx
       generalize Wd.str x.word = sx at *
       generalize x.flags.length = nx at *
       go_wp2
       go_region_held2 (fun w' => w'.cell? ⟨g1, j * 2, none⟩ = some (.string sx) ∧ w'.cell? ⟨g1, j * 2 + 1, none⟩ = some (.slice af1 nx cf1) ∧ w'.cell? ⟨g2, j * 2, none⟩ = some (.string sx) ∧ w'.cell? ⟨g2, j * 2 + 1, none⟩ = some (.slice af2 nx cf2)) (first | (with_reducible exact h5) | (with_reducible exact h4)) (first | (go_at_call 21; refine (unhide HIS _ ((Below.refl wr.heap.size wr).drew)).mono ?_; rintro e w8 ⟨rfl, b8⟩; have HB8 := hide (((Below.refl wr.heap.size wr).drew).trans b8); have h5 : w8.cell? ⟨g1, j * 2, none⟩ = some (.string sx) ∧ w8.cell? ⟨g1, j * 2 + 1, none⟩ = some (.slice af1 nx cf1) ∧ w8.cell? ⟨g2, j * 2, none⟩ = some (.string sx) ∧ w8.cell? ⟨g2, j * 2 + 1, none⟩ = some (.slice af2 nx cf2) := ⟨((unhide HB8).cell (p := ⟨g1, j * 2, none⟩) hg1).trans c0, ((unhide HB8).cell (p := ⟨g1, j * 2 + 1, none⟩) hg1).trans c1, ((unhide HB8).cell (p := ⟨g2, j * 2, none⟩) hg2).trans c2, ((unhide HB8).cell (p := ⟨g2, j * 2 + 1, none⟩) hg2).trans c3⟩))
       go_wp2
       go_roundw
       case rel => exact ⟨j + 1, by omega, by go_num, btr (unhide HB) (unhide HB8)⟩
       case measure => simp [intOf]; omega
      ·obtain rfl : j = ne := by omega
       have hltz : ¬ (j : Int) < (j : Int) := by omega
       go_wp2
       go_ret
       exact ⟨rfl, btr (unhide B3) (btr (unhide HB12) (unhide HB))⟩
    | error er =>
     obtain ⟨l, c⟩ := er
     rw [hq] at hrd
     have hq2 : dicR F two.data.toList = .error (shift3 k l, c) := hrd
     have hl := hbd l c hq
     have HNO1 : Hid (∀ W, Below w3.heap.size w3 W → Calls Tryz.prog 18 #[.pointer (some ⟨fb, 0, none⟩), .string one] W fun e w' => e = .returned (.tuple #[.pointer none, .agg #[.int .i64 2, .int .i64 (l : Nat), .int .i64 (c : Nat)]]) ∧ Below W.heap.size W w') := fun W b => (unhide HD).no b hq
     have HNO2 : Hid (∀ W, Below w3.heap.size w3 W → Calls Tryz.prog 18 #[.pointer (some ⟨fb, 0, none⟩), .string two] W fun e w' => e = .returned (.tuple #[.pointer none, .agg #[.int .i64 2, .int .i64 (shift3 k l : Nat), .int .i64 (c : Nat)]]) ∧ Below W.heap.size W w') := fun W b => (unhide HD).no b hq2
     clear hrd hq hq2 hbd HD HNP
     go_wp2_with fail
     refine (unhide HNO1 _ (unhide HC)).mono ?_
     rintro e w8 ⟨rfl, b8⟩
     have BC8 := hide (btr (unhide HC) b8)
     clear b8
     go_wp2_with fail
     refine (unhide HNO2 _ ((unhide BC8).alloc (unhide BC8).size _)).mono ?_
     rintro e w9 ⟨rfl, b9⟩
     obtain ⟨b9a, h9, b9b⟩ := flt_go (unhide BC8) b9
     obtain ⟨x0, x1, x2, xz⟩ := fault3 h9
     have lx := lt_some h9
     have HB9 := hide b9a
     have H9 := hide h9
     have hle8 := (unhide BC8).size
     clear b9 b9a b9b h9 HNO1 HNO2 BC8
     by_cases hkl : k < l
     ·have hs3 : shift3 k l = l + 3 := by unfold shift3; rw [if_pos hkl]
      rw [hs3]
      have hkz : (k : Int) < (l : Int) := by omega
      go_upto_region 16 with fail
      refine gen_world ?_
      intro V hV
      have hA : V.heap[w8.heap.size]? = some (.cells #[.int .i64 2, .int .i64 ((l : Int) + 3), .int .i64 (c : Nat)] 31 (0, 0)) := by rw [hV]; exact alloc_heap1 (set_heap1 (unhide H9) _) _
      have hsz9 : (w9.setCell ⟨w8.heap.size, 1, none⟩ (.int .i64 ((l : Int) + 3))).heap.size = w9.heap.size := by simp [World.setCell]
      have hB : V.heap[w9.heap.size]? = some (.cells #[.int .i64 2, .int .i64 ((l : Int) + 3), .int .i64 (c : Nat)] 31 (0, 0)) := by rw [hV, ← hsz9]; exact alloc_new _ _
      have hBV : Below w3.heap.size w3 V := by
       rw [hV]
       refine Below.alloc ((unhide HB9).setCell (p := ⟨w8.heap.size, 1, none⟩) hle8 _) ?_ _
       rw [hsz9]
       exact (unhide HB9).size
      have HBV := hide hBV
      have lA := lt_some hA
      have lB := lt_some hB
      obtain ⟨y0, y1, y2, yz⟩ := fault3 hA
      obtain ⟨z0, z1, z2, zz⟩ := fault3 hB
      clear hV hA hB hBV hsz9 x0 x1 x2 xz lx HB9 H9 hle8
      generalize w8.heap.size = b8 at *
      generalize w9.heap.size = b9 at *
      generalize (l : Int) + 3 = l3 at *
      go_wp2_with (first | (go_at_call 24; refine (nilLen_any _).mono ?_; rintro e w' ⟨rfl, hw'⟩; obtain rfl := hw'.symm) | (go_at_call 20; refine (nilEntries_any _).mono ?_; rintro e w' ⟨rfl, hw'⟩; obtain rfl := hw'.symm))
      go_loopw [108] (fun s108 wr => s108 = .int .i64 0 ∧ Hid (Below w3.heap.size w3 wr)) (fun _ _ => 0)
      case atStart => exact ⟨rfl, unhide HBV⟩
      case round =>
       obtain ⟨rfl, HB⟩ := hrel
       go_wp2
       go_ret
       exact ⟨rfl, btr (unhide B3) (unhide HB)⟩
     ·have hs3 : shift3 k l = l := by unfold shift3; rw [if_neg hkl]
      rw [hs3]
      have hkz : ¬ (k : Int) < (l : Int) := by omega
      go_wp2_with (first | (go_at_call 24; refine (nilLen_any _).mono ?_; rintro e w' ⟨rfl, hw'⟩; obtain rfl := hw'.symm) | (go_at_call 20; refine (nilEntries_any _).mono ?_; rintro e w' ⟨rfl, hw'⟩; obtain rfl := hw'.symm))
      go_loopw [108] (fun s108 wr => s108 = .int .i64 0 ∧ Hid (Below w9.heap.size w9 wr)) (fun _ _ => 0)
      case atStart => exact ⟨rfl, (Below.refl _ _).alloc (Nat.le_refl _) _⟩
      case round =>
       obtain ⟨rfl, HB⟩ := hrel
       go_wp2
       go_ret
       exact ⟨rfl, btr (unhide B3) (btr (unhide HB9) (unhide HB))⟩
theorem drem_walk (a s : ByteArray) (n : Int) (w : World) (hn0 : -9223372036854775808 ≤ n) (hn1 : n ≤ 9223372036854775807) (hM : Mx w.heap.size w) : DRem a s n w := by
 by_cases hs : 65536 < s.size
 ·exact drem_long a s n w hM (by omega)
 ·cases hx : affR a.data.toList with
  | error er => exact drem_nil a s n w hM (by omega) hx
  | ok F => exact drem_go a s n w hn0 hn1 hM (by omega) hx
end Af
end Go.Proofs.YtidhbhdcoanfcaaGreatDoor
