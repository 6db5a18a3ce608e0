/- Contract: the document's Show answers the text of the rows, or the first fault; nothing old in memory turns. -/
import Derived.Test.YtaaonaaciomijabDoorFitW
import Derived.Test.YtaaonaaciomijabDoorByt
namespace Go.Proofs.YtaaonaaciomijabDoor
open Go.RowKit
namespace ShM
/-- a row as the document writes it: behind each field a blank, behind the last a line feed -/
def seg (n : Nat) : Nat → List ByteArray → List UInt8
  | _, [] => []
  | m, f :: t => f.data.toList ++ [if m + 1 = n then 10 else 32] ++ seg n (m + 1) t
theorem seg_app (n : Nat) (f : ByteArray) : ∀ (l : List ByteArray) (m : Nat), seg n m (l ++ [f]) = seg n m l ++ f.data.toList ++ [if m + l.length + 1 = n then 10 else 32]
  | [], m => by simp [seg]
  | x :: t, m => by
    have e : m + 1 + t.length + 1 = m + (x :: t).length + 1 := by simp; omega
    simp only [List.cons_append, seg, seg_app n f t (m + 1), List.append_assoc, e]
theorem seg_snoc {r : List ByteArray} {j n : Nat} {f : ByteArray} (h : r[j]? = some f) : seg n 0 (r.take (j + 1)) = seg n 0 (r.take j) ++ f.data.toList ++ [if j + 1 = n then 10 else 32] := by
  obtain ⟨hj, e⟩ := List.getElem?_eq_some_iff.1 h
  have hl : (r.take j).length = j := by simp; omega
  rw [List.take_succ_eq_append_getElem hj, e, seg_app, hl, Nat.zero_add]
theorem seg_join (n : Nat) : ∀ (t : List ByteArray) (f : ByteArray) (m : Nat), n = m + t.length + 1 → seg n m (f :: t) = f.data.toList ++ Lib.joinTail [32] (t.map fun f => f.data.toList) ++ [10]
  | [], f, m, h => by simp [seg, Lib.joinTail, h]
  | g :: t, f, m, h => by
    have h1 : ¬ m + 1 = n := by simp at h; omega
    have ih := seg_join n t g (m + 1) (by simp at h; omega)
    have e : seg n m (f :: g :: t) = f.data.toList ++ [if m + 1 = n then 10 else 32] ++ seg n (m + 1) (g :: t) := rfl
    rw [e, ih, if_neg h1]
    simp [Lib.joinTail]
theorem seg_full {r : List ByteArray} (h : r.length ≠ 0) : seg r.length 0 r = Lib.join (r.map fun f => f.data.toList) [32] ++ [10] := by
  cases r with
  | nil => simp at h
  | cons f t =>
    rw [seg_join _ t f 0 (by simp), List.map_cons, Lib.join_cons]
theorem seg_len (n : Nat) : ∀ (r : List ByteArray) (m : Nat), (seg n m r).length = rt r
  | [], m => rfl
  | f :: t, m => by
    have e : f.data.toList.length = f.size := by simp
    have e2 : rt (f :: t) = f.size + 1 + rt t := by simp [rt]
    simp only [seg, List.length_append, seg_len n t (m + 1), e, e2, List.length_singleton]
theorem fault_cases (R : List (List ByteArray)) (q : Int) (hq : q ≠ 0) (h : fault 0 R = q) : showS R = ⟨#[]⟩ ∧ showE R = q := by
  constructor
  · rw [showS, if_neg (fun h2 => hq (h.symm.trans h2.1))]
  · rw [showE, if_neg (fun h2 => hq (h.symm.trans h2)), h]
theorem long_cases (R : List (List ByteArray)) (h : fault 0 R = 0) (h2 : 65536 < tot R) : showS R = ⟨#[]⟩ ∧ showE R = 10 := by
  constructor
  · rw [showS, if_neg (fun h3 => by omega)]
  · rw [showE, if_pos h, if_neg (by omega)]
theorem text_cases (R : List (List ByteArray)) (h : fault 0 R = 0) (h2 : tot R ≤ 65536) : showS R = ⟨(shw R).toArray⟩ ∧ showE R = 0 := by
  constructor
  · rw [showS, if_pos ⟨h, h2⟩]
  · rw [showE, if_pos h, if_pos h2]
end ShM
namespace RSh
open FldW ShM Byt

theorem owns_push {w1 : World} {B : Nat} {v : Value} {L : List UInt8} {c : UInt8} {x : Int} (hx : (c.toNat : Int) = x) (h : w1.ownsRow B 5 1 v (L.length + 1) (Byt.bytes L ++ [.int .u8 x])) : w1.ownsRow B 5 1 v (L ++ [c]).length (Byt.bytes (L ++ [c])) := by
  rw [Byt.bytes_snoc, hx, List.length_append]
  exact h

set_option maxHeartbeats 8000000 in
set_option maxRecDepth 100000 in
theorem show_any (R : List (List ByteArray)) (v : Value) (w : World) (hR : IsRows w v R) (hsz : ∀ r ∈ R, ∀ f ∈ r, f.size < 4294967281) (hT : tot R ≤ 1099511627776) (hN : R.length ≤ 1099511627776) :
    Calls Tryd.prog 22 #[v] w fun e w' => e = .returned (.tuple #[.string (showS R), .int .i64 (showE R)]) ∧ Below w.heap.size w w' := by
  obtain ⟨ao, cap, rfl, hm, _, hcell⟩ := hR.form
  have HC := hide hcell
  have HSZ := hide hsz
  have HFC := hide (fault_cases R)
  have HLC := hide (long_cases R)
  have HXC := hide (text_cases R)
  have HTL := hide (tot_le R)
  have HNf : Hid (R.take R.length = R) := List.take_length
  clear hcell hsz hR
  generalize showS R = S at *
  generalize showE R = E at *
  generalize hn : R.length = n at *
  have HNn := hide hn
  clear hn
  unfold maxLen at hm
  generalize ht : tot R = t at *
  have HT := hide ht
  clear ht
  obtain ⟨i5, hi5, hi50, hi51, hi52⟩ := info_parts Byt.info5
  go_enter Tryd.func22, Tryd.ntmps22
  go_wp2
  go_loop [4, 5] (fun s i => ∃ k y : Nat, k ≤ n ∧ i = .int .i64 k ∧ s = .int .i64 y ∧ y ≤ t ∧ Hid (y = tot (R.take k) ∨ (65536 < y ∧ 65536 < tot (R.take k))) ∧ Hid (fault k (R.drop k) = fault 0 R)) (fun _ i => n - (intOf i).toNat)
  case atStart => exact ⟨0, 0, Nat.zero_le _, rfl, rfl, Nat.zero_le _, .inl rfl, by rw [Hid, List.drop_zero]⟩
  case round =>
    obtain ⟨k, y, hk, rfl, rfl, hy, HY, HF⟩ := hrel
    by_cases hlt : k < n
    · obtain ⟨r, hr⟩ : ∃ r, R[k]? = some r := ⟨_, List.getElem?_eq_getElem (by rw [unhide HNn]; exact hlt)⟩
      obtain ⟨g, off, u, rfl, hg, hcu, hru⟩ := unhide HC k r hr
      obtain ⟨ao2, cap2, rfl, hm2, _, hcell2⟩ := row_form hru
      have HC2 := hide hcell2
      have HSr := hide (unhide HSZ r (List.mem_of_getElem? hr))
      have HE := hide (fun h => (unhide HF).symm.trans (fault_empty hr h))
      have HBd := hide (fun h0 h => (unhide HF).symm.trans (fault_bad hr h0 h))
      have HGd := hide (fun h0 h => (fault_good hr h0 h).symm.trans (unhide HF))
      have HTS := hide (tot_snoc hr)
      have hb := unhide HTL (k + 1)
      rw [tot_snoc hr] at hb
      have HRL := hide (rt_le r)
      have HRf : Hid (r.take r.length = r) := List.take_length
      have hlk : (k : Int) < (n : Int) := by omega
      clear hcell2 hru hr HF
      unfold maxLen at hm2
      generalize hz : r.length = z at *
      have HZ := hide hz
      clear hz
      generalize hp : tot (R.take k) = p at *
      clear hp
      generalize hq : rt r = q at *
      have HQ := hide hq
      clear hq
      by_cases hz0 : z = 0
      · have h0 : ((z : Int) == 0) = true := by rw [beq_iff_eq]; omega
        have HA := hide (unhide HFC 12 (by decide) (unhide HE hz0))
        clear HE HBd HGd hz0
        go_wp2
        go_ret2
        exact ⟨ShoW.ret_se (unhide HA).1.symm (unhide HA).2.symm, Below.refl _ _⟩
      · have h0 : ((z : Int) == 0) = false := by rw [beq_eq_false_iff_ne]; omega
        have HBd2 := hide (unhide HBd hz0)
        have HGd2 := hide (unhide HGd hz0)
        clear HE HBd HGd
        go_wp2
        go_loop [4, 6] (fun s i => ∃ j y : Nat, j ≤ z ∧ i = .int .i64 j ∧ s = .int .i64 y ∧ y ≤ t ∧ Hid (y = p + rt (r.take j) ∨ (65536 < y ∧ 65536 < p + rt (r.take j))) ∧ Hid (rowOk k j (r.drop j) = rowOk k 0 r)) (fun _ i => z - (intOf i).toNat)
        case atStart => exact ⟨0, y, Nat.zero_le _, rfl, rfl, hy, HY, by rw [Hid, List.drop_zero]⟩
        case round =>
          clear HY hy
          obtain ⟨j, y, hj, rfl, rfl, hy, HY, HF⟩ := hrel
          by_cases hjl : j < z
          · obtain ⟨f, hf⟩ : ∃ f, r[j]? = some f := ⟨_, List.getElem?_eq_getElem (by rw [unhide HZ]; exact hjl)⟩
            obtain ⟨g2, off2, rfl, hg2, hcf⟩ := unhide HC2 j f hf
            have hfs := unhide HSr f (List.mem_of_getElem? hf)
            have HFI := hide (fun b W => FitW.fit_any f b W (by unfold maxLen; omega))
            have HOB := hide (fun h => (unhide HF).symm.trans (row_bad (k := k) hf h))
            have HOG := hide (fun h => (row_good (k := k) hf h).symm.trans (unhide HF))
            have HRS := hide (rt_snoc hf)
            have hb2 := unhide HRL (j + 1)
            rw [rt_snoc hf] at hb2
            have hlj : (j : Int) < (z : Int) := by omega
            clear hf HF
            have hcs : ∃ b : Bool, FitW.okF f.data.toList b = ok k j f ∧ ((b = true ∧ ((k : Int) == 0) = true ∧ ((j : Int) == 0) = true) ∨ (b = false ∧ ((k : Int) == 0) = false) ∨ (b = false ∧ ((k : Int) == 0) = true ∧ ((j : Int) == 0) = false)) := by
              refine ⟨(k == 0 && j == 0), FitW.okF_ok k j f, ?_⟩
              by_cases h1 : k = 0
              · by_cases h2 : j = 0
                · left; subst h1; subst h2; exact ⟨rfl, rfl, rfl⟩
                · right; right
                  refine ⟨by simp [h2], by rw [beq_iff_eq]; omega, by rw [beq_eq_false_iff_ne]; omega⟩
              · right; left
                exact ⟨by simp [h1], by rw [beq_eq_false_iff_ne]; omega⟩
            obtain ⟨b, hbo, hcs⟩ := hcs
            have HFB := hide (unhide HFI b)
            rw [hbo] at HFB
            clear hbo HFI
            generalize hx : rt (r.take j) = x at *
            clear hx
            cases hok : ok k j f with
            | false =>
              have HA := hide (unhide HFC 11 (by decide) (unhide HBd2 (unhide HOB hok)))
              rw [hok] at HFB
              clear hok HOB HOG HBd2 HGd2
              rcases hcs with ⟨hb1, e1, e2⟩ | ⟨hb1, e1⟩ | ⟨hb1, e1, e2⟩
              all_goals
                subst hb1
                go_wp2_with (go_at_call 39; refine (unhide HFB _).mono ?_; rintro e w1 ⟨rfl, hw⟩; obtain rfl := hw.symm)
                go_ret2
                exact ⟨ShoW.ret_se (unhide HA).1.symm (unhide HA).2.symm, Below.refl _ _⟩
            | true =>
              have HA := hide (unhide HOG hok)
              rw [hok] at HFB
              clear hok HOB HOG
              by_cases hyl : y ≤ 65536
              · have hyi : (y : Int) ≤ 65536 := by omega
                have hyx : y = p + x := (unhide HY).resolve_right (fun h => by omega)
                clear HY
                rcases hcs with ⟨hb1, e1, e2⟩ | ⟨hb1, e1⟩ | ⟨hb1, e1, e2⟩
                all_goals
                  subst hb1
                  go_wp2_with (go_at_call 39; refine (unhide HFB _).mono ?_; rintro e w1 ⟨rfl, hw⟩; obtain rfl := hw.symm)
                  go_round
                  case rel => exact ⟨j + 1, y + f.size + 1, by omega, by go_num, by go_num, by omega, .inl (by rw [unhide HRS]; omega), HA⟩
                  case measure => simp [intOf]; omega
              · have hyi : ¬ (y : Int) ≤ 65536 := by omega
                have hyx : 65536 < p + x := by rcases unhide HY with h | h <;> omega
                clear HY
                rcases hcs with ⟨hb1, e1, e2⟩ | ⟨hb1, e1⟩ | ⟨hb1, e1, e2⟩
                all_goals
                  subst hb1
                  go_wp2_with (go_at_call 39; refine (unhide HFB _).mono ?_; rintro e w1 ⟨rfl, hw⟩; obtain rfl := hw.symm)
                  go_round
                  case rel => exact ⟨j + 1, y, by omega, by go_num, rfl, hy, .inr ⟨by omega, by rw [unhide HRS]; omega⟩, HA⟩
                  case measure => simp [intOf]; omega
          · have hjz : j = z := by omega
            have HA := hide (unhide HGd2 ((unhide HF).symm.trans (row_end (by rw [unhide HZ]; omega))))
            have HY2 : Hid (y = tot (R.take (k + 1)) ∨ (65536 < y ∧ 65536 < tot (R.take (k + 1)))) := by
              have h := unhide HY
              rw [hjz, unhide HRf, unhide HQ, ← unhide HTS] at h
              exact h
            clear HF HY HBd2 HGd2 hjz
            go_wp2
            go_round
            case rel => exact ⟨k + 1, y, by omega, by go_num, rfl, hy, HY2, HA⟩
            case measure => simp [intOf]; omega
    · have hkn : k = n := by omega
      have hf0 := (unhide HF).symm.trans (fault_end (by rw [unhide HNn]; omega))
      have HY2 : Hid (y = t ∨ (65536 < y ∧ 65536 < t)) := by
        have h := unhide HY
        rw [hkn, unhide HNf, unhide HT] at h
        exact h
      have HNE := hide (fault_ne hf0)
      have HL2 := hide (unhide HLC hf0)
      have HX2 := hide (unhide HXC hf0)
      clear HF HY hkn hf0 HFC HLC HXC
      by_cases hyl : 65536 < y
      · have hyi : (65536 : Int) < (y : Int) := by omega
        have HA := hide (unhide HL2 (by rcases unhide HY2 with h | h <;> omega))
        clear HY2 HL2 HX2
        go_wp2
        go_ret2
        exact ⟨ShoW.ret_se (unhide HA).1.symm (unhide HA).2.symm, Below.refl _ _⟩
      · have hyi : ¬ (65536 : Int) < (y : Int) := by omega
        have HA := hide (unhide HX2 (by rcases unhide HY2 with h | h <;> omega))
        clear HY2 HL2 HX2
        go_wp2
        go_loopw [8, 9] (fun v i wr => ∃ k : Nat, k ≤ n ∧ i = .int .i64 k ∧ wr.ownsRow w.heap.size 5 1 v (shw (R.take k)).length (Byt.bytes (shw (R.take k))) ∧ Below w.heap.size w wr) (fun _ i _ => n - (intOf i).toNat)
        case atStart => exact ⟨0, Nat.zero_le _, rfl, World.ownsRow_nil _ _ _ _, Below.refl _ _⟩
        case round =>
          clear hk hlt
          obtain ⟨k, hk, rfl, hown, hB⟩ := hrel
          have hAl : (shw (R.take k)).length ≤ t + n := by
            have h1 := shw_len (R.take k)
            have h2 := unhide HTL k
            have h3 := List.length_take_le k R
            have h4 := unhide HNn
            omega
          by_cases hlt : k < n
          · obtain ⟨r, hr⟩ : ∃ r, R[k]? = some r := ⟨_, List.getElem?_eq_getElem (by rw [unhide HNn]; exact hlt)⟩
            obtain ⟨g, off, u, rfl, hg, hcu, hru⟩ := unhide HC k r hr
            obtain ⟨ao2, cap2, rfl, hm2, _, hcell2⟩ := row_form hru
            have hne := unhide HNE k r hr
            obtain ⟨f0, hf0⟩ : ∃ f, r[0]? = some f := ⟨_, List.getElem?_eq_getElem (by omega)⟩
            obtain ⟨g2, off2, rfl, hg2, _⟩ := hcell2 0 f0 hf0
            have HX : Hid (∀ X : World, Below w.heap.size w X → X.cell? ⟨g, off + k, none⟩ = some (.slice (some ⟨g2, off2, none⟩) r.length cap2) ∧ ∀ (j : Nat) f, r[j]? = some f → X.cell? ⟨g2, off2 + j, none⟩ = some (.string f)) := by
              intro X hX
              refine ⟨(hX.cell (p := ⟨g, off + k, none⟩) hg).trans hcu, fun j f hf => ?_⟩
              obtain ⟨g3, off3, e3, hg3, hc3⟩ := hcell2 j f hf
              injection e3 with e3
              injection e3 with e4 e5
              subst e4
              subst e5
              exact (hX.cell (p := ⟨_, _, none⟩) hg3).trans hc3
            have hrt : tot (R.take k) + rt r ≤ t := by
              have h1 := unhide HTL (k + 1)
              rw [tot_snoc hr] at h1
              exact h1
            have HSn : Hid (shw (R.take (k + 1)) = shw (R.take k) ++ seg r.length 0 r) := by
              rw [Hid, shw_snoc hr, seg_full hne, List.append_assoc]
            have HSr := hide (unhide HSZ r (List.mem_of_getElem? hr))
            have HSL := hide (fun j => seg_len r.length (r.take j) 0)
            have HRL := hide (rt_le r)
            have HRf : Hid (r.take r.length = r) := List.take_length
            have hlk : (k : Int) < (n : Int) := by omega
            have HO := hide hown
            have HB := hide hB
            clear hcell2 hru hcu hr hf0 hown hB
            unfold maxLen at hm2
            generalize hz : r.length = z at *
            have HZ := hide hz
            clear hz
            generalize shw (R.take k) = A at *
            generalize tot (R.take k) = p at *
            obtain ⟨V0, hV0⟩ : ∃ V0, V0 = wr := ⟨_, rfl⟩
            subst hV0
            go_wp2
            go_loopw [8, 10] (fun v i wr => ∃ j : Nat, j ≤ z ∧ i = .int .i64 j ∧ wr.ownsRow w.heap.size 5 1 v (A ++ seg z 0 (r.take j)).length (Byt.bytes (A ++ seg z 0 (r.take j))) ∧ Below w.heap.size w wr) (fun _ i _ => z - (intOf i).toNat)
            case atStart => exact ⟨0, Nat.zero_le _, rfl, by rw [show seg z 0 (r.take 0) = [] from rfl, List.append_nil]; exact unhide HO, unhide HB⟩
            case round =>
              clear HO HB
              obtain ⟨j, hj, rfl, hown, hB⟩ := hrel
              have hcw := (unhide HX wr hB).1
              have hDl : (A ++ seg z 0 (r.take j)).length ≤ t + n + t := by
                rw [List.length_append, unhide HSL j]
                have := unhide HRL j
                omega
              by_cases hjl : j < z
              · obtain ⟨f, hf⟩ : ∃ f, r[j]? = some f := ⟨_, List.getElem?_eq_getElem (by rw [unhide HZ]; exact hjl)⟩
                have hcf := (unhide HX wr hB).2 j f hf
                have HXf := hide (fun X hX => (unhide HX X hX).2 j f hf)
                have hfs := unhide HSr f (List.mem_of_getElem? hf)
                have HSg : Hid (A ++ seg z 0 (r.take (j + 1)) = A ++ seg z 0 (r.take j) ++ f.data.toList ++ [if j + 1 = z then 10 else 32]) := by
                  rw [Hid, seg_snoc hf]
                  simp only [List.append_assoc]
                have hlj : (j : Int) < (z : Int) := by omega
                have HO := hide hown
                have HB := hide hB
                clear hf hown hB
                generalize A ++ seg z 0 (r.take j) = D at *
                obtain ⟨V1, hV1⟩ : ∃ V1, V1 = wr := ⟨_, rfl⟩
                subst hV1
                go_wp2
                go_loopw [8, 11] (fun v i wr => ∃ q : Nat, q ≤ f.size ∧ i = .int .i64 q ∧ wr.ownsRow w.heap.size 5 1 v (D ++ f.data.toList.take q).length (Byt.bytes (D ++ f.data.toList.take q)) ∧ Below w.heap.size w wr) (fun _ i _ => f.size - (intOf i).toNat)
                case atStart => exact ⟨0, Nat.zero_le _, rfl, by rw [List.take_zero, List.append_nil]; exact unhide HO, unhide HB⟩
                case round =>
                  clear HO HB hcw hcf
                  obtain ⟨q, hq, rfl, hown, hB⟩ := hrel
                  have hcw := (unhide HX wr hB).1
                  have hcf := unhide HXf wr hB
                  have hYl : (D ++ f.data.toList.take q).length ≤ t + n + t + 4294967281 := by
                    rw [List.length_append]
                    have h1 : (f.data.toList.take q).length ≤ q := List.length_take_le _ _
                    omega
                  by_cases hql : q < f.size
                  · have HTk : Hid (D ++ f.data.toList.take (q + 1) = D ++ f.data.toList.take q ++ [f[q]]) := by
                      rw [Hid, Fld.take_snoc f q hql, List.append_assoc]
                    have hlq : (q : Int) < (f.size : Int) := by omega
                    generalize D ++ f.data.toList.take q = Y at *
                    go_wp2_with (at_builtin; refine wpList_append_own _ rfl _ _ 65 rfl w.heap.size 5 i5 (.int .u8 0) 1 1 Tryd.underlying65 hi5 hi50 hi51 hi52 rfl (by decide) _ _ _ rfl (hown.alloc _) ⟨wr.heap.size, 0, none⟩ 1 1 [.int .u8 (f[q].toNat : Int)] rfl rfl (cell_one_new _ _ _) (fun x hx => by simp at hx; subst hx; rfl) (by unfold maxLen; omega) (by omega) (by have := hB.size; simp; omega) ?_; intro v' w1 hown' hgrow hnil; clear hnil)
                    have HB1 := hide (below_push hown hB hgrow)
                    have HO1 := hide (owns_push (c := f[q]) rfl hown')
                    clear hown hB hgrow hown' hcw hcf
                    go_wp2
                    go_roundw
                    case rel => exact ⟨q + 1, by omega, by go_num, by rw [unhide HTk]; exact unhide HO1, unhide HB1⟩
                    case measure => simp [intOf]; omega
                  · have HFu : Hid (D ++ f.data.toList.take q = D ++ f.data.toList) := by rw [Hid, Fld.full f q (by omega)]
                    by_cases hlast : j + 1 = z
                    · have hjz : ((j : Int) == (z : Int) - 1) = true := by rw [beq_iff_eq]; omega
                      have HS2 : Hid (A ++ seg z 0 (r.take (j + 1)) = D ++ f.data.toList.take q ++ [10]) := by rw [Hid, unhide HSg, unhide HFu, if_pos hlast]
                      clear HFu HSg
                      generalize D ++ f.data.toList.take q = Y at *
                      go_wp2_with (at_builtin; refine wpList_append_own _ rfl _ _ 65 rfl w.heap.size 5 i5 (.int .u8 0) 1 1 Tryd.underlying65 hi5 hi50 hi51 hi52 rfl (by decide) _ _ _ rfl (hown.alloc _) ⟨wr.heap.size, 0, none⟩ 1 1 [.int .u8 10] rfl rfl (cell_one_new _ _ _) (fun x hx => by simp at hx; subst hx; rfl) (by unfold maxLen; omega) (by omega) (by have := hB.size; simp; omega) ?_; intro v' w1 hown' hgrow hnil; clear hnil)
                      have HB1 := hide (below_push hown hB hgrow)
                      have HO1 := hide (owns_push (c := 10) rfl hown')
                      clear hown hB hgrow hown' hcw hcf
                      go_wp2
                      go_roundw
                      case rel => exact ⟨j + 1, by omega, by go_num, by rw [unhide HS2]; exact unhide HO1, unhide HB1⟩
                      case measure => simp [intOf]; omega
                    · have hjz : ((j : Int) == (z : Int) - 1) = false := by rw [beq_eq_false_iff_ne]; omega
                      have HS2 : Hid (A ++ seg z 0 (r.take (j + 1)) = D ++ f.data.toList.take q ++ [32]) := by rw [Hid, unhide HSg, unhide HFu, if_neg hlast]
                      clear HFu HSg
                      generalize D ++ f.data.toList.take q = Y at *
                      go_wp2_with (at_builtin; refine wpList_append_own _ rfl _ _ 65 rfl w.heap.size 5 i5 (.int .u8 0) 1 1 Tryd.underlying65 hi5 hi50 hi51 hi52 rfl (by decide) _ _ _ rfl (hown.alloc _) ⟨wr.heap.size, 0, none⟩ 1 1 [.int .u8 32] rfl rfl (cell_one_new _ _ _) (fun x hx => by simp at hx; subst hx; rfl) (by unfold maxLen; omega) (by omega) (by have := hB.size; simp; omega) ?_; intro v' w1 hown' hgrow hnil; clear hnil)
                      have HB1 := hide (below_push hown hB hgrow)
                      have HO1 := hide (owns_push (c := 32) rfl hown')
                      clear hown hB hgrow hown' hcw hcf
                      go_wp2
                      go_roundw
                      case rel => exact ⟨j + 1, by omega, by go_num, by rw [unhide HS2]; exact unhide HO1, unhide HB1⟩
                      case measure => simp [intOf]; omega
              · have hjz : j = z := by omega
                have HA2 : Hid (A ++ seg z 0 (r.take j) = shw (R.take (k + 1))) := by rw [Hid, hjz, unhide HRf, unhide HSn]
                have hown2 := hown
                rw [unhide HA2] at hown2
                have HO2 := hide hown2
                clear hjz hown hown2 HA2
                go_wp2
                go_roundw
                case rel => exact ⟨k + 1, by omega, by go_num, unhide HO2, hB⟩
                case measure => simp [intOf]; omega
          · have hkn : k = n := by omega
            have hF : shw (R.take k) = shw R := by rw [hkn, unhide HNf]
            rw [hF] at hown
            have hcv := Byt.conv_owns hown
            clear hown hkn hF hAl
            go_wp2
            go_ret2
            exact ⟨ShoW.ret_se (unhide HA).1.symm (unhide HA).2.symm, hB⟩
end RSh
end Go.Proofs.YtaaonaaciomijabDoor
