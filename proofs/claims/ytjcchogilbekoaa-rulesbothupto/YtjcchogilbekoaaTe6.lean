/- Layer 15: the law's list of the document's rules; the document's Chain and Peel. -/
import Derived.Laws.AppendOwn
import Derived.Test.YtjcchogilbekoaaTe5
import Derived.Test.YtjcchogilbekoaaTd1
namespace Go.Proofs.Ytjcchogilbekoaa
open Go.RowKit Go.Shelf
namespace Rv

/-- a rule of the document's, cell by cell -/
def RuB.ds (x : RuB) : List Value := [.int .i64 x.k, .int .i64 0, .bool false, .string x.st, .string x.ad, .string x.cd, .slice none 0 0, .int .i64 0]
def dcs : List RuB → List Value
  | [] => []
  | x :: t => x.ds ++ dcs t
theorem dcs_len : ∀ L : List RuB, (dcs L).length = L.length * 8
  | [] => rfl
  | x :: t => by rw [dcs, List.length_append, dcs_len t, List.length_cons]; show 8 + _ = _; omega
theorem dcs_snoc : ∀ (L : List RuB) (x : RuB), dcs L ++ x.ds = dcs (L ++ [x])
  | [], x => by simp [dcs]
  | y :: t, x => by rw [dcs, List.append_assoc, dcs_snoc t x]; rfl
theorem dcs_get : ∀ (L : List RuB) (j : Nat) (x : RuB) (i : Nat), L[j]? = some x → i < 8 → (dcs L)[j * 8 + i]? = x.ds[i]?
  | [], _, _, _, h, _ => by simp at h
  | y :: t, 0, x, i, h, hi => by
    obtain rfl : y = x := by simpa using h
    rw [dcs, Nat.zero_mul, Nat.zero_add, List.getElem?_append_left (by show i < 8; exact hi)]
  | y :: t, j + 1, x, i, h, hi => by
    have h : t[j]? = some x := by simpa using h
    rw [dcs, List.getElem?_append_right (by show 8 ≤ _; omega), show (j + 1) * 8 + i - y.ds.length = j * 8 + i by show (j + 1) * 8 + i - 8 = _; omega, dcs_get t j x i h hi]
/-- the document's list in memory -/
def DAt (w : World) (v : Value) (L : List RuB) : Prop :=
  ∃ ao c, v = .slice ao L.length c ∧ (0 < L.length → ∃ g, ao = some ⟨g, 0, none⟩ ∧ g < w.heap.size ∧ ∀ (j : Nat) x, L[j]? = some x → ∀ (i : Nat) u, x.ds[i]? = some u → w.cell? ⟨g, j * 8 + i, none⟩ = some u)
theorem DAt.below {w w' : World} {v : Value} {L : List RuB} (h : DAt w v L) (hb : Below w.heap.size w w') : DAt w' v L := by
  obtain ⟨ao, c, e, hat⟩ := h
  refine ⟨ao, c, e, fun h0 => ?_⟩
  obtain ⟨g, e1, e2, e3⟩ := hat h0
  exact ⟨g, e1, Nat.lt_of_lt_of_le e2 hb.size, fun j x hj i u hu => (hb.cell (p := ⟨g, j * 8 + i, none⟩) e2).trans (e3 j x hj i u hu)⟩
theorem ds_lt {x : RuB} {i : Nat} {u : Value} (h : x.ds[i]? = some u) : i < 8 := (List.getElem?_eq_some_iff.1 h).1
theorem dat_of {n : Nat} {w : World} {v : Value} {L : List RuB} (h : w.ownsRow n 32 8 v L.length (dcs L)) : DAt w v L := by
  rcases h.2 with ⟨e1, e2⟩ | ⟨g, c, cur, e1, h1, hg, r⟩
  · exact ⟨none, 0, by rw [e1, e2], fun h0 => by omega⟩
  · refine ⟨_, c, e1, fun _ => ⟨g, rfl, (Array.getElem?_eq_some_iff.1 hg).1, fun j x hj i u hu => ?_⟩⟩
    have := h.cells (g := g) (by rw [e1]; rfl) (j * 8 + i) u (by rw [dcs_get L j x i hj (ds_lt hu)]; exact hu)
    rwa [Go.WideShapes.add_plain, Nat.zero_add] at this
theorem infoDR : (Try.prog.info? 32).map (fun i => (i.zero, i.size, i.bytes)) = some (some (.agg #[.int .i64 0, .int .i64 0, .bool false, .string ByteArray.empty, .string ByteArray.empty, .string ByteArray.empty, .slice none 0 0, .int .i64 0]), 8, 104) := by kernel_rfl
theorem push_up {w w1 w2 : World} {e size : Nat} {v : Value} {n : Nat} {xs : List Value} {o : Obj} (hown : w1.ownsRow w.heap.size e size v n xs) (hB : Below w.heap.size w w1) (hg : (w1.alloc o).grownBy w2 v.ownBlock) : Below w.heap.size w w2 :=
  (hB.alloc hB.size o).grown hg (by have := hB.size; simp; omega) (fun k e => (hown.lt k e).1)

set_option maxRecDepth 100000 in
set_option maxHeartbeats 2000000 in
theorem refs_any {v : Value} {L : List RuB} (w : World) (h : RulesAt w v L w.heap.size) (hz : L.length ≤ 1048576) :
    Calls Try.prog 18 #[v] w fun e w' => ∃ u, e = .returned u ∧ w'.ownsRow w.heap.size 32 8 u L.length (dcs L) ∧ Below w.heap.size w w' := by
  obtain ⟨i0, hi, hz0, hz1, hz2⟩ := info_parts infoDR
  obtain ⟨ao, c, rfl, hat⟩ := h
  have HAT := hide hat
  have HRF := hide (fun (x : RuB) W => Pt.ref15_any x.k x.fl x.cr x.st x.ad x.cd x.ao x.nl x.nc W)
  clear hat
  generalize hn : L.length = n at *
  have HN := hide hn
  clear hn
  go_enter Try.func18, Try.ntmps18
  go_wp2
  go_loopw [3, 8] (fun s3 s8 wr => ∃ (k : Nat) (u : Value), u = s3 ∧ s8 = .int .i64 (k : Int) ∧ k ≤ n ∧ Hid (wr.ownsRow w.heap.size 32 8 u k (dcs (L.take k))) ∧ Hid (Below w.heap.size w wr)) (fun _ s8 _ => n - (intOf s8).toNat)
  case atStart => exact ⟨0, _, rfl, rfl, Nat.zero_le _, World.ownsRow_nil _ _ _ _, Below.refl _ _⟩
  case round =>
    obtain ⟨k, u, rfl, rfl, hk, HR, HB⟩ := hrel
    by_cases hlt : k < n
    · have hltz : (k : Int) < (n : Int) := by omega
      obtain ⟨x, hx⟩ : ∃ x, L[k]? = some x := ⟨_, List.getElem?_eq_getElem (by rw [unhide HN]; exact hlt)⟩
      obtain ⟨g, off, rfl, hg, hcc⟩ := unhide HAT (by omega)
      obtain ⟨q0, q1, q2, q3, q4, q5, q6⟩ := rule_cells (w := wr) (g := g) (o := off + k * 7) (x := x) (fun i u hu => ((unhide HB).cell (p := ⟨g, off + k * 7 + i, none⟩) hg).trans (hcc k x hx i u hu))
      have htk : L.take (k + 1) = L.take k ++ [x] := by rw [List.take_add_one, hx]; rfl
      have HX := hide htk
      have HRX := hide (unhide HRF x)
      clear htk hcc hx
      go_wp2_with (first | (go_at_call 11; refine (unhide HRX _).mono ?_; rintro e w1 ⟨rfl, hb1⟩; have HB1 := hide (((unhide HB).alloc (unhide HB).size (.cells #[.int .i64 x.k, .int .u16 x.fl, .bool x.cr, .string x.st, .string x.ad, .string x.cd, .slice x.ao x.nl x.nc] 26)).trans (hb1.mono (by have := (unhide HB).size; simp; omega))); have HR1 := hide (Pt.owns_below ((unhide HR).alloc _) hb1); clear hb1) | (at_builtin; refine wpList_append_own _ rfl _ _ 39 rfl w.heap.size 32 i0 (.agg #[.int .i64 0, .int .i64 0, .bool false, .string ByteArray.empty, .string ByteArray.empty, .string ByteArray.empty, .slice none 0 0, .int .i64 0]) 8 104 Try.underlying39 hi hz0 hz1 hz2 rfl (by decide) _ _ _ rfl ((unhide HR1).alloc _) ⟨w1.heap.size, 0, none⟩ 1 1 x.ds rfl rfl (Pt.new_cells w1 _ _) (fun y hy => by simp [RuB.ds] at hy; rcases hy with rfl | rfl | rfl | rfl | rfl | rfl | rfl | rfl <;> rfl) (by unfold maxLen; omega) (by omega) (by have := (unhide HB1).size; simp; omega) ?_; intro v' w2 hown' hgrow hnil; clear hnil; have HO2 := hide hown'; have HB2 := hide (push_up (unhide HR1) (unhide HB1) hgrow); clear hown' hgrow))
      refine ⟨⟨k + 1, _, rfl, by simp, by omega, ?_, HB2⟩, by simp [intOf]; omega⟩
      have := unhide HO2
      rw [dcs_snoc, ← unhide HX] at this
      exact this
    · have hkn : k = n := by omega
      subst hkn
      obtain ⟨a1, c1, rfl⟩ : ∃ a c, u = Value.slice a k c := by
        rcases (unhide HR).2 with ⟨e1, e2⟩ | ⟨g, c, cur, e1, _⟩
        · exact ⟨none, 0, by rw [e1, e2]⟩
        · exact ⟨_, c, e1⟩
      have HR2 : Hid (wr.ownsRow w.heap.size 32 8 (.slice a1 k c1) k (dcs L)) := by
        have := unhide HR
        rwa [List.take_of_length_le (by rw [unhide HN]; exact Nat.le_refl _)] at this
      clear HR
      go_wp2
      go_ret
      exact ⟨_, rfl, unhide HR2, unhide HB⟩

/-- the rules that are left, one after the other -/
theorem chain_step {L : List RuB} {k : Nat} {x : RuB} (hx : L[k]? = some x) (m : List UInt8) : Ta.chain m ((L.drop k).map RuB.r) = (Ta.app x.r m).bind fun y => Ta.chain y ((L.drop (k + 1)).map RuB.r) := by
  obtain ⟨hk, e⟩ := List.getElem?_eq_some_iff.1 hx
  rw [List.drop_eq_getElem_cons hk, e]; rfl
theorem peel_step {L : List RuB} {k : Nat} {x : RuB} (hx : L[k]? = some x) (m : List UInt8) : Ta.peel m ((L.take (k + 1)).map RuB.r) = (Ta.und x.r m).bind fun y => Ta.peel y ((L.take k).map RuB.r) := by
  rw [List.take_add_one, hx]
  show Ta.peel m ((L.take k ++ [x]).map RuB.r) = _
  rw [List.map_append, Ta.peel_append, List.map_singleton]
  show (Ta.peel m [x.r]).bind _ = _
  rw [Ta.peel_cons]
  rfl
theorem tw_drop {L : List RuB} {k : Nat} {x : RuB} (hx : L[k]? = some x) : tw (L.drop k) = x.st.size + x.ad.size + tw (L.drop (k + 1)) := by
  obtain ⟨hk, e⟩ := List.getElem?_eq_some_iff.1 hx
  rw [List.drop_eq_getElem_cons hk, e, tw]
theorem tw_take {L : List RuB} {k : Nat} {x : RuB} (hx : L[k]? = some x) : tw (L.take (k + 1)) = x.st.size + x.ad.size + tw (L.take k) := by
  rw [List.take_add_one, hx]
  show tw (L.take k ++ [x]) = _
  rw [tw_append, tw, tw]; omega
theorem d_cells {w : World} {g o : Nat} {x : RuB} (h : ∀ (i : Nat) u, x.ds[i]? = some u → w.cell? ⟨g, o + i, none⟩ = some u) :
    w.cell? ⟨g, o, none⟩ = some (.int .i64 x.k) ∧ w.cell? ⟨g, o + 1, none⟩ = some (.int .i64 0) ∧ w.cell? ⟨g, o + 2, none⟩ = some (.bool false) ∧ w.cell? ⟨g, o + 3, none⟩ = some (.string x.st) ∧ w.cell? ⟨g, o + 4, none⟩ = some (.string x.ad) ∧ w.cell? ⟨g, o + 5, none⟩ = some (.string x.cd) ∧ w.cell? ⟨g, o + 6, none⟩ = some (.slice none 0 0) ∧ w.cell? ⟨g, o + 7, none⟩ = some (.int .i64 0) :=
  ⟨h 0 _ rfl, h 1 _ rfl, h 2 _ rfl, h 3 _ rfl, h 4 _ rfl, h 5 _ rfl, h 6 _ rfl, h 7 _ rfl⟩

set_option maxRecDepth 100000 in
set_option maxHeartbeats 2000000 in
theorem dchain_any {v : Value} {L : List RuB} (s : ByteArray) (w : World) (h : DAt w v L) (hz : L.length ≤ 1048576) (hs : s.size + tw L ≤ 4611686018427387903) :
    Calls Try.prog 17 #[.string s, v] w fun e w' => e = .returned (Pt.ansV (Ta.chain s.data.toList (L.map RuB.r))) ∧ Below w.heap.size w w' := by
  obtain ⟨ao, c, rfl, hat⟩ := h
  have HAT := hide hat
  obtain ⟨R, hR⟩ : ∃ R, R = Ta.chain s.data.toList (L.map RuB.r) := ⟨_, rfl⟩
  rw [← hR]
  have H0 := hide hR
  have hs0 := hide hs
  clear hat hR hs
  generalize hn : L.length = n at *
  have HN := hide hn
  clear hn
  go_enter Try.func17, Try.ntmps17
  go_wp2
  go_loopw [0, 6] (fun s0 s6 wr => ∃ (k : Nat) (m : ByteArray), s0 = .string m ∧ s6 = .int .i64 (k : Int) ∧ k ≤ n ∧ Hid (R = Ta.chain m.data.toList ((L.drop k).map RuB.r)) ∧ Hid (m.size + tw (L.drop k) ≤ 4611686018427387903) ∧ Hid (Below w.heap.size w wr)) (fun _ s6 _ => n - (intOf s6).toNat)
  case atStart => exact ⟨0, s, rfl, rfl, Nat.zero_le _, H0, hs0, Below.refl _ _⟩
  case round =>
    obtain ⟨k, m, rfl, rfl, hk, HR, HS, HB⟩ := hrel
    by_cases hlt : k < n
    · have hltz : (k : Int) < (n : Int) := by omega
      obtain ⟨x, hx⟩ : ∃ x, L[k]? = some x := ⟨_, List.getElem?_eq_getElem (by rw [unhide HN]; exact hlt)⟩
      obtain ⟨g, rfl, hg, hcc⟩ := unhide HAT (by omega)
      obtain ⟨q0, q1, q2, q3, q4, q5, q6, q7⟩ := d_cells (w := wr) (g := g) (o := k * 8) (x := x) (fun i u hu => ((unhide HB).cell (p := ⟨g, k * 8 + i, none⟩) hg).trans (hcc k x hx i u hu))
      have hsz := unhide HS
      rw [tw_drop hx] at hsz
      have HA := hide (Pt.dapp_any x.k x.st x.ad x.cd m wr (by omega))
      have hr := unhide HR
      rw [chain_step hx, show Ta.app x.r m.data.toList = Ta.app (Pt.ruR x.k x.st x.ad x.cd) m.data.toList from rfl] at hr
      have hgr : ∀ y, Ta.app (Pt.ruR x.k x.st x.ad x.cd) m.data.toList = some y → y.length + tw (L.drop (k + 1)) ≤ 4611686018427387903 := fun y hy => by
        have := app_grow x hy
        have e : m.data.toList.length = m.size := by simp
        omega
      have HG := hide hgr
      have HR2 := hide hr
      clear hcc hx hsz hr hgr HR HS hg
      cases hx : Ta.app (Pt.ruR x.k x.st x.ad x.cd) m.data.toList with
      | none =>
        have hr := unhide HR2
        rw [hx] at HA hr
        simp only [Pt.ansV] at HA
        have hr : R = none := hr
        subst hr
        clear hx HG HR2
        go_wp2_with (go_at_call 10; refine (unhide HA).mono ?_; rintro e w1 ⟨rfl, hb1⟩; have HB1 := hide ((unhide HB).trans (hb1.mono (unhide HB).size)); clear hb1)
        go_ret2
        exact ⟨rfl, unhide HB1⟩
      | some y =>
        have HR3 : Hid (R = Ta.chain (Pt.str y).data.toList ((L.drop (k + 1)).map RuB.r)) := by
          have hr := unhide HR2
          rw [hx] at hr
          rw [Pt.str_list]; exact hr
        have HS3 : Hid ((Pt.str y).size + tw (L.drop (k + 1)) ≤ 4611686018427387903) := by rw [Pt.str_size]; exact unhide HG y hx
        rw [hx] at HA
        simp only [Pt.ansV] at HA
        clear hx HG HR2
        go_wp2_with (go_at_call 10; refine (unhide HA).mono ?_; rintro e w1 ⟨rfl, hb1⟩; have HB1 := hide ((unhide HB).trans (hb1.mono (unhide HB).size)); clear hb1)
        exact ⟨⟨k + 1, Pt.str y, rfl, by simp, by omega, HR3, HS3, HB1⟩, by simp [intOf]; omega⟩
    · have hltz : ¬ (k : Int) < (n : Int) := by omega
      have hr : R = some m.data.toList := by
        have := unhide HR
        rw [List.drop_of_length_le (by rw [unhide HN]; omega)] at this
        exact this
      subst hr
      clear HR HS H0
      go_wp2
      go_ret2
      exact ⟨by rw [show Pt.ansV (some m.data.toList) = .tuple #[.string m, .bool true] from by simp only [Pt.ansV, Pt.rstr_self]]; rfl, unhide HB⟩
end Rv
end Go.Proofs.Ytjcchogilbekoaa
