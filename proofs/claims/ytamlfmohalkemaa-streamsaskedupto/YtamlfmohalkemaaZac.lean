/- Layer 8: the walk of StreamsAsked. -/
import Derived.Laws.EntriesVeiled
import Derived.Test.YtamlfmohalkemaaZab
namespace Go.Proofs.Ytamlfmohalkemaa
open Go.RowKit Go.Shelf
namespace Sm
theorem runion {w : World} {va vc : Value} {A C : List Tx} (ha : RowAt w va A w.heap.size) (hc : RowAt w vc C w.heap.size) (hA : Rs A) (hC : Rs C) (hz : A.length + C.length ≤ 8796093022208) :
    Calls Try.prog 10 #[va, vc] w fun e w' => ∃ a c, e = .returned (.slice a (ofS (A ++ C)).length c) ∧ Own w' (.slice a (ofS (A ++ C)).length c) (ofS (A ++ C)) ∧ (∀ g, (Value.slice a (ofS (A ++ C)).length c).ownBlock = some g → w.heap.size ≤ g) ∧ Below w.heap.size w w' := by
  have HM := hide (merge_any ha hc hA hC hz)
  obtain ⟨aa, ca, rfl, -⟩ := ha
  obtain ⟨ac, cc, rfl, -⟩ := hc
  go_enter Try.func10, Try.ntmps10
  go_wp2_with (go_at_call 28; refine (unhide HM).mono ?_; rintro e w1 ⟨a, c, rfl, h1, h2, h3⟩; have HF := hide (⟨h1, h2, h3⟩ : _ ∧ _ ∧ _); clear h1 h2 h3)
  go_ret
  exact ⟨_, _, rfl, unhide HF⟩
def allOf (Ls : List (Value × List Tx)) : List Tx := (lsOf Ls).flatten
theorem allOf_snoc (Ls : List (Value × List Tx)) (p : Value × List Tx) : allOf (Ls ++ [p]) = allOf Ls ++ p.2 := by simp [allOf, lsOf]
theorem allOf_take {Ls : List (Value × List Tx)} {k : Nat} {p : Value × List Tx} (h : Ls[k]? = some p) : allOf (Ls.take (k + 1)) = allOf (Ls.take k) ++ p.2 := by
  rw [List.take_add_one, h]; exact allOf_snoc _ _
theorem allOf_le (Ls : List (Value × List Tx)) (k : Nat) : (allOf (Ls.take k)).length ≤ (allOf Ls).length := by
  have e : allOf Ls = allOf (Ls.take k) ++ allOf (Ls.drop k) := by
    unfold allOf lsOf
    rw [← List.flatten_append, ← List.map_append, List.take_append_drop]
  rw [e, List.length_append]; omega
theorem ofS_all (Ls : List (Value × List Tx)) : ofS (Ls.map fun p => ofS p.2).flatten = ofS (allOf Ls) := by
  refine rs_ext (ofS_rs _) (ofS_rs _) fun x => ?_
  rw [ofS_mem, ofS_mem]
  simp only [allOf, lsOf, List.mem_flatten, List.mem_map]
  constructor
  · rintro ⟨l, ⟨p, hp, rfl⟩, hx⟩
    exact ⟨p.2, ⟨p, hp, rfl⟩, ofS_mem.1 hx⟩
  · rintro ⟨l, ⟨p, hp, rfl⟩, hx⟩
    exact ⟨ofS p.2, ⟨p, hp, rfl⟩, ofS_mem.2 hx⟩
theorem ofS_flen : ∀ Ls : List (Value × List Tx), (Ls.map fun p => ofS p.2).flatten.length ≤ (allOf Ls).length
  | [] => by simp [allOf, lsOf]
  | p :: t => by
    have h1 := ofS_flen t
    have h2 := ofS_len p.2
    simp only [allOf, lsOf, List.map_cons, List.flatten_cons, List.length_append] at h1 ⊢
    omega
theorem St.has {w : World} {v : Value} {L : List Tx} (h : St w v L) (y : Tx) : Calls Try.prog 15 #[.agg #[v], .string y] w fun e w' => e = .returned (.bool (mem L y)) ∧ Below w.heap.size w w' := by
  obtain ⟨⟨B, h2, h3⟩, h4, h5⟩ := h
  refine (has_any h3 h4 (Below.refl _ _) h2 y).mono ?_
  rintro e w' ⟨b, rfl, hb, hw⟩
  refine ⟨?_, hw⟩
  rw [show b = mem L y by rw [Bool.eq_iff_iff, hb, mem_iff]]
theorem take_get8 {L : List Tx} {m j : Nat} {x : Tx} (h : (L.take m)[j]? = some x) : L[j]? = some x := by
  rw [List.getElem?_take] at h
  split at h
  · exact h
  · cases h
set_option maxRecDepth 100000 in
set_option maxHeartbeats 16000000 in
theorem asked_walk {w : World} {lv : Value} {Ls : List (Value × List Tx)} (hp : PRow w lv Ls w.heap.size) (hrow : ∀ p ∈ Ls, CRow w p.1 p.2 (fun _ => True)) (hn0 : Ls.length ≤ 1048576) (ht0 : (allOf Ls).length ≤ 1048576) (most : Int) (y : Tx) :
    Calls Try.prog 3 #[lv, .int .i64 most, .string y] w fun e w' => e = .returned (.bool true) ∧ Below w.heap.size w w' := by
  have HP := hide hp
  have HR := hide hrow
  obtain ⟨ao, cap, rfl, -⟩ := hp
  obtain ⟨n, hn⟩ : ∃ n, Ls.length = n := ⟨_, rfl⟩
  have HN := hide hn
  have hnz : n ≤ 1048576 := by omega
  have htz : (allOf Ls).length ≤ 1048576 := ht0
  rw [hn] at HP ⊢
  clear hrow hn hn0 ht0
  go_enter Try.func3, Try.ntmps3
  go_wp2
  go_loopw [7, 8, 15] (fun s7 s8 s15 wr => ∃ (k : Nat) (Ps : List (Value × List Tx)) (a7 a8 : Option Addr) (c7 c8 : Nat), s15 = .int .i64 (k : Int) ∧ k ≤ n ∧ s7 = .slice a7 k c7 ∧ s8 = .slice a8 (ofS (allOf (Ls.take k))).length c8 ∧ Hid (lsOf Ps = (Ls.take k).map fun p => ofS p.2) ∧ Hid (AS w Ps (.slice a7 k c7) (.slice a8 (ofS (allOf (Ls.take k))).length c8) (ofS (allOf (Ls.take k))) wr)) (fun _ _ s15 _ => n - (intOf s15).toNat)
  case atStart =>
    have e0 : ofS (allOf (Ls.take 0)) = [] := ofS_nil
    refine ⟨0, [], none, none, 0, 0, rfl, Nat.zero_le _, rfl, by rw [e0]; rfl, rfl, ?_⟩
    rw [e0]
    exact AS.start w
  case round =>
    obtain ⟨k, Ps, a7, a8, c7, c8, rfl, hk, rfl, rfl, HLS, HAS⟩ := hrel
    have hPk : Ps.length = k := by
      have := congrArg List.length (unhide HLS)
      simp [lsOf, unhide HN] at this
      omega
    by_cases hlt : k < n
    · have hltz : (k : Int) < (n : Int) := by omega
      have hk0 : 0 ≤ (k : Int) := by omega
      obtain ⟨⟨pv, A⟩, hx⟩ : ∃ x, Ls[k]? = some x := ⟨_, List.getElem?_eq_getElem (by rw [unhide HN]; exact hlt)⟩
      have hbl := (unhide HAS).bl
      obtain ⟨ao', cap', e1, hat⟩ := (unhide HP).below hbl
      obtain ⟨g, off, e2, hg, hc⟩ := hat (by rw [unhide HN]; omega)
      have e3 : ao = ao' := by injection e1
      clear e1
      subst e3
      subst e2
      have x0 : wr.cell? ⟨g, off + k, none⟩ = some pv := hc k _ hx
      have hcr : CRow w pv A (fun _ => True) := unhide HR _ (List.mem_of_getElem? hx)
      obtain ⟨ap, cp, rfl⟩ := hcr.slice
      have hT := allOf_take hx
      have hle := allOf_le Ls (k + 1)
      rw [hT, List.length_append] at hle
      have hlA : A.length ≤ 1048576 := by have : A.length = (⟨Value.slice ap A.length cp, A⟩ : Value × List Tx).2.length := rfl; omega
      have hlU : (allOf (Ls.take k)).length ≤ 1048576 := by omega
      have CT1 := hide (twin_any (hcr.below hbl).row (by omega))
      have HCR := hide hcr
      have HBL := hide hbl
      have HT := hide hT
      have HX := hide hx
      clear hat hc hx hcr hbl hT hle
      go_wp2_with fail
      refine (unhide CT1).mono ?_
      rintro e w1 ⟨a1, c1, rfl, ho1, hn1, hb1⟩
      have CT2 := hide (of_new (own_row ho1) (by omega))
      have B1 := hide hb1
      clear ho1 hn1 hb1 CT1
      go_wp2_with fail
      refine (unhide CT2).mono ?_
      rintro e w2 ⟨gf, lb, rfl, hof, hb2⟩
      have b12 := (unhide B1).trans (hb2.mono (unhide B1).size)
      have as2 := (unhide HAS).below b12
      have sk2 : Sk (fun b => (Value.slice a7 k c7).ownBlock = some b) w2 (.func (.func gf) #[] lb) (ofS A) := sk_of hof fun b q => Nat.lt_of_lt_of_le (own_lt (unhide HAS).own q).2 (unhide B1).size
      have ow2 := as2.own
      obtain ⟨a3, c3, W3, hrun, ho3, hc3, hg3⟩ := push_st (.func (.func gf) #[] lb) rfl ow2 (by omega) 23
      have as3 := as2.push sk2 (ofS_rs A) ho3 hc3 hg3
      rw [hPk] at hrun as3
      have HAP := hide hrun
      have AS3 := hide as3
      have CT4 := hide (rof ((unhide HCR).below as3.bl) (by omega))
      clear hof hb2 b12 as2 sk2 ow2 hrun ho3 hc3 hg3 as3 CT2 B1 HBL HAS
      go_wp2_with (at_builtin; refine wpList_append_run rfl _ _ 23 23 rfl _ _ rfl rfl _ _ (unhide HAP) ?_)
      refine (unhide CT4).mono ?_
      rintro e w4 ⟨a4, c4, rfl, ho4, hn4, hb4⟩
      have as4 := (unhide AS3).below hb4
      have hl1 := ofS_len (allOf (Ls.take k))
      have hl2 := ofS_len A
      have CT5 := hide (runion (own_row as4.want) (own_row ho4) (ofS_rs _) (ofS_rs _) (by omega))
      have AS4 := hide as4
      clear ho4 hn4 hb4 as4 CT4 AS3
      go_wp2_with fail
      refine (unhide CT5).mono ?_
      rintro e w5 ⟨a5, c5, rfl, ho5, hn5, hb5⟩
      have as5 := (unhide AS4).asked hb5 ho5 hn5
      have eU : ofS (ofS (allOf (Ls.take k)) ++ ofS A) = ofS (allOf (Ls.take (k + 1))) := by rw [ofS_halves, unhide HT]
      rw [eU] at as5 ⊢
      have AS5 := hide as5
      have HLS2 : Hid (lsOf (Ps ++ [(.func (.func gf) #[] lb, ofS A)]) = (Ls.take (k + 1)).map fun p => ofS p.2) := by
        rw [Hid, List.take_add_one, unhide HX, List.map_append, ← unhide HLS]
        simp [lsOf]
      clear ho5 hn5 hb5 as5 CT5 AS4 eU
      go_wp2
      refine ⟨⟨k + 1, _, a3, a5, c3, c5, by simp, by omega, rfl, rfl, HLS2, AS5⟩, ?_⟩
      show n - ((k : Int) + 1).toNat < n - (k : Int).toNat
      omega
    · have hltz : ¬ (k : Int) < (n : Int) := by omega
      obtain rfl : k = n := by omega
      have hTk : Ls.take k = Ls := List.take_of_length_le (by rw [unhide HN]; exact Nat.le_refl _)
      rw [hTk] at HLS HAS ⊢
      have eU : ofS (lsOf Ps).flatten = ofS (allOf Ls) := by rw [unhide HLS]; exact ofS_all Ls
      have hfl : (lsOf Ps).flatten.length ≤ 4194304 := by
        rw [unhide HLS]
        have := ofS_flen Ls
        omega
      have CT1 := (unhide HAS).union (by omega) hfl
      rw [eU] at CT1
      have C1 := hide CT1
      have hU := ofS_len (allOf Ls)
      have hrU := ofS_rs (allOf Ls)
      clear CT1 eU hfl HLS hTk HP HR
      generalize ofS (allOf Ls) = U at *
      go_wp2_with fail
      refine (unhide C1).mono ?_
      rintro e w1 ⟨gf, lb, rfl, hs1, hb1⟩
      have al1 := (Below.refl _ w1).alloc (Nat.le_refl _) (.cells #[.func (.func gf) #[] lb] 27)
      have hbV := hb1.alloc hb1.size (.cells #[.func (.func gf) #[] lb] 27)
      have SV := hide (hs1.below al1).s
      have OV := hide ((unhide HAS).want.below hbV)
      have XV := hide (Boxed.new w1 27 (.func (.func gf) #[] lb))
      have BV := hide ((unhide HAS).bl.trans (hbV.mono (unhide HAS).bl.size))
      have CW := hide (wakes_true (w1.alloc (.cells #[.func (.func gf) #[] lb] 27)))
      clear hs1 hb1 al1 hbV C1 HAS
      go_wp2_with fail
      refine (unhide CW).mono ?_
      rintro e w2 ⟨rfl, hb2⟩
      have S2 := hide (unhide SV w2 hb2)
      have O2 := hide ((unhide OV).below hb2)
      have X2 := hide (bx_below (unhide XV) hb2 (unhide XV).lt)
      have B2 := hide ((unhide BV).trans (hb2.mono (unhide BV).size))
      have k2 := (unhide X2).cell
      clear hb2 SV OV XV BV CW
      go_wp2_with fail
      refine ((unhide S2).is (own_row (unhide O2))).mono ?_
      rintro e w3 ⟨rfl, hb3⟩
      have S3 := hide ((unhide S2).below hb3)
      have O3 := hide ((unhide O2).below hb3)
      have X3 := hide (bx_below (unhide X2) hb3 (unhide X2).lt)
      have B3 := hide ((unhide B2).trans (hb3.mono (unhide B2).size))
      clear hb3 S2 O2 X2 B2 k2
      have k3 := (unhide X3).cell
      go_wp2_with fail
      refine ((unhide S3).has y).mono ?_
      rintro e w4 ⟨rfl, hb4⟩
      have S4 := hide ((unhide S3).below hb4)
      have O4 := hide ((unhide O3).below hb4)
      have X4 := hide (bx_below (unhide X3) hb4 (unhide X3).lt)
      have B4 := hide ((unhide B3).trans (hb4.mono (unhide B3).size))
      clear hb4 S3 O3 X3 B3 k3
      go_wp2_with fail
      refine (rhas_any y (own_row (unhide O4)) hrU (by omega)).mono ?_
      rintro e w5 ⟨rfl, hb5⟩
      have S5 := hide ((unhide S4).below hb5)
      have O5 := hide ((unhide O4).below hb5)
      have X5 := hide (bx_below (unhide X4) hb5 (unhide X4).lt)
      have B5 := hide ((unhide B4).trans (hb5.mono (unhide B4).size))
      clear hb5 S4 O4 X4 B4
      have k5 := (unhide X5).cell
      generalize mem U y = my at *
      go_wp2_with fail
      refine ((unhide S5).list most).mono ?_
      rintro e w6 ⟨a6, c6, rfl, ho6, hb6⟩
      have B6 := hide ((unhide B5).trans (hb6.mono (unhide B5).size))
      have O6 := hide ((unhide O5).below hb6)
      have P6 := hide ho6
      obtain ⟨ao8, cc8, e8, hcap, hat8⟩ := (unhide O6).crow
      injection e8 with e8a e8b e8c
      subst e8a e8c
      clear e8b hb6 ho6 S5 O5 X5 B5 k5
      by_cases hm : most < 1
      · have e0 : (U.take most.toNat).length = 0 := by rw [show most.toNat = 0 by omega]; simp
        rw [e0]
        go_wp2
        go_ret
        exact ⟨rfl, unhide B6⟩
      · by_cases hml : most ≤ (U.length : Int)
        · obtain ⟨m, rfl⟩ : ∃ m : Nat, most = (m : Int) := ⟨most.toNat, by omega⟩
          have hmz : m ≤ U.length := by omega
          simp only [Int.toNat_natCast] at P6 ⊢
          have HRB : Hid (RowAt w6 (.slice a8 m c8) (U.take m) w6.heap.size) := by
            refine ⟨a8, c8, by rw [List.length_take, Nat.min_eq_left hmz], fun h0 => ?_⟩
            have hU0 : 0 < U.length := by rw [List.length_take] at h0; omega
            obtain ⟨g, off, q1, _, q3, q4⟩ := hat8 hU0
            exact ⟨g, off, q1, q3, fun j x hj => q4 j x (take_get8 hj)⟩
          have CS0 := same_true (own_row (unhide P6)) (unhide HRB) (by rw [List.length_take]; omega)
          rw [show (U.take m).length = m by rw [List.length_take]; omega] at CS0
          have CS := hide CS0
          clear CS0
          have emin : (min (m : Int) (U.length : Int)).toNat = m := by omega
          have HE := hide emin
          clear HRB P6 O6 hat8 emin
          go_wp2_with fail
          rw [unhide HE]
          refine (unhide CS).mono ?_
          rintro e w7 ⟨rfl, hb7⟩
          have B7 := hide ((unhide B6).trans (hb7.mono (unhide B6).size))
          clear hb7 CS
          go_wp2
          go_ret
          exact ⟨rfl, unhide B7⟩
        · have eT : U.take most.toNat = U := List.take_of_length_le (by omega)
          rw [eT] at P6 ⊢
          have hlz : (U.length : Int) < most := by omega
          have CS := hide (same_true (own_row (unhide P6)) (own_row (unhide O6)) (by omega))
          have emin : (min most (U.length : Int)).toNat = U.length := by omega
          have HE := hide emin
          clear P6 O6 hat8 eT emin
          go_wp2_with fail
          rw [unhide HE]
          refine (unhide CS).mono ?_
          rintro e w7 ⟨rfl, hb7⟩
          have B7 := hide ((unhide B6).trans (hb7.mono (unhide B6).size))
          clear hb7 CS
          go_wp2
          go_ret
          exact ⟨rfl, unhide B7⟩
end Sm
end Go.Proofs.Ytamlfmohalkemaa
