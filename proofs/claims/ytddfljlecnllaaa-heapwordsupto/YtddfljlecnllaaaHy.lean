/- Layer 7: Replace of a heap with items. -/
import Derived.Test.YtddfljlecnllaaaHw
namespace Go.Proofs.Ytddfljlecnllaaa
open Go.RowKit
namespace Hp
theorem Shape.over {lt : It → It → Bool} {A : List Nd} (z : Nd) (h : Shape lt (gd A) A.length) : Sinking lt (gd (A.set 0 z)) (A.set 0 z).length 0 := by
  have e : ∀ i, 0 < i → gd (A.set 0 z) i = gd A i := fun i h0 => by
    unfold gd
    simp only [List.getD_eq_getElem?_getD]
    rw [List.getElem?_set_ne (by omega)]
  rw [List.length_set]
  refine ⟨fun i h0 hi hp => ?_, fun h0 => by omega⟩
  rw [e i h0, e (par i) (by omega)]
  exact h i h0 hi
set_option maxRecDepth 100000 in
set_option maxHeartbeats 4000000 in
theorem replace_some {fv : Value} {lt : It → It → Bool} (L : LessV fv lt) {w : World} {hb : Nat} {I J : List It} {y : It} {p : Nat} {F : Nat → Prop} (h : HAt w hb fv lt I p F) (hz : I.length ≤ 1099511627776) (hp : p ≤ 4611686018427387904) (hpop : pop lt I = some (y, J)) (x : It) :
    Calls Try.prog 34 #[.pointer (some ⟨hb, 0, none⟩), .agg #[.int .i64 x.1, .int .i64 x.2]] w fun e w' => e = .returned (.tuple #[.agg #[.int .i64 y.1, .int .i64 y.2], .bool true]) ∧ Res F w hb fv lt (J ++ [x]) (p + 1) w' := by
  obtain ⟨A, nv, hin, hbag, hsh⟩ := h
  have hAl := hbag.len
  obtain ⟨ao, cap, rfl⟩ := own_slice hin.row
  have hA0 : 0 < A.length := by
    rw [hAl]
    cases I with
    | nil => simp [pop] at hpop
    | cons y t => simp
  obtain ⟨g, rfl⟩ : ∃ g, ao = some ⟨g, 0, none⟩ := by
    rcases hin.row.2 with ⟨e1, e2⟩ | ⟨g, c, cur, e1, _⟩
    · omega
    · injection e1 with e1 _ _; exact ⟨g, e1⟩
  have HPK : Hid (∀ o1 o2 : Obj, Calls Try.prog 32 #[.pointer (some ⟨hb, 0, none⟩)] ((w.alloc o1).alloc o2) fun e w' => e = .returned (.tuple #[.agg #[.int .i64 (gd A 0).1.1, .int .i64 (gd A 0).1.2], .bool true]) ∧ Below ((w.alloc o1).alloc o2).heap.size ((w.alloc o1).alloc o2) w') := fun o1 o2 => peek_some (hin.below (((Below.refl _ _).alloc (Nat.le_refl _) o1).alloc (by simp) o2)) hA0
  obtain ⟨q, hq⟩ : ∃ q, q = p + 1 := ⟨_, rfl⟩
  have HNX : Hid (∀ W, Below w.heap.size w W → Calls Try.prog 36 #[.pointer (some ⟨hb, 0, none⟩), .agg #[.int .i64 x.1, .int .i64 x.2]] W fun e w' => e = .returned (.agg #[.int .i64 x.1, .int .i64 x.2, .int .i64 (q : Int)]) ∧ HIn w' hb fv A q F (.slice (some ⟨g, 0, none⟩) A.length cap) ∧ Chg F W w') := fun W hW => by
    rw [hq]
    exact next_any (hin.below hW) hp x
  have HLT := hide hin.lt
  have HL := hide L
  have HIN := hide hin
  have HSHC := hide (hsh.over (x, q))
  have HBG : Hid (gd A 0 = (y, (gd A 0).2) ∧ Bag (A.set 0 (x, q)) (J ++ [x]) q) := by
    obtain ⟨a, T, rfl⟩ : ∃ a T, A = a :: T := by cases A with | nil => simp at hA0 | cons a T => exact ⟨a, T, rfl⟩
    obtain ⟨J', e1, e2⟩ := hbag.pop L.ord (fun y hy => by
      obtain ⟨i, hi⟩ := List.mem_iff_getElem?.1 hy
      have := hsh.root L.ord i (List.getElem?_eq_some_iff.1 hi).1
      rw [gd_some hi] at this
      exact this)
    rw [hpop] at e1
    injection e1 with e1
    injection e1 with e1 e3
    subst e3
    refine ⟨by rw [e1]; rfl, ?_⟩
    rw [hq]
    exact (e2.push x).perm (List.perm_append_singleton _ _).symm
  have hgF : F g := hin.rowF g rfl
  have hgw : g < w.heap.size := hin.lt g hgF
  have hgb : hb ≠ g := hne hin
  obtain ⟨c0, c1, c2, cf, hl⟩ := hcells hin.obj
  obtain ⟨n, hn⟩ : ∃ n, A.length = n + 1 := ⟨A.length - 1, by omega⟩
  have HN := hide hn
  have hnz : n + 1 ≤ 1099511627776 := by omega
  rw [← hq]
  rw [hn] at c1 HNX HIN
  have HQ := hide hq
  clear hbag hsh hin c0 c2 L hn hq hAl hA0
  go_enter Try.func34, Try.ntmps34
  go_wp2_with fail
  refine (unhide HPK _ _).mono ?_
  rintro e w1 ⟨rfl, hb1⟩
  obtain ⟨n1, n2⟩ := new2 w #[.int .i64 x.1, .int .i64 x.2] #[.int .i64 0, .int .i64 0] 39 39
  have g1 := (hb1.block _ (by simp; omega)).trans n1
  have g2 := (hb1.block _ (by simp)).trans n2
  have HB1 : Hid (Below w.heap.size w w1) := (((Below.refl _ w).alloc (Nat.le_refl _) _).alloc (by simp) _).trans (hb1.mono (by simp; omega))
  obtain ⟨i0, i1, jf, il⟩ := cells2 g1
  obtain ⟨r0, r1, rf, rl⟩ := cells2 g2
  have G2 := hide g2
  have s1 := ((unhide HB1).cell (p := ⟨hb, 1, none⟩) hl).trans c1
  have hlw : hb < w1.heap.size := Nat.lt_trans hl il
  clear hb1 n1 n2 g1 g2 HPK c1
  go_wp2
  refine gen_world ?_
  intro V hV
  have hVB : Below w.heap.size w V := by rw [hV]; exact (unhide HB1).alloc (unhide HB1).size _
  have HVB := hide hVB
  have hbl : ∀ k, k < w1.heap.size → V.heap[k]? = w1.heap[k]? := fun k hk => by rw [hV]; exact Below.heap_alloc _ _ _ hk
  have HRB : Hid (V.heap[w.heap.size + 1]? = some (.cells #[.int .i64 0, .int .i64 0] 39 (0, 0))) := (hbl _ rl).trans (unhide G2)
  have HLB : Hid (V.heap[w1.heap.size]? = some (.cells #[.int .i64 (gd A 0).1.1, .int .i64 (gd A 0).1.2] 39 (0, 0))) := by rw [hV]; exact (MapKept.heap_alloc w1 _).1
  have s0 := (World.cell?_of_block (a := ⟨hb, 1, none⟩) (hbl _ hlw)).trans s1
  have t0 := (World.cell?_of_block (a := ⟨w.heap.size, 0, none⟩) (hbl _ il)).trans i0
  have t1 := (World.cell?_of_block (a := ⟨w.heap.size, 1, none⟩) (hbl _ il)).trans i1
  have hVs : w1.heap.size < V.heap.size := by rw [hV]; simp
  clear hV hVB hbl s1 i0 i1 jf r0 r1 rf cf G2
  go_region_law
    (first
      | (refine step_call2 (by rfl) 36 _ _ _ (by rfl) (.pointer (some ⟨hb, 0, none⟩)) (.agg #[.int .i64 x.1, .int .i64 x.2]) (by rfl) (by rfl) (fun W => ent_next _ _ W) ((unhide HNX _ (unhide HVB).drew).mono ?_)
         rintro e w3 ⟨rfl, h3, h4⟩
         refine ⟨_, rfl, ?_⟩
         have k3 : w3.cell? ⟨hb, 1, none⟩ = some (.slice (some ⟨g, 0, none⟩) (n + 1) cap) := (hcells h3.obj).2.1
         obtain ⟨d0, d1, d2, df⟩ := ncells (c := cap) (by rw [unhide HN]; exact h3) rfl
         have z0 : w3.cell? ⟨g, 0, none⟩ = some (.int .i64 (gd A 0).1.1) := by simpa using d0 0 (by rw [unhide HN]; omega)
         have z1 : w3.cell? ⟨g, 1, none⟩ = some (.int .i64 (gd A 0).1.2) := by simpa using d1 0 (by rw [unhide HN]; omega)
         have z2 : w3.cell? ⟨g, 2, none⟩ = some (.int .i64 (gd A 0).2) := by simpa using d2 0 (by rw [unhide HN]; omega)
         have H3 := hide h3
         have H4 := hide h4
         clear h3 h4 d0 d1 d2))
  all_goals
    refine gen_then ?_
    intro W hW
    have e : W = put3 w3 g 0 (x, q) := by rw [hW]; rfl
    have HWI : Hid (HIn W hb fv (A.set 0 (x, q)) q F (.slice (some ⟨g, 0, none⟩) (n + 1) cap) ∧ Chg F w W ∧ Chg F V W) := by
      obtain ⟨e1, e2⟩ := HIn.put (unhide H3) (unhide HN).symm 0 (x, q)
      have cV : Chg F V w3 := (Chg.refl F V).drew.then (unhide H4)
      rw [e]
      exact ⟨e1, ((Chg.of_below (unhide HVB)).then cV).then e2, cV.then e2⟩
    have HSK := hide (sink_any (unhide HL) (unhide HWI).1 (by simp [unhide HN]; omega) (unhide HSHC))
    clear hW e H3 H4 k3 z0 z1 z2 df s0 t0 t1
    go_wp2_with (go_at_call 38; refine (unhide HSK).mono ?_; rintro e w7 ⟨rfl, B, y1, y2, y3, y4⟩; have cV := (unhide HWI).2.2.then y4; have b1 := (cV.block _ (Nat.lt_trans rl hVs) (fun e => by have := unhide HLT _ e; omega)).trans (unhide HRB); have b2 := (cV.block _ hVs (fun e => by have := unhide HLT _ e; omega)).trans (unhide HLB); obtain ⟨p0, p1, pf, pl⟩ := cells2 b1; obtain ⟨l0, l1, lf, ll⟩ := cells2 b2; have H7 := hide (And.intro y1 (And.intro y2 (And.intro y3 y4))); clear y1 y2 y3 y4 cV b1 b2)
    refine gen_post ?_
    intro V9 hV9
    have v0 : V9.cell? ⟨w.heap.size + 1, 0, none⟩ = some (.int .i64 (gd A 0).1.1) := by rw [hV9]; go_simp
    have v1 : V9.cell? ⟨w.heap.size + 1, 1, none⟩ = some (.int .i64 (gd A 0).1.2) := by rw [hV9]; go_simp
    have HE : Hid (Res F w hb fv lt (J ++ [x]) q V9) := by
      obtain ⟨y1, y2, y3, y4⟩ := unhide H7
      have c7 : Chg F w w7 := (unhide HWI).2.1.then y4
      rw [hV9]
      refine ⟨⟨B, _, y1.kept (fun b hb => ?_) (fun b hb => .inl hb) (fun b hb => ?_), (unhide HBG).2.perm y2, y3⟩, (c7.setCell (.inr (Nat.le_succ _)) _).setCell (.inr (Nat.le_succ _)) _⟩
      · have := unhide HLT _ hb
        rw [Below.heap_setCell _ _ _ _ (by show b ≠ w.heap.size + 1; omega), Below.heap_setCell _ _ _ _ (by show b ≠ w.heap.size + 1; omega)]
      · rcases hb with hb | hb
        · have := unhide HLT _ hb
          simp; omega
        · exact hb.2
    clear hV9
    rw [(unhide HBG).1] at v0 v1
    exact bodyPost_ret (v := .tuple #[.agg #[.int .i64 y.1, .int .i64 y.2], .bool true]) (by simp [results, Try.results34, go_sem, v0, v1]) rfl ⟨rfl, unhide HE⟩
end Hp
end Go.Proofs.Ytddfljlecnllaaa
