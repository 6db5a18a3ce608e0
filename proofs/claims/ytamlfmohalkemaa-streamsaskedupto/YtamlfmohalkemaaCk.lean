/- Layer 8, a heap of cursors: Replace. -/
import Derived.Test.YtamlfmohalkemaaCj
namespace Go.Proofs.Ytamlfmohalkemaa
open Go.RowKit
namespace Hpc
open Hp
variable {C : Cx}
theorem shape_over {lt : It → It → Bool} {A : List Nd} (z : Nd) (h : Shape lt (gd A) A.length) : Sinking lt (gd (A.set 0 z)) (A.set 0 z).length 0 := by
  have e : ∀ i, 0 < i → gd (A.set 0 z) i = gd A i := fun i h0 => by
    unfold gd
    simp only [List.getD_eq_getElem?_getD]
    rw [List.getElem?_set_ne (by omega)]
  rw [List.length_set]
  refine ⟨fun i h0 hi hp => ?_, fun h0 => by omega⟩
  rw [e i h0, e (par i) (by omega)]
  exact h i h0 hi
set_option maxRecDepth 100000 in
set_option maxHeartbeats 4000000 in
theorem replace_some {fv : Value} {lt : It → It → Bool} (L : LessV C fv lt) {w : World} {hb : Nat} {I J : List It} {y : It} {p : Nat} {F : Nat → Prop} (h : HAt C w hb fv lt I p F) (hz : I.length ≤ 1099511627776) (hp : p ≤ 4611686018427387904) (hpop : pop lt I = some (y, J)) (x : It) (zx : C.Z x) :
    Calls Try.prog 45 #[.pointer (some ⟨hb, 0, none⟩), .slice x.ao x.n x.c] w fun e w' => e = .returned (.tuple #[.slice y.ao y.n y.c, .bool true]) ∧ Res C F w hb fv lt (J ++ [x]) (p + 1) w' := by
  obtain ⟨A, nv, hin, hbag, hsh⟩ := h
  have hAl := hbag.len
  obtain ⟨ao, cap, rfl⟩ := own_slice hin.row
  have hA0 : 0 < A.length := by
    rw [hAl]
    cases I with
    | nil => simp [pop] at hpop
    | cons y t => simp
  obtain ⟨g, rfl⟩ : ∃ g, ao = some ⟨g, 0, none⟩ := by
    rcases hin.row.2 with ⟨e1, e2⟩ | ⟨g, c, cur, e1, _⟩
    · omega
    · injection e1 with e1 _ _; exact ⟨g, e1⟩
  have HPK := hide (peek_some hin hA0)
  obtain ⟨q, hq⟩ : ∃ q, q = p + 1 := ⟨_, rfl⟩
  have HNX : Hid (∀ W, Below w.heap.size w W → Calls Try.prog 60 #[.pointer (some ⟨hb, 0, none⟩), .slice x.ao x.n x.c] W fun e w' => e = .returned (.agg #[.slice x.ao x.n x.c, .int .i64 (q : Int)]) ∧ HIn C w' hb fv A q F (.slice (some ⟨g, 0, none⟩) A.length cap) ∧ Chg F W w') := fun W hW => by
    rw [hq]
    exact next_any (hin.below hW) hp x
  have HL := hide L
  have HIN := hide hin
  have HZX := hide zx
  have hSZ := hin.sz
  have HSHC := hide (shape_over (x, q) hsh)
  have HBG : Hid (gd A 0 = (y, (gd A 0).2) ∧ Bag (A.set 0 (x, q)) (J ++ [x]) q) := by
    obtain ⟨a, T, rfl⟩ : ∃ a T, A = a :: T := by cases A with | nil => simp at hA0 | cons a T => exact ⟨a, T, rfl⟩
    obtain ⟨J', e1, e2⟩ := hbag.pop L.ord (fun y hy => by
      obtain ⟨i, hi⟩ := List.mem_iff_getElem?.1 hy
      have := hsh.root L.ord i (List.getElem?_eq_some_iff.1 hi).1
      rw [gd_some hi] at this
      exact this)
    rw [hpop] at e1
    injection e1 with e1
    injection e1 with e1 e3
    subst e3
    refine ⟨by rw [e1]; rfl, ?_⟩
    rw [hq]
    exact (e2.push x).perm (List.perm_append_singleton _ _).symm
  have hgF : F g := hin.rowF g rfl
  have hgw : g < w.heap.size := hin.lt g hgF
  have hgb : hb ≠ g := hne hin
  obtain ⟨c0, c1, c2, cf, hl⟩ := hcells hin.obj
  obtain ⟨n, hn⟩ : ∃ n, A.length = n + 1 := ⟨A.length - 1, by omega⟩
  have HN := hide hn
  have hnz : n + 1 ≤ 1099511627776 := by omega
  rw [← hq]
  rw [hn] at c1 HNX HIN
  have HQ := hide hq
  clear hbag hsh hin c0 c2 L hn hq hAl hA0 zx
  go_enter Try.func45, Try.ntmps45
  go_wp2_with (go_at_call 44; refine (unhide HPK).mono ?_; rintro e w1 ⟨rfl, hw1⟩; have hw2 := hw1.symm; subst hw2; clear hw1)
  clear HPK
  go_region_law
    (first
      | (refine step_call2 (by rfl) 60 _ _ _ (by rfl) (.pointer (some ⟨hb, 0, none⟩)) (.slice x.ao x.n x.c) (by rfl) (by rfl) (fun W => ent_next _ _ W) ((unhide HNX _ ((Below.refl _ _).drew)).mono ?_)
         rintro e w3 ⟨rfl, h3, h4⟩
         refine ⟨_, rfl, ?_⟩
         have k3 : w3.cell? ⟨hb, 1, none⟩ = some (.slice (some ⟨g, 0, none⟩) (n + 1) cap) := (hcells h3.obj).2.1
         obtain ⟨d0, d1, df⟩ := ncells (c := cap) (by rw [unhide HN]; exact h3) rfl
         have z0 : w3.cell? ⟨g, 0, none⟩ = some (.slice (gd A 0).1.ao (gd A 0).1.n (gd A 0).1.c) := by simpa using d0 0 (by rw [unhide HN]; omega)
         have z1 : w3.cell? ⟨g, 1, none⟩ = some (.int .i64 (gd A 0).2) := by simpa using d1 0 (by rw [unhide HN]; omega)
         have H3 := hide h3
         have H4 := hide h4
         clear h3 h4 d0 d1))
  all_goals
    refine gen_then ?_
    intro W hW
    have e : W = put3 w3 g 0 (x, q) := by rw [hW]; rfl
    have HWI : Hid (HIn C W hb fv (A.set 0 (x, q)) q F (.slice (some ⟨g, 0, none⟩) (n + 1) cap) ∧ Chg F w W) := by
      obtain ⟨e1, e2⟩ := HIn.put (unhide H3) (unhide HN).symm 0 (x, q) (unhide HZX)
      have cV : Chg F w w3 := (Chg.refl F w).drew.then (unhide H4)
      rw [e]
      exact ⟨e1, cV.then e2⟩
    have HSK := hide (sink_any (unhide HL) (unhide HWI).1 (by simp [unhide HN]; omega) (unhide HSHC))
    clear hW e H3 H4 k3 z0 z1 df c1
    go_wp2_with (go_at_call 62; refine (unhide HSK).mono ?_; rintro e w7 ⟨rfl, B, y1, y2, y3, y4⟩; have H7 := hide (And.intro y1 (And.intro y2 (And.intro y3 y4))); clear y1 y2 y3 y4)
    obtain ⟨y1, y2, y3, y4⟩ := unhide H7
    have c7 : Chg F w w7 := (unhide HWI).2.then y4
    have ex : (gd A 0).1 = y := by rw [(unhide HBG).1]
    rw [ex]
    exact bodyPost_ret (v := .tuple #[.slice y.ao y.n y.c, .bool true]) (by simp [results, Try.results45, go_sem]) rfl ⟨rfl, ⟨B, _, y1.kept (fun _ _ => rfl) (fun b hb => .inl hb) (fun b hb => hb.elim (fun h => y1.lt b h) (fun h => h.2)) y1.kw (fun b hb => hb.elim (y1.fn b) (fun x => C.new b (Nat.le_trans hSZ x.1))) (Nat.le_refl _), (unhide HBG).2.perm y2, y3⟩, c7⟩
end Hpc
end Go.Proofs.Ytamlfmohalkemaa
