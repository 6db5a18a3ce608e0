/- Layer 7: the document's Drain; the laws' like, alike. -/
import Derived.Test.YtddfljlecnllaaaKg
namespace Go.Proofs.Ytddfljlecnllaaa
open Go.RowKit
namespace Hp
/-- how far the document's Drain has come -/
def RD (F : Nat → Prop) (w : World) (rb : Nat) (I : List It) (v : Value) (d r : List It) (wr : World) : Prop :=
  ∃ G, RAt wr rb r G ∧ (∀ b, G b → Up F w wr b) ∧ wr.ownsRow 0 43 2 v d.length (rowI d) ∧ (∀ g, v.ownBlock = some g → w.heap.size ≤ g ∧ ¬ G g) ∧ drain rise_ I = d ++ drain rise_ r ∧ Chg F w wr ∧ d.length + r.length = I.length
/-- behind the document's Drain -/
def RDRes (F : Nat → Prop) (w : World) (rb : Nat) (v : Value) (S : List It) (w' : World) : Prop := ∃ G, RAt w' rb [] G ∧ (∀ b, G b → Up F w w' b) ∧ RRow w' v S (fun b => G b ∨ b < w.heap.size) ∧ Chg F w w'
theorem RD.next {F : Nat → Prop} {w wr w' : World} {rb : Nat} {I d r J : List It} {x : It} {v : Value} {G : Nat → Prop} (hG : ∀ b, G b → Up F w wr b) (ho : wr.ownsRow 0 43 2 v d.length (rowI d)) (hv : ∀ g, v.ownBlock = some g → w.heap.size ≤ g ∧ ¬ G g) (hd : drain rise_ I = d ++ drain rise_ r) (c : Chg F w wr) (hl : d.length + r.length = I.length) (hp : pop rise_ r = some (x, J)) (hR : RRes G wr rb J w') (hz : I.length ≤ 1099511627776) (o : Obj) (ty : TypeId) :
    ∃ a cp W5, (Builtin.append_ #[28, 28] ty #[v, .slice (some ⟨w'.heap.size + 1, 0, none⟩) 1 1]).run Try.prog ((w'.alloc o).alloc (.cells #[.int .i64 x.1, .int .i64 x.2] 43)) = .ok (.slice a (d.length + 1) cp) W5 ∧ RD F w rb I (.slice a (d.length + 1) cp) (d ++ [x]) J W5 := by
  have hbl : ∀ g, v.ownBlock = some g → g < wr.heap.size := fun g hg => (ho.lt g hg).2
  have ho' : w'.ownsRow 0 43 2 v d.length (rowI d) := own_kept ho fun g hg => hR.2.block g (hbl g hg) (hv g hg).2
  have hB : Below w'.heap.size w' ((w'.alloc o).alloc (.cells #[.int .i64 x.1, .int .i64 x.2] 43)) := ((Below.refl _ _).alloc (Nat.le_refl _) _).alloc (by simp) _
  have ho2 : ((w'.alloc o).alloc (.cells #[.int .i64 x.1, .int .i64 x.2] 43)).ownsRow 0 43 2 v d.length (rowI d) := own_kept ho' fun g hg => hB.block g (ho'.lt g hg).2
  have hpl := pop_len hp
  obtain ⟨v', W5, hrun, hown, hg, hbk⟩ := push_ref ho2 (w'.heap.size + 1) x (World.cell?_alloc_at _ _ _ _ (by simp)) (World.cell?_alloc_at _ _ _ _ (by simp)) (by omega) ty 1
  obtain ⟨a, cp, rfl⟩ := own_slice hown
  have es : ((w'.alloc o).alloc (.cells #[.int .i64 x.1, .int .i64 x.2] 43)).heap.size = w'.heap.size + 2 := by simp
  have hs5 := hg.size
  rw [es] at hs5 hbk
  have s1 := c.size
  have s2 := hR.2.size
  have c' : Chg F w w' := c.trans (hR.2.mono hG)
  have hlt := hR.1.lt
  have hvU : ∀ g, v.ownBlock = some g → ¬ Up G wr w' g := fun g hg e => e.elim (hv g hg).2 (fun e => by have := hbl g hg; omega)
  rw [List.length_append, List.length_singleton] at hrun hbk
  refine ⟨a, cp, W5, hrun, Up G wr w', hR.1.kept (fun b hb => ?_) (fun _ y => y) (fun b hb => by have := hlt b hb; omega), fun b hb => ?_, by rw [List.length_append, List.length_singleton] at hown ⊢; exact hown, fun g hg' => ?_, by rw [hd, drain_step hp]; simp, ?_, by simp; omega⟩
  · have hb' := hlt b hb
    rw [hg.block b (by omega) (fun e => hvU b e.symm hb), hB.block b hb']
  · rcases hb with hb | hb
    · rcases hG b hb with y | y
      · exact .inl y
      · exact .inr ⟨y.1, by omega⟩
    · exact .inr ⟨by omega, by omega⟩
  · rcases hbk with q | q
    · have hq := q.symm.trans hg'
      exact ⟨(hv g hq).1, hvU g hq⟩
    · rw [q] at hg'; injection hg' with hg'
      exact ⟨by omega, fun e => by have := hlt g e; omega⟩
  · exact (c'.then (Chg.of_below hB)).grown hg fun k hk => .inr (hv k hk).1
set_option maxRecDepth 100000 in
set_option maxHeartbeats 2000000 in
theorem rdrain_any {w : World} {rb : Nat} {I : List It} {F : Nat → Prop} (h : RAt w rb I F) (hz : I.length ≤ 1099511627776) :
    Calls Try.prog 16 #[.pointer (some ⟨rb, 0, none⟩)] w fun e w' => ∃ v, e = .returned v ∧ RDRes F w rb v (drain rise_ I) w' := by
  have HD0 : Hid (RD F w rb I (.slice none 0 0) [] I w) := ⟨F, h, fun _ hb => .inl hb, World.ownsRow_nil _ _ _ _, fun g hg => (by cases hg), rfl, Chg.refl _ _, by simp⟩
  clear h
  go_enter Try.func16, Try.ntmps16
  go_wp2
  go_loopw [3] (fun s3 wr => ∃ d r, Hid (RD F w rb I s3 d r wr)) (fun s3 _ => I.length - (match s3 with | .slice _ n _ => n | _ => 0))
  case atStart => exact ⟨[], I, HD0⟩
  case round =>
    obtain ⟨d, r, HD⟩ := hrel
    obtain ⟨G, e1, e2, e3, e4, e5, e6, e7⟩ := unhide HD
    obtain ⟨av, cv, rfl⟩ := own_slice e3
    obtain ⟨rv, hin⟩ := e1
    obtain ⟨c0, cf, hl⟩ := dcell hin.obj
    obtain ⟨ar, cr, rfl⟩ := own_slice hin.row
    rcases hr : r with _ | ⟨y, t⟩
    · subst hr
      have HE : Hid (RDRes F w rb (.slice av d.length cv) (drain rise_ I) wr) := by
        rw [drain_nil, List.append_nil] at e5
        rw [e5]
        exact ⟨G, ⟨_, hin⟩, e2, ⟨e3, fun g hg e => e.elim (e4 g hg).2 (fun e => by have := (e4 g hg).1; omega)⟩, e6⟩
      simp only [List.length_nil] at c0
      clear e2 e3 e4 e5 e6 e7 hin HD
      go_wp2
      go_ret
      exact ⟨_, rfl, unhide HE⟩
    · have hr0 : 0 < r.length := by rw [hr]; simp
      clear hr
      obtain ⟨x, J, hpop⟩ := pop_ex (lt := rise_) hr0
      have HPO := hide (rpop_go ⟨_, hin⟩ (by omega) hpop)
      have HNX : Hid (∀ w', RRes G wr rb J w' → ∀ o : Obj, ∃ a cp W5, (Builtin.append_ #[28, 28] 28 #[.slice av d.length cv, .slice (some ⟨w'.heap.size + 1, 0, none⟩) 1 1]).run Try.prog ((w'.alloc o).alloc (.cells #[.int .i64 x.1, .int .i64 x.2] 43)) = .ok (.slice a (d.length + 1) cp) W5 ∧ RD F w rb I (.slice a (d.length + 1) cp) (d ++ [x]) J W5) := fun w' hR o => RD.next e2 e3 e4 e5 e6 e7 hpop hR hz o _
      have hdl : d.length < I.length := by omega
      have hrz : (r.length : Int) > 0 := by omega
      clear e2 e3 e4 e5 e6 e7 hin HD hpop
      generalize r.length = R at *
      generalize d.length = D at *
      go_wp2_with (first
        | (go_at_call 30; refine (unhide HPO).mono ?_; rintro e w5 ⟨rfl, hR⟩; obtain ⟨a5, c5, W5, hap, hrd⟩ := unhide HNX w5 hR (.cells #[.int .i64 x.1, .int .i64 x.2] 43); have HAP := hide hap; have HRD := hide hrd; clear hR hap hrd)
        | (at_builtin; refine wpList_append_run rfl _ _ 28 28 rfl _ _ rfl rfl (.slice a5 (D + 1) c5) W5 (unhide HAP) ?_))
      go_roundw
      case rel => exact ⟨_, _, HRD⟩
      case measure => simp; omega
theorem like_any (x y : It) (w : World) : Calls Try.prog 31 #[.agg #[.int .i64 x.1, .int .i64 x.2], .agg #[.int .i64 y.1, .int .i64 y.2]] w fun e w' => e = .returned (.bool (decide (x = y))) ∧ Below w.heap.size w w' := by
  by_cases h1 : x.1 = y.1
  · by_cases h2 : x.2 = y.2
    · have e : x = y := Prod.ext h1 h2
      subst e
      clear h1 h2
      have er : decide (x = x) = true := by simp
      rw [er]
      go_enter Try.func31, Try.ntmps31
      go_wp2
      go_ret
      exact ⟨rfl, by (repeat (first | exact Below.refl _ _ | refine Below.drew ?_ | refine Below.alloc ?_ (by first | (simp; done) | (simp; omega)) _ | refine Below.setCell ?_ (by first | (simp; done) | (simp; omega)) _))⟩
    · have er : decide (x = y) = false := by simp; intro e; exact h2 (by rw [e])
      have hb2 : (x.2 == y.2) = false := by simp [h2]
      rw [er]
      go_enter Try.func31, Try.ntmps31
      go_wp2
      go_ret
      exact ⟨rfl, by (repeat (first | exact Below.refl _ _ | refine Below.drew ?_ | refine Below.alloc ?_ (by first | (simp; done) | (simp; omega)) _ | refine Below.setCell ?_ (by first | (simp; done) | (simp; omega)) _))⟩
  · have er : decide (x = y) = false := by simp; intro e; exact h1 (by rw [e])
    have hb1 : (x.1 == y.1) = false := by simp [h1]
    rw [er]
    go_enter Try.func31, Try.ntmps31
    go_wp2
    go_ret
    exact ⟨rfl, by (repeat (first | exact Below.refl _ _ | refine Below.drew ?_ | refine Below.alloc ?_ (by first | (simp; done) | (simp; omega)) _ | refine Below.setCell ?_ (by first | (simp; done) | (simp; omega)) _))⟩
end Hp
end Go.Proofs.Ytddfljlecnllaaa
