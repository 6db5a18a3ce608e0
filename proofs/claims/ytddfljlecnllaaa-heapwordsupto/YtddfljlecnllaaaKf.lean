/- Layer 7: the document's Push, Replace, Drain. -/
import Derived.Test.YtddfljlecnllaaaKe
namespace Go.Proofs.Ytddfljlecnllaaa
open Go.RowKit
namespace Hp
theorem RRes.start {F : Nat → Prop} {w : World} {rb : Nat} {I : List It} (h : RAt w rb I F) : RRes F w rb I w :=
  ⟨h.kept (fun _ _ => rfl) (fun _ x => .inl x) (fun b hb => hb.elim (h.lt b) (fun x => x.2)), Chg.refl _ _⟩
theorem RRes.of {F G : Nat → Prop} {w w' : World} {rb : Nat} {I : List It} (h : RAt w' rb I G) (hG : ∀ b, G b → F b ∨ w.heap.size ≤ b) (c : Chg F w w') (hF : ∀ b, F b → b < w.heap.size) : RRes F w rb I w' := by
  refine ⟨h.kept (fun _ _ => rfl) (fun b hb => ?_) (fun b hb => ?_), c⟩
  · rcases hG b hb with x | x
    · exact .inl x
    · exact .inr ⟨x, h.lt b hb⟩
  · rcases hb with x | x
    · exact Nat.lt_of_lt_of_le (hF b x) c.size
    · exact x.2
theorem RRes.more {F : Nat → Prop} {w w1 W w2 : World} {rb : Nat} {I J : List It} (h : RRes F w rb I w1) (hF : ∀ b, F b → b < w.heap.size) (hW : Below w1.heap.size w1 W) (k : RRes (Up F w w1) W rb J w2) : RRes F w rb J w2 := by
  have c1 : Chg F w W := h.2.then (Chg.of_below hW)
  have c2 : Chg F w w2 := c1.trans (k.2.mono fun b hb => hb.imp id fun x => ⟨x.1, Nat.lt_of_lt_of_le x.2 hW.size⟩)
  refine RRes.of k.1 (fun b hb => ?_) c2 hF
  rcases hb with (hb | hb) | hb
  · exact .inl hb
  · exact .inr hb.1
  · exact .inr (Nat.le_trans c1.size hb.1)
theorem RRes.below {F : Nat → Prop} {w w1 w2 : World} {rb : Nat} {I : List It} (h : RRes F w rb I w1) (hF : ∀ b, F b → b < w.heap.size) (k : Below w1.heap.size w1 w2) : RRes F w rb I w2 :=
  RRes.of (h.1.below k) (fun _ hb => hb.imp id fun x => x.1) (h.2.then (Chg.of_below k)) hF
/-- an item was put behind the document's items -/
theorem RIn.pushed {w W5 : World} {rb : Nat} {I : List It} {F : Nat → Prop} {rv v' : Value} {x : It} (h : RIn w rb I F rv) (hown : W5.ownsRow 0 43 2 v' (I ++ [x]).length (rowI (I ++ [x]))) (hg : w.grownBy W5 rv.ownBlock) (hbk : v'.ownBlock = rv.ownBlock ∨ v'.ownBlock = some w.heap.size) :
    W5.cell? ⟨rb, 0, none⟩ = some rv ∧ (∀ k, W5.frozen? ⟨rb, k, none⟩ = false) ∧ RIn (W5.setCell ⟨rb, 0, none⟩ v') rb (I ++ [x]) (Up F w W5) v' ∧ Chg F w (W5.setCell ⟨rb, 0, none⟩ v') ∧ rb < W5.heap.size := by
  have hne : rv.ownBlock ≠ some rb := fun e => by
    obtain ⟨C, fz, hx⟩ := Lib.ownsRow_kind h.row rb e
    rw [h.obj] at hx
    injection hx with hx
    injection hx with _ hx _
    exact absurd hx (by decide)
  have hlt := h.lt _ h.own
  have ho : W5.heap[rb]? = _ := (hg.block rb hlt (fun e => hne e.symm)).trans h.obj
  obtain ⟨c0, cf, hl⟩ := dcell ho
  have hne' : v'.ownBlock ≠ some rb := fun e => by
    rcases hbk with q | q
    · exact hne (q ▸ e)
    · rw [q] at e; injection e with e; omega
  have hsz := hg.size
  refine ⟨c0, cf, ⟨fun b hb => ?_, .inl h.own, by rw [set_heap1 ho]; rfl, own_kept hown fun g hg => Below.heap_setCell _ _ _ _ (fun e => hne' (by rw [hg, e])), fun g hg' => ?_⟩, ((Chg.refl F w).grown hg fun k hk => .inl (h.rowF k hk)).setCell (.inl h.own) _, hl⟩
  · rcases hb with hb | hb
    · have := h.lt b hb; simp; omega
    · simpa using hb.2
  · rcases hbk with q | q
    · exact .inl (h.rowF g (q ▸ hg'))
    · rw [q] at hg'
      injection hg' with hg'
      have := (hown.lt g (by rw [q, hg'])).2
      exact .inr ⟨by omega, this⟩
/-- the run of append of one item made new, to the document's items -/
theorem RIn.push {wr : World} {rb : Nat} {I : List It} {F : Nat → Prop} {rv : Value} (h : RIn wr rb I F rv) (x : It) (hz : I.length ≤ 1099511627776) (ty : TypeId) :
    ∃ a c W5, (Builtin.append_ #[28, 28] ty #[rv, .slice (some ⟨wr.heap.size, 0, none⟩) 1 1]).run Try.prog (wr.alloc (.cells #[.int .i64 x.1, .int .i64 x.2] 43)).drew = .ok (.slice a (I.length + 1) c) W5 ∧ W5.cell? ⟨rb, 0, none⟩ = some rv ∧ (∀ k, W5.frozen? ⟨rb, k, none⟩ = false) ∧ rb < W5.heap.size ∧ RRes F wr rb (I ++ [x]) (W5.setCell ⟨rb, 0, none⟩ (.slice a (I.length + 1) c)) := by
  have hb : Below wr.heap.size wr (wr.alloc (.cells #[.int .i64 x.1, .int .i64 x.2] 43)).drew := ((Below.refl _ _).alloc (Nat.le_refl _) _).drew
  have h' := h.below hb
  obtain ⟨v', W5, hrun, hown, hg, hbk⟩ := push_ref h'.row wr.heap.size x (show (wr.alloc (.cells #[.int .i64 x.1, .int .i64 x.2] 43)).cell? _ = _ from World.cell?_alloc_at _ _ _ _ rfl) (show (wr.alloc (.cells #[.int .i64 x.1, .int .i64 x.2] 43)).cell? _ = _ from World.cell?_alloc_at _ _ _ _ rfl) hz ty 1
  obtain ⟨a, c, rfl⟩ := own_slice hown
  obtain ⟨z1, z2, z3, z4, z5⟩ := h'.pushed hown hg hbk
  rw [List.length_append, List.length_singleton] at hrun z3 z4
  refine ⟨a, c, W5, hrun, z1, z2, z5, RRes.of ⟨_, z3⟩ (fun b hb' => hb'.imp id fun y => Nat.le_trans hb.size y.1) ((Chg.of_below hb).then z4) h.lt⟩
set_option maxRecDepth 100000 in
set_option maxHeartbeats 2000000 in
theorem rpush_any {w : World} {rb : Nat} {I X : List It} {F : Nat → Prop} {v : Value} (h : RAt w rb I F) (hx : Its w v X F) (hz : I.length + X.length ≤ 1099511627776) :
    Calls Try.prog 29 #[.pointer (some ⟨rb, 0, none⟩), v] w fun e w' => e = .returned (.tuple #[]) ∧ RRes F w rb (I ++ X) w' := by
  have HX := hide hx
  obtain ⟨ao, cap, rfl, -⟩ := hx
  obtain ⟨n, hn⟩ : ∃ n, X.length = n := ⟨_, rfl⟩
  have HN := hide hn
  rw [hn] at hz HX ⊢
  have HLT := hide h.lt
  have HR0 : Hid (RRes F w rb (I ++ X.take 0) w) := by simpa [Hid] using RRes.start h
  clear hn h
  go_enter Try.func29, Try.ntmps29
  go_wp2
  go_loopw [4] (fun s4 wr => ∃ (k : Nat), s4 = .int .i64 k ∧ k ≤ n ∧ Hid (RRes F w rb (I ++ X.take k) wr)) (fun s4 _ => n - (intOf s4).toNat)
  case atStart => exact ⟨0, rfl, Nat.zero_le _, HR0⟩
  case round =>
    obtain ⟨k, rfl, hk, HR⟩ := hrel
    by_cases hlt : k < n
    · have hltz : (k : Int) < (n : Int) := by omega
      have hk0 : 0 ≤ (k : Int) := by omega
      obtain ⟨x, hx⟩ : ∃ x, X[k]? = some x := ⟨_, List.getElem?_eq_getElem (by rw [unhide HN]; exact hlt)⟩
      obtain ⟨a', c', e1, hat⟩ := (unhide HX).chg (unhide HR).2
      have e3 : ao = a' := by injection e1
      clear e1
      subst e3
      obtain ⟨g, off, rfl, hg, -, hc⟩ := hat (by rw [unhide HN]; omega)
      obtain ⟨x0, x1⟩ := hc k x hx
      have HT : Hid (I ++ X.take (k + 1) = (I ++ X.take k) ++ [x]) := by rw [Hid, List.take_succ_eq_append_getElem (by rw [unhide HN]; exact hlt), (List.getElem?_eq_some_iff.1 hx).2, List.append_assoc]
      obtain ⟨rv, hin⟩ := (unhide HR).1
      obtain ⟨c0, cf, hl⟩ := dcell hin.obj
      obtain ⟨a5, c5, W5, hap, z1, z2, z3, z4⟩ := hin.push x (by simp; omega) 28
      have HF2 : Hid (RRes F w rb (I ++ X.take (k + 1)) (W5.setCell ⟨rb, 0, none⟩ (.slice a5 ((I ++ X.take k).length + 1) c5))) := by
        rw [unhide HT]
        exact (unhide HR).more (unhide HLT) (Below.refl _ _) z4
      obtain ⟨ar, cr, rfl⟩ := own_slice hin.row
      generalize (I ++ X.take k).length = M at *
      have HAP := hide hap
      have z2' := z2 0
      clear hat hc hx hap z2 z4 hin
      go_wp2
      go_region_law (first | (refine step_app (by rfl) _ _ _ (by rfl) _ _ _ _ (by rfl) (by rfl) (by exact unhide HAP) ?_))
      all_goals
        go_wp2
        exact ⟨⟨k + 1, by go_num, by omega, HF2⟩, by simp [intOf]; omega⟩
    · obtain rfl : k = n := by omega
      have hltz : ¬ (k : Int) < (k : Int) := by omega
      have HE : Hid (X.take k = X) := by rw [Hid, ← unhide HN, List.take_length]
      rw [unhide HE] at HR
      clear HE
      go_wp2
      go_end0
      exact ⟨rfl, unhide HR⟩
end Hp
end Go.Proofs.Ytddfljlecnllaaa
