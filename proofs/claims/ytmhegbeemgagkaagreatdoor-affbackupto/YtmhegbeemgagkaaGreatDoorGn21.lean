import Derived.Test.YtmhegbeemgagkaaGreatDoorGn20
set_option maxHeartbeats 8000000
set_option maxRecDepth 100000
namespace Go.Proofs.YtmhegbeemgagkaaGreatDoor
namespace Lst
def QL (P : Program) (o : Oper) (Q : Exit → Act → World → Prop) : Exit → Act → World → Prop
 | .normal, a, w => o.wp P a w (Q .normal) Q
 | e, a, w => Q e a w
theorem lets_QL {P : Program} {o : Oper} {Q : Exit → Act → World → Prop} (h : LetsOut (QL P o Q)) : LetsOut Q := by
 obtain ⟨a, w, q⟩ := h
 exact ⟨a, w, q⟩
theorem wp_QL {P : Program} {o p : Oper} {a : Act} {w : World} {K K' : Act → World → Prop} {Q : Exit → Act → World → Prop} (h : ∀ a w, K a w → K' a w) (hh : p.wp P a w K (QL P o Q)) : p.wp P a w K' Q := by
 unfold Oper.wp at *
 generalize (execOp a.eval p).run P w = r at *
 cases r with
 | ok n w' =>
  cases n <;> simp only [Oper.upon] at hh ⊢
  case value => exact h _ _ hh
  case skip => exact h _ _ hh
  case defer => exact h _ _ hh
  case enter =>
   refine Calls.mono hh fun e w'' he => ?_
   cases e with
   | returned v => exact h _ _ he
   | panicked c => exact he
   | outgrown => exact lets_QL he
  case row => exact Rows.mono hh fun v w'' he => h _ _ he
 | halt x w' =>
  cases x <;> simp only [Oper.upon] at hh ⊢
  case panic => exact hh
def isAfter (o : Oper) (j : Nat) : Bool := o.after.any fun e => Region.binds .any e && e.on == j
def lastOk (ops : Array Oper) (o : Oper) : Bool :=
 ((List.range ops.size).all fun i => match ops[i]? with
  | none => true
  | some p => p.guard.isNone && p.after.all fun e => !Region.binds .any e || decide (e.on < i)) &&
 (o.guard.isNone && (o.after.all fun e => !Region.binds .any e || decide (e.on < ops.size))) &&
 ((List.range ops.size).all fun j => isAfter o j || (List.range ops.size).any fun k => decide (j < k) && match ops[k]? with
  | none => false
  | some p => isAfter p j)
structure LOk (ops : Array Oper) (o : Oper) : Prop where
 g : ∀ (i : Nat) (p : Oper), ops[i]? = some p → p.guard = none
 lt : ∀ (i : Nat) (p : Oper), ops[i]? = some p → ∀ e ∈ p.after, Region.binds .any e = true → e.on < i
 g0 : o.guard = none
 lt0 : ∀ e ∈ o.after, Region.binds .any e = true → e.on < ops.size
 all : ∀ j, j < ops.size → (∃ e ∈ o.after, Region.binds .any e = true ∧ e.on = j) ∨ ∃ (k : Nat) (p : Oper), j < k ∧ k < ops.size ∧ ops[k]? = some p ∧ ∃ e ∈ p.after, Region.binds .any e = true ∧ e.on = j
theorem isAfter_spec {o : Oper} {j : Nat} (h : isAfter o j = true) : ∃ e ∈ o.after, Region.binds .any e = true ∧ e.on = j := by
 unfold isAfter at h
 rw [Array.any_eq_true'] at h
 obtain ⟨e, he, h⟩ := h
 simp only [Bool.and_eq_true, beq_iff_eq] at h
 exact ⟨e, he, h.1, h.2⟩
theorem after_spec {o : Oper} {n : Nat} (h : (o.after.all fun e => !Region.binds .any e || decide (e.on < n)) = true) : ∀ e ∈ o.after, Region.binds .any e = true → e.on < n := by
 rw [Array.all_eq_true_iff_forall_mem] at h
 intro e he hb
 have := h e he
 simpa [hb] using this
theorem LOk.of {ops : Array Oper} {o : Oper} (h : lastOk ops o = true) : LOk ops o := by
 unfold lastOk at h
 simp only [Bool.and_eq_true, List.all_eq_true, List.mem_range, Option.isNone_iff_eq_none] at h
 obtain ⟨⟨h1, h2, h3⟩, h4⟩ := h
 have hlt : ∀ (i : Nat) (p : Oper), ops[i]? = some p → i < ops.size := fun i p hp => (Array.getElem?_eq_some_iff.1 hp).1
 refine ⟨fun i p hp => ?_, fun i p hp => ?_, h2, after_spec h3, fun j hj => ?_⟩
 ·have := h1 i (hlt i p hp)
  rw [hp] at this
  simp only [Bool.and_eq_true, Option.isNone_iff_eq_none] at this
  exact this.1
 ·have := h1 i (hlt i p hp)
  rw [hp] at this
  simp only [Bool.and_eq_true] at this
  exact after_spec this.2
 ·have := h4 j hj
  simp only [Bool.or_eq_true, List.any_eq_true, List.mem_range, Bool.and_eq_true, decide_eq_true_eq] at this
  rcases this with q | ⟨k, hk, hjk, q⟩
  ·exact .inl (isAfter_spec q)
  ·cases hp : ops[k]? with
   | none => rw [hp] at q; cases q
   | some p => rw [hp] at q; exact .inr ⟨k, p, hjk, hk, hp, isAfter_spec q⟩
def Closed (ops : Array Oper) (L : Array Bool) : Prop := ∀ (i : Nat) (p : Oper), ops[i]? = some p → L.getD i false = true → ∀ e ∈ p.after, Region.binds .any e = true → L.getD e.on false = true
theorem all_last {ops : Array Oper} {o : Oper} {L : Array Bool} (h : LOk ops o) (c : Closed ops L) (ho : ∀ e ∈ o.after, Region.binds .any e = true → L.getD e.on false = true) : ∀ m j, j < ops.size → ops.size - j ≤ m → L.getD j false = true := by
 intro m
 induction m with
 | zero => intro j h1 h2; omega
 | succ m ih =>
  intro j h1 h2
  rcases h.all j h1 with ⟨e, he, hb, rfl⟩ | ⟨k, p, hjk, hk, hp, e, he, hb, rfl⟩
  ·exact ho e he hb
  ·exact c k p hp (ih k hk (by omega)) e he hb
theorem getD_ft {L : Array Bool} {j : Nat} (h : j < L.size) : L.getD j false = L.getD j true := by
 simp [Array.getD, h]
theorem all_nil {ops : Array Oper} {o : Oper} {L : Array Bool} (h : LOk ops o) (hs : L.size = ops.size) (hr : Region.ready .any ops L = []) : ∀ m j, j < m → j < ops.size → L.getD j false = true := by
 intro m
 induction m with
 | zero => intro j h1; omega
 | succ m ih =>
  intro j h1 h2
  cases hq : L.getD j false with
  | true => rfl
  | false =>
   exfalso
   have : j ∈ Region.ready .any ops L := by
    rw [mem_ready]
    obtain ⟨p, hp⟩ : ∃ p, ops[j]? = some p := ⟨_, Array.getElem?_eq_getElem h2⟩
    refine ⟨by rw [← getD_ft (by omega)]; exact hq, p, hp, fun e he hb => ?_⟩
    have := h.lt j p hp e he hb
    exact ih e.on (by omega) (by omega)
   rw [hr] at this
   cases this
theorem push_lt {α : Type} {A : Array α} {x : α} {i : Nat} (h : i < A.size) : (A.push x)[i]? = A[i]? := by
 rw [Array.getElem?_push]
 simp [Nat.ne_of_lt h]
theorem push_eq {α : Type} {A : Array α} {x : α} : (A.push x)[A.size]? = some x := by simp
theorem getD_push {L : Array Bool} {b d : Bool} {i : Nat} (h : i < L.size) : (L.push b).getD i d = L.getD i d := by
 have h2 : i < (L.push b).size := by simp; omega
 simp [Array.getD, h, Nat.lt_succ_of_lt h, Array.getElem_push]
theorem getD_pushn {L : Array Bool} {b d : Bool} : (L.push b).getD L.size d = b := by
 simp [Array.getD]
section
variable {P : Program} {ops : Array Oper} {o : Oper} {Q : Exit → Act → World → Prop}
theorem ready_all {L : Array Bool} (h : LOk ops o) (hs : L.size = ops.size) (ha : ∀ j, j < ops.size → L.getD j false = true) : ops.size ∈ Region.ready .any (ops.push o) (L.push false) := by
 rw [mem_ready]
 refine ⟨by rw [← hs]; exact getD_pushn, o, push_eq, fun e he hb => ?_⟩
 have := h.lt0 e he hb
 rw [getD_push (by omega)]
 exact ha _ this
theorem ready_end {L : Array Bool} (hs : L.size = ops.size) (ha : ∀ j, j < ops.size → L.getD j false = true) : Region.ready .any (ops.push o) ((L.push false).setIfInBounds ops.size true) = [] := by
 rw [List.eq_nil_iff_forall_not_mem]
 intro j hj
 rw [mem_ready] at hj
 obtain ⟨h0, p, hp, -⟩ := hj
 have hlt := (Array.getElem?_eq_some_iff.1 hp).1
 simp only [Array.size_push] at hlt
 have e1 : (L.push false).setIfInBounds ops.size true = L.push true := by
  rw [← hs]
  apply Array.ext_getElem?
  intro k
  simp only [Array.getElem?_setIfInBounds, Array.getElem?_push, Array.size_push]
  by_cases q : L.size = k
  ·subst q; simp
  ·simp [q, Ne.symm q]
 rw [e1] at h0
 by_cases q : j = L.size
 ·subst q; rw [getD_pushn] at h0; cases h0
 ·have hj : j < L.size := by omega
  rw [getD_push hj, ← getD_ft hj, ha j (by omega)] at h0
  cases h0
theorem any_end {L : Array Bool} (h : LOk ops o) (hs : L.size = ops.size) (ha : ∀ j, j < ops.size → L.getD j false = true) {a : Act} {w : World} (hq : QL P o Q .normal a w) (f : Nat) : wpAny P .any (ops.push o) Q (f + 1) (L.push false) a w := by
 refine ⟨fun hn => ?_, fun i hi => ?_⟩
 ·have := ready_all h hs ha
  rw [hn] at this
  cases this
 ·have hi' := hi
  rw [mem_ready] at hi
  obtain ⟨h0, p, hp, -⟩ := hi
  have hlt := (Array.getElem?_eq_some_iff.1 hp).1
  simp only [Array.size_push] at hlt
  have : i = ops.size := by
   by_cases q : i < L.size
   ·rw [getD_push q, ← getD_ft q, ha i (by omega)] at h0
    cases h0
   ·omega
  subst this
  unfold wpOp
  rw [push_eq]
  have hw : Region.wanted o (yielded (ops.push o) a.tmps) = true := by simp [Region.wanted, h.g0]
  simp only [hw, if_true]
  refine .inl (Oper.wp_mono (fun a' w' q => ?_) hq)
  have he := ready_end (o := o) hs ha
  cases f with
  | zero => exact ⟨he, q⟩
  | succ f => exact ⟨fun _ => q, by rw [he]; simp⟩
theorem any_last (h : LOk ops o) : ∀ (fuel : Nat) (L : Array Bool) (a : Act) (w : World), L.size = ops.size → Closed ops L → wpAny P .any ops (QL P o Q) fuel L a w → wpAny P .any (ops.push o) Q (fuel + 1) (L.push false) a w := by
 intro fuel
 induction fuel with
 | zero =>
  intro L a w hs hc hh
  exact any_end h hs (fun j hj => all_nil h hs hh.1 (j + 1) j (by omega) hj) hh.2 0
 | succ fuel ih =>
  intro L a w hs hc hh
  by_cases hr : Region.ready .any ops L = []
  ·exact any_end h hs (fun j hj => all_nil h hs hr (j + 1) j (by omega) hj) (hh.1 hr) (fuel + 1)
  ·have back : ∀ i, i ∈ Region.ready .any (ops.push o) (L.push false) → i ∈ Region.ready .any ops L := by
    intro i hi
    rw [mem_ready] at hi
    obtain ⟨h0, p, hp, hall⟩ := hi
    have hlt := (Array.getElem?_eq_some_iff.1 hp).1
    simp only [Array.size_push] at hlt
    by_cases q : i = ops.size
    ·exfalso
     subst q
     rw [push_eq] at hp
     injection hp with hp
     subst hp
     have ha : ∀ j, j < ops.size → L.getD j false = true := fun j hj => all_last h hc (fun e he hb => by
      have q1 := hall e he hb
      have q2 := h.lt0 e he hb
      rw [getD_push (by omega)] at q1
      exact q1) ops.size j hj (by omega)
     apply hr
     rw [List.eq_nil_iff_forall_not_mem]
     intro j hj
     rw [mem_ready] at hj
     obtain ⟨h0, p, hp, -⟩ := hj
     have hjl := (Array.getElem?_eq_some_iff.1 hp).1
     rw [← getD_ft (by omega), ha j hjl] at h0
     cases h0
    ·have hi : i < ops.size := by omega
     rw [push_lt hi] at hp
     rw [mem_ready]
     refine ⟨by rw [getD_push (by omega)] at h0; exact h0, p, hp, fun e he hb => ?_⟩
     have q1 := hall e he hb
     have q2 := h.lt i p hp e he hb
     rw [getD_push (by omega)] at q1
     exact q1
   have forth : ∀ i, i ∈ Region.ready .any ops L → i ∈ Region.ready .any (ops.push o) (L.push false) := by
    intro i hi
    rw [mem_ready] at hi
    obtain ⟨h0, p, hp, hall⟩ := hi
    have hlt := (Array.getElem?_eq_some_iff.1 hp).1
    rw [mem_ready]
    refine ⟨by rw [getD_push (by omega)]; exact h0, p, (push_lt hlt).trans hp, fun e he hb => ?_⟩
    have q2 := h.lt i p hp e he hb
    rw [getD_push (by omega)]
    exact hall e he hb
   refine ⟨fun hn => ?_, fun i hi => ?_⟩
   ·exfalso
    apply hr
    rw [List.eq_nil_iff_forall_not_mem]
    intro i hi
    have := forth i hi
    rw [hn] at this
    cases this
   ·have hi' := back i hi
    have h1 := hh.2 i hi'
    rw [mem_ready] at hi'
    obtain ⟨h0, p, hp, hall⟩ := hi'
    have hlt := (Array.getElem?_eq_some_iff.1 hp).1
    unfold wpOp at h1 ⊢
    rw [push_lt hlt, hp]
    rw [hp] at h1
    have hw : ∀ y, Region.wanted p y = true := fun y => by simp [Region.wanted, h.g i p hp]
    simp only [hw, if_true] at h1 ⊢
    have e1 : (L.push false).setIfInBounds i true = (L.setIfInBounds i true).push false := by
     have hil : i < L.size := by omega
     apply Array.ext_getElem?
     intro k
     simp only [Array.getElem?_setIfInBounds, Array.getElem?_push, Array.size_push, Array.size_setIfInBounds]
     by_cases q : i = k
     ·subst q
      simp [Nat.ne_of_lt hil, hil, Nat.lt_succ_of_lt hil]
     ·simp [q]
    rcases h1 with h1 | ⟨h1, h2⟩
    ·refine .inl (wp_QL (fun a' w' q => ?_) h1)
     rw [e1]
     refine ih _ a' w' (by simp; exact hs) ?_ q
     intro k pk hpk hk e he hb
     by_cases q : k = i
     ·subst q
      rw [hp] at hpk
      injection hpk with hpk
      subst hpk
      exact getD_set_true (hall e he hb)
     ·refine getD_set_true (hc k pk hpk ?_ e he hb)
      rw [getD_set_ne false (Ne.symm q)] at hk
      exact hk
    ·exact .inr ⟨h1, lets_QL h2⟩
end
theorem push_of {α : Type} {A B : Array α} {x : α} (hp : A.pop = B) (hb : A.back? = some x) : A = B.push x := by
 subst hp
 have hs : 0 < A.size := by
  cases hA : A.size with
  | zero =>
   have : A = #[] := by simpa using hA
   subst this; simp at hb
  | succ n => omega
 apply Array.ext
 ·simp; omega
 ·intro i h1 h2
  rw [Array.getElem_push]
  split
  ·simp
  ·rename_i q
   simp at q
   rw [Array.back?_eq_getElem?] at hb
   have : i = A.size - 1 := by omega
   subst this
   rw [Array.getElem?_eq_getElem h1] at hb
   injection hb
theorem region_last {P : Program} {ops ops1 : Array Oper} {o : Oper} {Q : Exit → Act → World → Prop} {S : World → Prop} {id : Nat} {a : Act} {w : World} (hm : P.follows .mixedOrders = true) (hp : ops.pop = ops1) (hb : ops.back? = some o) (hok : lastOk ops1 o = true) (hS : S w.drew)
  (h : S w.drew → wpAnyH P .any ops1 (QL P o Q) S ops1.size (Array.replicate ops1.size false) a w.drew) : (Code.region id ops true).wp P Q a w := by
 rw [push_of hp hb]
 refine wp_region_any hm ?_
 have := any_last (LOk.of hok) _ _ a _ (by simp) (fun i p hp hl => by
  have hlt := (Array.getElem?_eq_some_iff.1 hp).1
  simp [Array.getD, hlt] at hl) (wpAny_of_held _ _ _ _ (h hS))
 rw [Array.size_push, Array.replicate_succ]
 exact this
theorem tk {P : Program} {ops : Array Oper} {Q : Exit → Act → World → Prop} {md : Region.Mode} {S : World → Prop} (i : Nat) {oi : Oper} {v : Value} {fuel : Nat} {listed : Array Bool} {a : Act} {w : World}
  (h : wpAnyH P md ops Q S fuel (listed.setIfInBounds i true) (a.put oi.dst v) w)
  (hi : ops[i]? = some oi := by rfl) (hs : Region.noSelect ops = true := by kernel_rfl) (hf : Region.free md ops listed i = true := by kernel_rfl) (hr : (Region.ready md ops listed).contains i = true := by kernel_rfl)
  (hQ : ∀ c a w, Q (.panic c) (a.put oi.dst v) w → Q (.panic c) a w := by exact fun _ _ _ h => h) (hg : Region.wanted oi (yielded ops a.tmps) = true := by rfl)
  (hy : ∀ w, S w → (execOp a.eval oi).run P w = .ok (.value v) w := by (intro w hSw; (try dsimp only at hSw); go_simp; first | done | (with_reducible rfl))) (hS : S w := by assumption) : wpAnyH P md ops Q S (fuel + 1) listed a w :=
 wpAnyH_take hi hs hf hr hQ (.inl ⟨hg, hy⟩) hS h
end Lst
open Go.RowKit
namespace Af
open RowB
theorem calls_no2 {g : FuncId} {args : Array Value} {w W : World} {er : Er} {Q : Ending → World → Prop} (r : Value) (b : Below w.heap.size w W) (h : ∀ W, Below w.heap.size w W → Calls Tryz.prog g args W fun e w' => e = .panicked (chn er) ∧ Below W.heap.size W w') (k : ∀ w', Below w.heap.size w w' → Q (.panicked (chn er)) w') (_d : Hid False → Q (.returned r) W) : Calls Tryz.prog g args W Q :=
 (h W b).mono fun e w' q => by rw [q.1]; exact k w' (b.trans (q.2.mono b.size))
def RS (B rb : Nat) (w W : World) (R : Rdr) (P : Pts) (hv : Value) (hd : List Bs) (j : Nat) : Prop :=
 ∃ Rj Pj, LP B rb w W Rj Pj P hv hd ∧ times (repStep (fld hd 0)) j R = .ok Rj ∧ Rj.file.reps.length = j
theorem readReps_any {B rb : Nat} {R : Rdr} {P : Pts} {w : World} (h : RAt B w rb R P) (k : Value) (hd : List Bs) (hv : Value) (hrow : StrRow B w hv (hd.map Fld.str)) (hlen : hd.length = 2) (hf : ∀ f ∈ hd, f.length ≤ 65536) (h0 : R.file.reps = []) :
  Calls Tryz.prog 87 #[ptr rb, hv, k] w (Res B rb P w (doReps R hd)) := by
 have HS := hide (LP.start h hrow)
 have HLN := hide hlen
 have HZ := hide h0
 obtain ⟨g, cap, rfl, hg, h1, h2, -, hcl⟩ := str_cells hrow
 unfold maxLen at h2
 have q1 := hcl 1 _ (fld_get (by omega))
 have hf1 := hf _ (List.mem_of_getElem? (fld_get (row := hd) (i := 1) (by omega)))
 have HN := hide (number_any rb R.line (Fld.str (fld hd 1)) 256 w (by rw [fstr_wd, Wd.str_size]; omega) (by decide) h.cells.2.2.1)
 have e1 : (Fld.str (fld hd 1)).data.toList = fld hd 1 := by simp [Fld.str]
 rw [e1] at HN
 rw [hlen] at h1 HS ⊢
 clear hcl hf hf1 e1 hrow hlen h0 h
 generalize Fld.str (fld hd 1) = r1 at *
 cases hn : numb R.line (fld hd 1) 256 with
 | error er =>
  have HX := hide (doReps_n hn)
  have HNN := hide (noOf (unhide HN) hn)
  clear HN hn
  go_enter Tryz.func87, Tryz.ntmps87
  go_wp2_with (go_at_call 114; refine (unhide HNN).mono ?_; rintro e w4 ⟨rfl, rfl⟩)
  exact ⟨rfl, Res.no (unhide HX) (Kt.refl _ _ _ _)⟩
 | ok n =>
  have HX := hide (doReps_t hn)
  have hnm : n ≤ 256 := numb_le hn
  have HNN := hide (okOf (unhide HN) hn)
  clear HN hn
  go_enter Tryz.func87, Tryz.ntmps87
  go_wp2_with (go_at_call 114; refine (unhide HNN).mono ?_; rintro e w4 ⟨rfl, rfl⟩)
  go_loopw [13] (fun s13 wr => ∃ j : Nat, s13 = .int .i64 j ∧ j ≤ n ∧ Hid (RS B rb w4 wr R P (.slice (some ⟨g, 0, none⟩) 2 cap) hd j)) (fun s13 _ => n - (intOf s13).toNat)
  case atStart => exact ⟨0, rfl, Nat.zero_le _, ⟨R, P, unhide HS, rfl, by rw [unhide HZ]; rfl⟩⟩
  case round =>
   obtain ⟨j, rfl, hj, HR⟩ := hrel
   by_cases hlt : j < n
   ·obtain ⟨Rj, Pj, hL, ht, hjl⟩ := unhide HR
    have HT := hide ht
    have HJL := hide hjl
    have HL := hide hL
    have hltz : (j : Int) < (n : Int) := by omega
    obtain ⟨hg', -, hcc⟩ := str_at hL.row
    have q0 := hcc 0 _ (fld_get (by rw [unhide HLN]; decide))
    clear HR ht hjl hcc hg h1 q1 HS HNN
    have HA := hide (hL.below ((Below.refl _ wr).alloc (Nat.le_refl _) (.cells #[.string (Fld.str (fld hd 0))] 9)))
    have HG := hide (groupRow_any (unhide HA).at_ [fld hd 0] (.slice (some ⟨wr.heap.size, 0, none⟩) 1 1) (str_new wr [fld hd 0] (by simp) (by simp)) (by simp))
    generalize Fld.str (fld hd 0) = r0 at *
    clear hL
    cases hgr : grow Rj [fld hd 0] with
    | error er =>
     have HE := hide (times_err (unhide HT) (repStep_g hgr) hlt)
     have HGN := hide (gNo (unhide HG) hgr)
     clear HG hgr
     go_wp2_with (go_at_call 115; refine (unhide HGN).mono ?_; rintro e w2 ⟨rfl, k2, l2⟩)
     exact ⟨rfl, (unhide HA).no2 k2 l2 ((unhide HX).trans (unhide HE))⟩
    | ok p =>
     obtain ⟨row, R1⟩ := p
     have HGR := hide hgr
     have HGO := hide (gOk (unhide HG) hgr)
     obtain ⟨lq, tq, hrq, hr1, hr2, hr3, hr4, hr5⟩ := grow_rows hgr
     have HFL := hide (grow_len (unhide HL).at_.rok hgr)
     have HJ1 : Hid (R1.file.reps.length = j) := by rw [Hid, hr3]; exact unhide HJL
     clear HG hgr hrq hr1 hr2 hr3 hr4 hr5
     go_wp2_with (go_at_call 115; refine (unhide HGO).mono ?_; rintro e w2 ⟨fv, rv, rfl, s2, r2, k2, l2⟩; have HL2 := hide ((unhide HA).grow k2 l2 r2); have HS2 := hide s2; obtain ⟨g2, cap2, rfl, hg2, x1, x2, -, hc2⟩ := str_cells s2; have HC2 := hide hc2; clear s2 r2 k2 l2 hc2)
     unfold maxLen at x2
     by_cases h3 : row.length = 3
     ·rw [h3] at x1 HS2 ⊢
      have y1 := unhide HC2 1 _ (fld_get (by omega))
      have y2 := unhide HC2 2 _ (fld_get (by omega))
      have y3 := (unhide HFL).2 _ (List.mem_of_getElem? (fld_get (row := row) (i := 1) (by omega)))
      have y4 := (unhide HFL).2 _ (List.mem_of_getElem? (fld_get (row := row) (i := 2) (by omega)))
      have HP := hide (piece_any rb R1.line (Fld.str (fld row 1)) w2 (by rw [fstr_wd, Wd.str_size]; omega) (unhide HL2).at_.lt (unhide HL2).at_.cells.2.2.1)
      have HQ := hide (fun W (b : Below w2.heap.size w2 W) => piece0_any rb R1.line (Fld.str (fld row 2)) W (by rw [fstr_wd, Wd.str_size]; omega) ((unhide HL2).below b).at_.lt ((unhide HL2).below b).at_.cells.2.2.1)
      have e1 : (Fld.str (fld row 1)).data.toList = fld row 1 := by simp [Fld.str]
      have e2 : (Fld.str (fld row 2)).data.toList = fld row 2 := by simp [Fld.str]
      rw [e1] at HP
      rw [e2] at HQ
      have HH3 := hide h3
      clear e1 e2 y3 y4 h3 HC2 hg'
      generalize Fld.str (fld row 1) = r1 at *
      generalize Fld.str (fld row 2) = r2 at *
      cases hp : piece R1.line (fld row 1) with
      | error er =>
       have HE := hide (times_err (unhide HT) (repStep_r (unhide HGR) (repRow_p (unhide HH3) hp)) hlt)
       have HPN := hide (noOf (unhide HP) hp)
       clear HP HQ hp
       go_wp2_with (first | (go_at_call 91; refine (leaveIf_f _ _ _ _ rfl).mono ?_; rintro e w3 ⟨rfl, hw3⟩; subst w3) | (go_at_call 116; refine (unhide HPN).mono ?_; rintro e w3 ⟨rfl, b3⟩))
       exact ⟨rfl, (unhide HL2).no b3 ((unhide HX).trans (unhide HE))⟩
      | ok a =>
       have HPO := hide (okOf (unhide HP) hp)
       have HPP := hide hp
       unfold strV at HPO
       clear HP hp
       go_wp2_with (first | (go_at_call 91; refine (leaveIf_f _ _ _ _ rfl).mono ?_; rintro e w3 ⟨rfl, hw3⟩; subst w3) | (go_at_call 116; refine (unhide HPO).mono ?_; rintro e w3 ⟨rfl, b3⟩))
       have HB3 := hide b3
       have z2 := (b3.cell (p := ⟨g2, 2, none⟩) hg2).trans y2
       have hL3 := (unhide HL2).below b3
       obtain ⟨d0, -, -, -, -, -, -⟩ := hL3.at_.cells
       obtain ⟨-, k9, -, -, -, -, -⟩ := hL3.at_.file.cells
       have ho9 := hL3.at_.file.reps
       rw [unhide HJ1] at ho9
       obtain ⟨av, cv, ev, -, -⟩ := own_len ho9
       replace k9 : w3.cell? ⟨Pj.fb, 9, none⟩ = some (.slice av j cv) := k9.trans (by rw [ev])
       replace d0 : w3.cell? ⟨rb, 0, none⟩ = some (.pointer (some ⟨Pj.fb, 0, none⟩)) := d0
       have hrb3 := hL3.at_.lt
       have hfb3 : Pj.fb < w3.heap.size := hL3.at_.file.lt
       have hg3 : g2 < w3.heap.size := Nat.lt_of_lt_of_le hg2 b3.size
       have HL3 := hide hL3
       have HEV := hide ev
       have HS3 := hide (str_kept (unhide HS2) (below_kept b3))
       clear b3 y1 y2 ev hL3 hg2 HS2 HA HGO HPO ho9
       cases hq : piece0 R1.line (fld row 2) with
       | error er =>
        have HE := hide (times_err (unhide HT) (repStep_r (unhide HGR) (repRow_q (unhide HH3) (unhide HPP) hq)) hlt)
        have HQN := hide (fun W (b : Below w3.heap.size w3 W) => noOf (unhide HQ W ((unhide HB3).trans (b.mono (unhide HB3).size))) hq)
        clear HQ hq
        go_wp2_with fail
        refine Lst.region_last (ops1 := ?ops1) (o := ?op1) (S := fun w' => w'.cell? ⟨rb, 0, none⟩ = some (.pointer (some ⟨Pj.fb, 0, none⟩)) ∧ w'.cell? ⟨Pj.fb, 9, none⟩ = some (.slice av j cv) ∧ w'.cell? ⟨g2, 2, none⟩ = some (.string r2)) (by kernel_rfl) ?hp1 ?hb1 ?hk1 (by exact ⟨d0, k9, z2⟩) ?hn1
        case hp1 => (simp only [List.pop_toArray, List.dropLast_cons_cons, List.dropLast_singleton]; rfl)
        case hb1 => (simp only [List.back?_toArray, List.getLast?_cons_cons, List.getLast?_singleton]; rfl)
        case hk1 => kernel_rfl
        intro hHeld
        refine Lst.tk 0 ?_
        (try simp only [Act.put, List.setIfInBounds_toArray])
        refine Lst.tk 1 ?_
        (try simp only [Act.put])
        refine Lst.tk 2 ?_
        (try simp only [Act.put])
        refine Lst.tk 3 ?_
        (try simp only [Act.put])
        refine Lst.tk 4 ?_
        (try simp only [Act.put])
        refine Lst.tk 5 ?_
        (try simp only [Act.put])
        refine Lst.tk 6 ?_
        (try simp only [Act.put])
        refine Lst.tk 7 ?_
        (try simp only [Act.put])
        refine Lst.tk 8 ?_
        (try simp only [Act.put])
        refine Lst.tk 9 ?_
        (try simp only [Act.put])
        refine Lst.tk 10 ?_
        (try simp only [Act.put])
        refine Lst.tk 11 ?_
        (try simp only [Act.put])
        refine Lst.tk 12 ?_
        (try simp only [Act.put])
        refine Lst.tk 13 ?_
        (try simp only [Act.put])
        refine Lst.tk 14 ?_
        (try simp only [Act.put])
        refine Lst.tk 15 ?_
        (try simp only [Act.put])
        refine Lst.tk 16 ?_
        (try simp only [Act.put])
        refine wpAnyH_ready (rs := [17]) (by kernel_rfl) (by simp) ?_
        refine AllReadyH.cons (by simp only [List.getElem?_toArray, List.getElem?_cons_succ, List.getElem?_cons_zero]; rfl) (fun K hK => ?_) AllReadyH.nil
        go_simp
        go_wp2_with (go_at_call 117; refine (unhide HQN _ ((Below.refl w3.heap.size w3).drew)).mono ?_; rintro e w5 ⟨rfl, b5⟩)
        exact ⟨rfl, (unhide HL3).no (((Below.refl w3.heap.size w3).drew).trans b5) ((unhide HX).trans (unhide HE))⟩
       | ok b =>
        have HQO := hide (okOf (unhide HQ _ ((unhide HB3).drew)) hq)
        have HQQ := hide hq
        unfold strV at HQO
        clear HQ hq
        go_wp2_with fail
        rename_i K0 hK0
        have HK0 := hide hK0
        clear hK0
        refine Lst.region_last (ops1 := ?ops2) (o := ?op2) (S := fun w' => w'.cell? ⟨rb, 0, none⟩ = some (.pointer (some ⟨Pj.fb, 0, none⟩)) ∧ w'.cell? ⟨Pj.fb, 9, none⟩ = some (.slice av j cv) ∧ w'.cell? ⟨g2, 2, none⟩ = some (.string r2)) (by kernel_rfl) ?hp2 ?hb2 ?hk2 (by exact ⟨d0, k9, z2⟩) ?hn2
        case hp2 => (simp only [List.pop_toArray, List.dropLast_cons_cons, List.dropLast_singleton]; rfl)
        case hb2 => (simp only [List.back?_toArray, List.getLast?_cons_cons, List.getLast?_singleton]; rfl)
        case hk2 => kernel_rfl
        intro hHeld
        refine Lst.tk 0 ?_
        (try simp only [Act.put, List.setIfInBounds_toArray])
        refine Lst.tk 1 ?_
        (try simp only [Act.put])
        refine Lst.tk 2 ?_
        (try simp only [Act.put])
        refine Lst.tk 3 ?_
        (try simp only [Act.put])
        refine Lst.tk 4 ?_
        (try simp only [Act.put])
        refine Lst.tk 5 ?_
        (try simp only [Act.put])
        refine Lst.tk 6 ?_
        (try simp only [Act.put])
        refine Lst.tk 7 ?_
        (try simp only [Act.put])
        refine Lst.tk 8 ?_
        (try simp only [Act.put])
        refine Lst.tk 9 ?_
        (try simp only [Act.put])
        refine Lst.tk 10 ?_
        (try simp only [Act.put])
        refine Lst.tk 11 ?_
        (try simp only [Act.put])
        refine Lst.tk 12 ?_
        (try simp only [Act.put])
        refine Lst.tk 13 ?_
        (try simp only [Act.put])
        refine Lst.tk 14 ?_
        (try simp only [Act.put])
        refine Lst.tk 15 ?_
        (try simp only [Act.put])
        refine Lst.tk 16 ?_
        (try simp only [Act.put])
        refine wpAnyH_ready (rs := [17]) (by kernel_rfl) (by simp) ?_
        refine AllReadyH.cons (by simp only [List.getElem?_toArray, List.getElem?_cons_succ, List.getElem?_cons_zero]; rfl) (fun K hK => ?_) AllReadyH.nil
        go_simp
        go_wp2_with (go_at_call 117; refine (unhide HQO).mono ?_; rintro e w5 ⟨rfl, b5⟩; have HB5 := hide (((Below.refl w3.heap.size w3).drew).trans b5); have d05 := (b5.cell (p := ⟨rb, 0, none⟩) hrb3).trans d0; have k95 := (b5.cell (p := ⟨Pj.fb, 9, none⟩) hfb3).trans k9; have z25 := (b5.cell (p := ⟨g2, 2, none⟩) hg3).trans z2; clear b5)
        refine hK.out _ _ (⟨d05, k95, z25⟩) (fun hh1 => ?_)
        clear hK K
        (try simp only [Act.put, List.setIfInBounds_toArray, List.set_cons_zero, List.set_cons_succ])
        have HL5 := hide ((unhide HL3).below (unhide HB5))
        have ho := (unhide HL5).at_.file.reps
        rw [unhide HJ1] at ho
        obtain ⟨av6, cv6, w6, hap, o6, k6, l6, b6⟩ := push1 (B := B) (w := w5) (X := w5.alloc (.cells #[.string (Wd.str a), .string (Wd.str b)] 74)) (t := 36) (v := Pj.vr) Tryz.underlying36 infoR rfl (by decide) ho (unhide HL5).at_.base ((Below.refl _ _).alloc (Nat.le_refl _) _) (alloc_new w5 _) rfl (by intro u hu; simp at hu; rcases hu with rfl | rfl <;> rfl) (by omega) (by decide) 36
        rw [unhide HEV] at hap
        have HAP := hide hap
        have n256 : R1.file.reps.length < 256 := by rw [unhide HJ1]; omega
        have HADD := hide ((unhide HL5).at_.addRep (a, b) n256 (Below.refl _ _) k6 l6 (by rw [unhide HJ1]; exact o6))
        have d06 : w6.cell? ⟨rb, 0, none⟩ = some (.pointer (some ⟨Pj.fb, 0, none⟩)) := (World.cell?_of_block (a := ⟨rb, 0, none⟩) (k6.cells _ _ _ _ (unhide HL5).at_.rdr (by decide))).trans d05
        have k96 : w6.cell? ⟨Pj.fb, 9, none⟩ = some (.slice av j cv) := (World.cell?_of_block (a := ⟨Pj.fb, 9, none⟩) (k6.cells _ _ _ _ (unhide HL5).at_.file.fil (by decide))).trans k95
        have z26 : w6.cell? ⟨g2, 2, none⟩ = some (.string r2) := by
         obtain ⟨g', cap', cur, e, -, hh, -⟩ := str_kept (unhide HS3) (below_kept (unhide HB5))
         injection e with e _ _
         injection e with e
         injection e with e _ _
         subst e
         exact (World.cell?_of_block (a := ⟨g2, 2, none⟩) (k6.cells _ _ _ _ hh (by decide))).trans z25
        have f6 : w6.frozen? ⟨Pj.fb, 9, none⟩ = false := by
         have := (k6.cells _ _ _ _ (unhide HL5).at_.file.fil (by decide)).trans (unhide HL5).at_.file.fil
         simp [World.frozen?, this]
        have hfb6 : Pj.fb < w6.heap.size := World.block_lt_of_cell? w6 ⟨Pj.fb, 9, none⟩ k96
        have bb := fun q i (hb : q < w5.heap.size) => ((Below.refl w5.heap.size w5).alloc (Nat.le_refl _) (.cells #[.string (Wd.str a), .string (Wd.str b)] 74)).cell (p := ⟨q, i, none⟩) hb
        have d0a := (bb rb 0 (World.block_lt_of_cell? w5 ⟨rb, 0, none⟩ d05)).trans d05
        have k9a := (bb Pj.fb 9 (World.block_lt_of_cell? w5 ⟨Pj.fb, 9, none⟩ k95)).trans k95
        have z2a := (bb g2 2 (World.block_lt_of_cell? w5 ⟨g2, 2, none⟩ z25)).trans z25
        clear ho hap o6 k6 l6 b6 bb n256
        refine Lst.tk 18 ?_
        (try simp only [Act.put, List.setIfInBounds_toArray])
        refine wpAnyH_ready (rs := [19]) (by kernel_rfl) (by simp) ?_
        refine AllReadyH.cons (by simp only [List.getElem?_toArray, List.getElem?_cons_succ, List.getElem?_cons_zero]; rfl) (fun K hK => ?_) AllReadyH.nil
        go_simp
        refine hK.out _ _ (⟨d0a, k9a, z2a⟩) (fun hh2 => ?_)
        clear hK K
        (try simp only [Act.put, List.setIfInBounds_toArray, List.set_cons_zero, List.set_cons_succ])
        refine wpAnyH_ready (rs := [20]) (by kernel_rfl) (by simp) ?_
        refine AllReadyH.cons (by simp only [List.getElem?_toArray, List.getElem?_cons_succ, List.getElem?_cons_zero]; rfl) (fun K hK => ?_) AllReadyH.nil
        refine step_app (by rfl) _ _ _ (by rfl) _ _ _ _ (by rfl) (by rfl) (by exact unhide HAP) ?_
        refine hK.out _ _ (⟨d06, k96, z26⟩) (fun hh3 => ?_)
        clear hK K
        (try simp only [Act.put, List.setIfInBounds_toArray, List.set_cons_zero, List.set_cons_succ])
        refine Lst.tk 21 ?_
        (try simp only [Act.put, List.setIfInBounds_toArray])
        refine Lst.tk 22 ?_
        (try simp only [Act.put])
        refine Lst.tk 23 ?_
        (try simp only [Act.put])
        refine wpAnyH_done (by kernel_rfl) ?_ _
        show Oper.wp _ _ _ _ _ _
        go_simp
        apply unhide HK0
        go_wp2
        go_roundw
        case rel => exact ⟨j + 1, by go_num, by omega, ⟨_, _, (unhide HL5).turn (unhide HADD) ⟨rfl, rfl, rfl⟩, times_ok (unhide HT) (repStep_ok (unhide HGR) (repRow_ok (unhide HH3) (unhide HPP) (unhide HQQ))), by simp [unhide HJ1]⟩⟩
        case measure => simp [intOf]; omega
     ·have HE := hide (times_err (unhide HT) (repStep_r (unhide HGR) (repRow_n h3)) hlt)
      have h3i : ((row.length : Int) != 3) = true := by simp; omega
      have HV := hide (leaveIf_t rb R1.line ((row.length : Int) != 3) 111 w2 h3i (by decide) (by decide) (unhide HL2).at_.cells.2.2.1)
      clear h3 HC2 h3i
      generalize row.length = m at *
      go_wp2_with (go_at_call 91; refine (unhide HV).mono ?_; rintro e w3 ⟨rfl, hw3⟩; subst w3)
      exact ⟨rfl, (unhide HL2).no (Below.refl _ _) ((unhide HX).trans (unhide HE))⟩
   ·obtain rfl : j = n := by omega
    have hltz : ¬ (j : Int) < (j : Int) := by omega
    obtain ⟨Rj, Pj, hL, ht, hjl⟩ := unhide HR
    have HL := hide hL
    have HXX := hide ((unhide HX).trans ht)
    clear HR hL ht hjl
    go_wp2
    go_end0
    exact (unhide HL).yes (unhide HXX)
theorem rS_set (k : Int) (s : Bs) (h : So.rE k s = 0) : So.setOf (So.rS k s) = So.rS k s ∧ (So.rS k s).length ≤ 1048577 := by
 unfold So.rS
 rw [if_pos h]
 have hl := (So.setOf_set (So.vals k s)).len
 refine ⟨So.setOf_congr fun x => So.mem_setOf, ?_⟩
 have : (So.vals k s).length ≤ 64 := by
  unfold So.rE So.readE at h
  repeat (split at h <;> first | omega | skip)
 omega
def SS (B rb : Nat) (w W : World) (R : Rdr) (P : Pts) (hv : Value) (hd : List Bs) (j : Nat) : Prop :=
 ∃ Rj Pj, LP B rb w W Rj Pj P hv hd ∧ times (aliStep (fld hd 0)) j R = .ok Rj ∧ Rj.file.aliases.length = j
theorem readAliases_any {B rb : Nat} {R : Rdr} {P : Pts} {w : World} (h : RAt B w rb R P) (hM : Mx B w) (k : Value) (hd : List Bs) (hv : Value) (hrow : StrRow B w hv (hd.map Fld.str)) (hlen : hd.length = 2) (hf : ∀ f ∈ hd, f.length ≤ 65536) (h0 : R.file.aliases = []) :
  Calls Tryz.prog 88 #[ptr rb, hv, k] w (Res B rb P w (doAliases R hd)) := by
 have HS := hide (LP.start h hrow)
 have HLN := hide hlen
 have HZ := hide h0
 have HM := hide hM
 obtain ⟨d0, -, hln, -, -, -, -⟩ := h.cells
 obtain ⟨-, -, -, d11, -, -, -⟩ := h.file.cells
 obtain ⟨ac, cc, ec, -, -⟩ := own_len h.file.clss
 rw [ec] at d11
 obtain ⟨g, cap, rfl, hg, h1, h2, -, hcl⟩ := str_cells hrow
 unfold maxLen at h2
 have q1 := hcl 1 _ (fld_get (by omega))
 have hf1 := hf _ (List.mem_of_getElem? (fld_get (row := hd) (i := 1) (by omega)))
 have HN := hide (number_any rb R.line (Fld.str (fld hd 1)) 1024 w (by rw [fstr_wd, Wd.str_size]; omega) (by decide) hln)
 have e1 : (Fld.str (fld hd 1)).data.toList = fld hd 1 := by simp [Fld.str]
 rw [e1] at HN
 rw [hlen] at h1 HS ⊢
 clear hcl hf hf1 e1 hrow hlen h0 h ec hM
 generalize Fld.str (fld hd 1) = r1 at *
 rcases Classical.em (R.file.classes ≠ []) with hc0 | hc0
 ·have HX := hide (doAliases_c (hd := hd) hc0)
  have hpos : (0 : Int) < (R.file.classes.length : Int) := by have := List.length_pos_iff.2 hc0; omega
  have HV := hide (fun b (hb : b = true) => leaveIf_t rb R.line b 113 w hb (by decide) (by decide) hln)
  clear hc0 HN HS HZ hln
  generalize R.file.classes.length = nc at *
  go_enter Tryz.func88, Tryz.ntmps88
  go_wp2_with (go_at_call 91; refine (unhide HV _ (by first | rfl | (simp; omega))).mono ?_; rintro e w3 ⟨rfl, hw3⟩; subst w3)
  exact ⟨rfl, Res.no (unhide HX) (Kt.refl _ _ _ _)⟩
 have hc0 : R.file.classes = [] := Classical.not_not.1 hc0
 have hnc : R.file.classes.length = 0 := by rw [hc0]; rfl
 rw [hnc] at d11
 have HC0 := hide hc0
 clear hc0 hnc hln
 cases hn : numb R.line (fld hd 1) 1024 with
 | error er =>
  have HX := hide (doAliases_n (unhide HC0) hn)
  have HNN := hide (noOf (unhide HN) hn)
  clear HN hn
  go_enter Tryz.func88, Tryz.ntmps88
  go_wp2_with (first | (go_at_call 91; refine (leaveIf_f _ _ _ _ (by first | rfl | (simp; done))).mono ?_; rintro e w3 ⟨rfl, hw3⟩; subst w3) | (go_at_call 114; refine (unhide HNN).mono ?_; rintro e w4 ⟨rfl, hw4⟩; subst w4))
  exact ⟨rfl, Res.no (unhide HX) (Kt.refl _ _ _ _)⟩
 | ok n =>
  have HX := hide (doAliases_t (unhide HC0) hn)
  have hnm : n ≤ 1024 := numb_le hn
  have HNN := hide (okOf (unhide HN) hn)
  clear HN hn
  go_enter Tryz.func88, Tryz.ntmps88
  go_wp2_with (first | (go_at_call 91; refine (leaveIf_f _ _ _ _ (by first | rfl | (simp; done))).mono ?_; rintro e w3 ⟨rfl, hw3⟩; subst w3) | (go_at_call 114; refine (unhide HNN).mono ?_; rintro e w4 ⟨rfl, hw4⟩; subst w4))
  go_loopw [26] (fun s13 wr => ∃ j : Nat, s13 = .int .i64 j ∧ j ≤ n ∧ Hid (SS B rb w wr R P (.slice (some ⟨g, 0, none⟩) 2 cap) hd j)) (fun s13 _ => n - (intOf s13).toNat)
  case atStart => exact ⟨0, rfl, Nat.zero_le _, ⟨R, P, unhide HS, rfl, by rw [unhide HZ]; rfl⟩⟩
  case round =>
   obtain ⟨j, rfl, hj, HR⟩ := hrel
   clear d0 d11
   by_cases hlt : j < n
   ·obtain ⟨Rj, Pj, hL, ht, hjl⟩ := unhide HR
    have HT := hide ht
    have HJL := hide hjl
    have HL := hide hL
    have hltz : (j : Int) < (n : Int) := by omega
    obtain ⟨hg', -, hcc⟩ := str_at hL.row
    have q0 := hcc 0 _ (fld_get (by rw [unhide HLN]; decide))
    clear HR ht hjl hcc hg h1 q1 HS HNN
    have HA := hide (hL.below ((Below.refl _ wr).alloc (Nat.le_refl _) (.cells #[.string (Fld.str (fld hd 0))] 9)))
    have HG := hide (groupRow_any (unhide HA).at_ [fld hd 0] (.slice (some ⟨wr.heap.size, 0, none⟩) 1 1) (str_new wr [fld hd 0] (by simp) (by simp)) (by simp))
    generalize Fld.str (fld hd 0) = r0 at *
    clear hL
    cases hgr : grow Rj [fld hd 0] with
    | error er =>
     have HE := hide (times_err (unhide HT) (aliStep_g hgr) hlt)
     have HGN := hide (gNo (unhide HG) hgr)
     clear HG hgr
     go_wp2_with (go_at_call 115; refine (unhide HGN).mono ?_; rintro e w2 ⟨rfl, k2, l2⟩)
     exact ⟨rfl, (unhide HA).no2 k2 l2 ((unhide HX).trans (unhide HE))⟩
    | ok p =>
     obtain ⟨row, R1⟩ := p
     have HGR := hide hgr
     have HGO := hide (gOk (unhide HG) hgr)
     obtain ⟨lq, tq, hrq, hr1, hr2, hr3, hr4, hr5⟩ := grow_rows hgr
     have HFL := hide (grow_len (unhide HL).at_.rok hgr)
     have HJ1 : Hid (R1.file.aliases.length = j) := by rw [Hid, hr3]; exact unhide HJL
     clear HG hgr hrq hr1 hr2 hr3 hr4 hr5
     go_wp2_with (go_at_call 115; refine (unhide HGO).mono ?_; rintro e w2 ⟨fv, rv, rfl, s2, r2, k2, l2⟩; have HL2 := hide ((unhide HA).grow k2 l2 r2); have HS2 := hide s2; obtain ⟨g2, cap2, rfl, hg2, x1, x2, -, hc2⟩ := str_cells s2; have HC2 := hide hc2; clear s2 r2 k2 l2 hc2)
     unfold maxLen at x2
     by_cases h3 : row.length = 2
     ·rw [h3] at x1 HS2 ⊢
      have y1 := unhide HC2 1 _ (fld_get (by omega))
      have y3 := (unhide HFL).2 _ (List.mem_of_getElem? (fld_get (row := row) (i := 1) (by omega)))
      have HP := hide (fun W (b : Below w2.heap.size w2 W) => readFlags R1.file.kind (Fld.str (fld row 1)) W ((((unhide HM).low (unhide HL2).kt.low).low (b.mono (unhide HL2).at_.base)).so) (by rw [fstr_wd, Wd.str_size]; omega))
      have e1 : (Fld.str (fld row 1)).data.toList = fld row 1 := by simp [Fld.str]
      rw [e1] at HP
      have HH3 := hide h3
      have hL2 := unhide HL2
      obtain ⟨d0, -, -, -, -, -, -⟩ := hL2.at_.cells
      obtain ⟨kk0, -, -, -, -, -, -⟩ := hL2.at_.file.cells
      replace d0 : w2.cell? ⟨rb, 0, none⟩ = some (.pointer (some ⟨Pj.fb, 0, none⟩)) := d0
      replace kk0 : w2.cell? ⟨Pj.fb, 0, none⟩ = some (.int .i64 R1.file.kind) := kk0
      have HF2 := hide (And.intro hL2.at_.lt (hL2.at_.file.lt : Pj.fb < w2.heap.size))
      clear e1 y3 h3 HC2 hg' hL2
      generalize Fld.str (fld row 1) = r1 at *
      by_cases hE : So.rE R1.file.kind (fld row 1) = 0
      ·have HE0 := hide (aliRow_ok (F := R1.file) (l := R1.line) (unhide HH3) hE)
       have HSE := hide (rS_set _ _ hE)
       rw [hE] at HP
       clear hE
       go_wp2_with (go_at_call 91; refine (leaveIf_f _ _ _ _ rfl).mono ?_; rintro e w3 ⟨rfl, hw3⟩; subst w3)
       go_region_held2 (fun w' => w'.cell? ⟨rb, 0, none⟩ = some (.pointer (some ⟨Pj.fb, 0, none⟩)) ∧ w'.cell? ⟨Pj.fb, 0, none⟩ = some (.int .i64 R1.file.kind) ∧ w'.cell? ⟨g2, 1, none⟩ = some (.string r1)) (first | (with_reducible exact ⟨d03, k03, z13⟩) | exact ⟨d0, kk0, y1⟩) (first | (go_at_call 41; refine (unhide HP _ ((Below.refl w2.heap.size w2).drew)).mono ?_; rintro e w3 ⟨u, rfl, f3, b3'⟩; have b3 := ((Below.refl w2.heap.size w2).drew).trans b3'; have HB3 := hide b3; have HF3 := hide f3; have d03 := (b3.cell (p := ⟨rb, 0, none⟩) (unhide HF2).1).trans d0; have k03 := (b3.cell (p := ⟨Pj.fb, 0, none⟩) (unhide HF2).2).trans kk0; have z13 := (b3.cell (p := ⟨g2, 1, none⟩) hg2).trans y1; clear b3 f3 b3'))
       obtain ⟨ao3, n3, c3, rfl⟩ : ∃ a m c, u = .slice a m c := by
        rcases unhide HF3 with ⟨q, -⟩ | ⟨gq, cq, curq, q, -⟩
        ·exact ⟨_, _, _, q⟩
        ·exact ⟨_, _, _, q⟩
       have hL3 := (unhide HL2).below (unhide HB3)
       obtain ⟨-, -, k10, -, -, -, -⟩ := hL3.at_.file.cells
       have ho9 := hL3.at_.file.alis
       rw [unhide HJ1] at ho9
       obtain ⟨av, cv, ev, -, -⟩ := own_len ho9
       replace k10 : w3.cell? ⟨Pj.fb, 10, none⟩ = some (.slice av j cv) := k10.trans (by rw [ev])
       obtain ⟨av6, cv6, w6, hap, o6, k6, l6, b6⟩ := push1 (B := B) (w := w3) (X := (w3.alloc (.cells #[.slice ao3 n3 c3] 44)).drew) (t := 37) (v := Pj.va) Tryz.underlying37 infoA rfl (by decide) ho9 hL3.at_.base (((Below.refl _ _).alloc (Nat.le_refl _) _).drew) (alloc_new w3 _) rfl (by intro u hu; simp at hu; subst hu; rfl) (by omega) (by decide) 37
       rw [ev] at hap
       have HAP := hide hap
       have n1024 : R1.file.aliases.length < 1024 := by rw [unhide HJ1]; omega
       have HADD := hide ((unhide HL2).at_.addAli (So.rS R1.file.kind (fld row 1)) (unhide HSE) n1024 (unhide HB3) (unhide HF3) k6 l6 (by rw [unhide HJ1]; exact o6))
       have d06 : w6.cell? ⟨rb, 0, none⟩ = some (.pointer (some ⟨Pj.fb, 0, none⟩)) := (World.cell?_of_block (a := ⟨rb, 0, none⟩) (k6.cells _ _ _ _ hL3.at_.rdr (by decide))).trans d03
       have k106 : w6.cell? ⟨Pj.fb, 10, none⟩ = some (.slice av j cv) := (World.cell?_of_block (a := ⟨Pj.fb, 10, none⟩) (k6.cells _ _ _ _ hL3.at_.file.fil (by decide))).trans k10
       have f6 : w6.frozen? ⟨Pj.fb, 10, none⟩ = false := by
        have := (k6.cells _ _ _ _ hL3.at_.file.fil (by decide)).trans hL3.at_.file.fil
        simp [World.frozen?, this]
       have hfb6 : Pj.fb < w6.heap.size := World.block_lt_of_cell? w6 ⟨Pj.fb, 10, none⟩ k106
       have bb := fun q i (hb : q < w3.heap.size) => (((Below.refl w3.heap.size w3).alloc (Nat.le_refl _) (.cells #[.slice ao3 n3 c3] 44)).drew).cell (p := ⟨q, i, none⟩) hb
       have d0a := (bb rb 0 (World.block_lt_of_cell? w3 ⟨rb, 0, none⟩ d03)).trans d03
       have k10a := (bb Pj.fb 10 (World.block_lt_of_cell? w3 ⟨Pj.fb, 10, none⟩ k10)).trans k10
       clear ho9 hap o6 k6 l6 b6 bb n1024 ev HF3 HP y1 z13 k03 kk0 d0 hL3
       go_wp2_with (go_at_call 80; refine (leave_ok _ _).mono ?_; rintro e w4 ⟨rfl, hw4⟩; subst w4)
       rename_i K0 hK0 _
       have HK0 := hide hK0
       clear hK0
       refine Lst.region_last (ops1 := ?ops1) (o := ?op1) (S := fun w' => w'.cell? ⟨rb, 0, none⟩ = some (.pointer (some ⟨Pj.fb, 0, none⟩)) ∧ w'.cell? ⟨Pj.fb, 10, none⟩ = some (.slice av j cv)) (by kernel_rfl) ?hp1 ?hb1 ?hk1 (by exact ⟨d03, k10⟩) ?hn1
       case hp1 => (simp only [List.pop_toArray, List.dropLast_cons_cons, List.dropLast_singleton]; rfl)
       case hb1 => (simp only [List.back?_toArray, List.getLast?_cons_cons, List.getLast?_singleton]; rfl)
       case hk1 => kernel_rfl
       intro hHeld
       refine Lst.tk 0 ?_
       (try simp only [Act.put, List.setIfInBounds_toArray])
       refine Lst.tk 1 ?_
       (try simp only [Act.put])
       refine Lst.tk 2 ?_
       (try simp only [Act.put])
       refine Lst.tk 3 ?_
       (try simp only [Act.put])
       refine Lst.tk 4 ?_
       (try simp only [Act.put])
       refine Lst.tk 5 ?_
       (try simp only [Act.put])
       refine Lst.tk 6 ?_
       (try simp only [Act.put])
       refine Lst.tk 7 ?_
       (try simp only [Act.put])
       refine Lst.tk 8 ?_
       (try simp only [Act.put])
       refine Lst.tk 9 ?_
       (try simp only [Act.put])
       refine Lst.tk 10 ?_
       (try simp only [Act.put])
       refine Lst.tk 11 ?_
       (try simp only [Act.put])
       refine Lst.tk 12 ?_
       (try simp only [Act.put])
       refine wpAnyH_ready (rs := [13]) (by kernel_rfl) (by simp) ?_
       refine AllReadyH.cons (by simp only [List.getElem?_toArray, List.getElem?_cons_succ, List.getElem?_cons_zero]; rfl) (fun K hK => ?_) AllReadyH.nil
       go_simp
       refine hK.out _ _ (⟨d0a, k10a⟩) (fun hh2 => ?_)
       clear hK K
       (try simp only [Act.put, List.setIfInBounds_toArray, List.set_cons_zero, List.set_cons_succ])
       refine wpAnyH_ready (rs := [14]) (by kernel_rfl) (by simp) ?_
       refine AllReadyH.cons (by simp only [List.getElem?_toArray, List.getElem?_cons_succ, List.getElem?_cons_zero]; rfl) (fun K hK => ?_) AllReadyH.nil
       refine step_app (by rfl) _ _ _ (by rfl) _ _ _ _ (by rfl) (by rfl) (by exact unhide HAP) ?_
       refine hK.out _ _ (⟨d06, k106⟩) (fun hh3 => ?_)
       clear hK K
       (try simp only [Act.put, List.setIfInBounds_toArray, List.set_cons_zero, List.set_cons_succ])
       refine Lst.tk 15 ?_
       (try simp only [Act.put, List.setIfInBounds_toArray])
       refine Lst.tk 16 ?_
       (try simp only [Act.put])
       refine Lst.tk 17 ?_
       (try simp only [Act.put])
       refine wpAnyH_done (by kernel_rfl) ?_ _
       show Oper.wp _ _ _ _ _ _
       go_simp
       apply unhide HK0
       go_wp2
       go_roundw
       case rel => exact ⟨j + 1, by go_num, by omega, ⟨_, _, (unhide HL2).turn (unhide HADD) ⟨rfl, rfl, rfl⟩, times_ok (unhide HT) (aliStep_ok (unhide HGR) (unhide HE0)), by simp [unhide HJ1]⟩⟩
       case measure => simp [intOf]; omega
      ·have HE0 := hide (times_err (unhide HT) (aliStep_r (unhide HGR) (aliRow_e (unhide HH3) hE)) hlt)
       have hE1 : 0 ≤ So.rE R1.file.kind (fld row 1) := rE_pos _ _
       have HV := hide (fun W (b : Below w2.heap.size w2 W) => leave_no rb R1.line _ W hE hE1 ((unhide HL2).below b).at_.cells.2.2.1)
       clear hE hE1
       generalize So.rE R1.file.kind (fld row 1) = er at *
       go_wp2_with (go_at_call 91; refine (leaveIf_f _ _ _ _ rfl).mono ?_; rintro e w3 ⟨rfl, hw3⟩; subst w3)
       go_region_held2 (fun w' => w'.cell? ⟨rb, 0, none⟩ = some (.pointer (some ⟨Pj.fb, 0, none⟩)) ∧ w'.cell? ⟨Pj.fb, 0, none⟩ = some (.int .i64 R1.file.kind) ∧ w'.cell? ⟨g2, 1, none⟩ = some (.string r1)) (first | (with_reducible exact ⟨d03, k03, z13⟩) | exact ⟨d0, kk0, y1⟩) (first | (go_at_call 41; refine (unhide HP _ ((Below.refl w2.heap.size w2).drew)).mono ?_; rintro e w3 ⟨u, rfl, f3, b3'⟩; have b3 := ((Below.refl w2.heap.size w2).drew).trans b3'; have HB3 := hide b3; have HF3 := hide f3; have d03 := (b3.cell (p := ⟨rb, 0, none⟩) (unhide HF2).1).trans d0; have k03 := (b3.cell (p := ⟨Pj.fb, 0, none⟩) (unhide HF2).2).trans kk0; have z13 := (b3.cell (p := ⟨g2, 1, none⟩) hg2).trans y1; clear b3 f3 b3'))
       go_wp2_with (go_at_call 80; refine (unhide HV _ (unhide HB3)).mono ?_; rintro e w4 ⟨rfl, hw4⟩; subst w4)
       exact ⟨rfl, (unhide HL2).no (unhide HB3) ((unhide HX).trans (unhide HE0))⟩
     ·have HE := hide (times_err (unhide HT) (aliStep_r (unhide HGR) (aliRow_n h3)) hlt)
      have h3i : ((row.length : Int) != 2) = true := by simp; omega
      have HV := hide (leaveIf_t rb R1.line ((row.length : Int) != 2) 111 w2 h3i (by decide) (by decide) (unhide HL2).at_.cells.2.2.1)
      clear h3 HC2 h3i
      generalize row.length = m at *
      go_wp2_with (go_at_call 91; refine (unhide HV).mono ?_; rintro e w3 ⟨rfl, hw3⟩; subst w3)
      exact ⟨rfl, (unhide HL2).no (Below.refl _ _) ((unhide HX).trans (unhide HE))⟩
   ·obtain rfl : j = n := by omega
    have hltz : ¬ (j : Int) < (j : Int) := by omega
    obtain ⟨Rj, Pj, hL, ht, hjl⟩ := unhide HR
    have HL := hide hL
    have HXX := hide ((unhide HX).trans ht)
    clear HR hL ht hjl
    go_wp2
    go_end0
    exact (unhide HL).yes (unhide HXX)
theorem puts : (∀ (l : List Value) (i : Nat) (a : Value), l.toArray.setIfInBounds i a = (l.set i a).toArray) ∧ (∀ (x : Value) (l : List Value) (a : Value), (x :: l).set 0 a = a :: l) ∧ ∀ (x : Value) (l : List Value) (n : Nat) (a : Value), (x :: l).set (n + 1) a = x :: l.set n a := ⟨fun _ _ _ => by simp, fun _ _ _ => rfl, fun _ _ _ _ => rfl⟩
def dropSeq : Nat → Code → Code
 | 0, c => c
 | n + 1, .seq _ b => dropSeq n b
 | _ + 1, c => c
noncomputable def cls7 : Code := dropSeq 7 (Tryz.f89.body.getD .skip)
def CS (B rb cb : Nat) (w W : World) (R : Rdr) (P0 : Pts) (c : Cls) (hv : Value) (hd : List Bs) (j : Nat) : Prop :=
 ∃ Rj Pj, LP B rb w W Rj Pj P0 hv hd ∧ W.heap[cb]? = some (.cells (clsC c).toArray 48 (0, 0)) ∧ times (rulStep [fld hd 0, fld hd 1] c) j R = .ok Rj ∧ Rj.file.rules.length = R.file.rules.length + j
theorem cls_cells {W : World} {cb : Nat} {c : Cls} (h : W.heap[cb]? = some (.cells (clsC c).toArray 48 (0, 0))) : W.cell? ⟨cb, 0, none⟩ = some (.int .u16 c.flag) ∧ W.cell? ⟨cb, 1, none⟩ = some (.int .i64 c.kind) ∧ W.cell? ⟨cb, 2, none⟩ = some (.bool c.cross) ∧ W.cell? ⟨cb, 3, none⟩ = some (.int .i64 (c.first : Nat)) ∧ W.cell? ⟨cb, 4, none⟩ = some (.int .i64 (c.count : Nat)) := by
 refine ⟨?_, ?_, ?_, ?_, ?_⟩ <;> simp [World.cell?, h, clsC]
theorem cls_loop {B rb cb g cap : Nat} {R1 : Rdr} {P1 P0 : Pts} {w W : World} {c : Cls} {hd : List Bs} {X : Except Er Rdr} (hL : LP B rb w W R1 P1 P0 (.slice (some ⟨g, 0, none⟩) 4 cap) hd) (hM : Mx B w) (hB : W.heap[cb]? = some (.cells (clsC c).toArray 48 (0, 0))) (hlen : hd.length = 4) (hfew : R1.file.rules.length + c.count ≤ 1024) (hX : X = times (rulStep [fld hd 0, fld hd 1] c) c.count R1) (_hcap : 4 ≤ cap) (_hcap2 : cap ≤ 9223372036854775807)
  (u2 u3 u4 u5 u7 u8 u9 u10 u11 u12 u13 u14 u15 u16 u17 u18 u19 u20 u21 u22 u23 u24 u25 u26 u27 u28 u29 u30 u31 u32 u33 u34 u35 u36 u37 u38 u39 u40 u41 u42 u43 u44 u45 u46 u47 u48 u49 u50 u51 u52 u53 u54 u55 u56 u57 u58 u59 u60 u61 u62 u63 u64 u65 u66 u67 u68 u69 u70 u71 u72 u73 u74 u75 u76 u77 u78 u79 u80 u81 u82 u83 u84 u85 u86 u87 u88 u89 u90 u91 u92 u93 u94 u95 u96 u97 u98 u99 u100 u101 u102 u103 u104 u105 u106 u107 u108 u109 u110 u111 u112 u113 u114 u115 u116 u117 u118 u119 u120 u121 u122 u123 u124 u125 u126 u127 u128 u129 u130 u131 u132 u133 u134 u135 u136 u137 u138 : Value) :
  Code.wp Tryz.prog cls7 (bodyPost Tryz.prog Tryz.f89 (Res B rb P0 w X)) ⟨#[ptr rb, .slice (some ⟨g, 0, none⟩) 4 cap, u2, u3, u4, u5, .pointer (some ⟨cb, 0, none⟩), u7, u8, u9, u10, u11, u12, u13, u14, u15, u16, u17, u18, u19, u20, u21, u22, u23, u24, u25, u26, u27, u28, u29, u30, u31, u32, u33, u34, u35, u36, u37, u38, u39, u40, u41, u42, u43, u44, u45, u46, u47, u48, u49, u50, u51, u52, u53, u54, u55, u56, u57, u58, u59, u60, u61, u62, u63, u64, u65, u66, u67, u68, u69, u70, u71, u72, u73, u74, u75, u76, u77, u78, u79, u80, u81, u82, u83, u84, u85, u86, u87, u88, u89, u90, u91, u92, u93, u94, u95, u96, u97, u98, u99, u100, u101, u102, u103, u104, u105, u106, u107, u108, u109, u110, u111, u112, u113, u114, u115, u116, u117, u118, u119, u120, u121, u122, u123, u124, u125, u126, u127, u128, u129, u130, u131, u132, u133, u134, u135, u136, u137, u138], []⟩ W := by
 conv => arg 2; whnf
 have HS := hide (And.intro hL hB)
 have HM := hide hM
 have HLN := hide hlen
 obtain ⟨-, -, -, -, c4⟩ := cls_cells hB
 have hn1 : c.count ≤ 1024 := by omega
 obtain ⟨n, hn⟩ : ∃ n, c.count = n := ⟨_, rfl⟩
 rw [hn] at c4 hn1 hX hfew
 have HX := hide hX
 have HFW := hide hfew
 have HN := hide hn
 clear hL hM hlen hX hfew hB hn
 go_wp2
 go_loopw [93] (fun s93 wr => ∃ j : Nat, s93 = .int .i64 j ∧ j ≤ n ∧ Hid (CS B rb cb w wr R1 P0 c (.slice (some ⟨g, 0, none⟩) 4 cap) hd j)) (fun s93 _ => n - (intOf s93).toNat)
 case atStart => exact ⟨0, rfl, Nat.zero_le _, ⟨R1, P1, (unhide HS).1, (unhide HS).2, rfl, rfl⟩⟩
 case round =>
  obtain ⟨j, rfl, hj, HR⟩ := hrel
  by_cases hlt : j < n
  ·obtain ⟨Rj, Pj, hL, hblk, ht, hjl⟩ := unhide HR
   have HT := hide ht
   have HJL := hide hjl
   have HL := hide hL
   have HB := hide hblk
   have hltz : (j : Int) < (n : Int) := by omega
   obtain ⟨hg', -, hcc⟩ := str_at hL.row
   have q0 := hcc 0 _ (fld_get (by rw [unhide HLN]; decide))
   have q1 := hcc 1 _ (fld_get (by rw [unhide HLN]; decide))
   clear HR ht hjl hcc c4 HS
   have HA := hide (hL.below (((Below.refl _ wr).alloc (Nat.le_refl _) (.cells #[.string (Fld.str (fld hd 0)), .string (Fld.str (fld hd 1))] 9)).drew))
   have HG := hide (groupRow_any (n := wr.heap.size) (unhide HA).at_ [fld hd 0, fld hd 1] (.slice (some ⟨wr.heap.size, 0, none⟩) 2 2) (str_new wr [fld hd 0, fld hd 1] (by simp) (by simp)) (by simp))
   have bb := fun q i (hb : q < wr.heap.size) => (((Below.refl wr.heap.size wr).alloc (Nat.le_refl _) (.cells #[.string (Fld.str (fld hd 0)), .string (Fld.str (fld hd 1))] 9)).drew).cell (p := ⟨q, i, none⟩) hb
   have q0a := (bb g 0 hg').trans q0
   have q1a := (bb g 1 hg').trans q1
   have HQ : Hid (∀ w2, Kp rb (wr.alloc (.cells #[.string (Fld.str (fld hd 0)), .string (Fld.str (fld hd 1))] 9)).drew w2 → w2.cell? ⟨g, 0, none⟩ = some (.string (Fld.str (fld hd 0))) ∧ w2.cell? ⟨g, 1, none⟩ = some (.string (Fld.str (fld hd 1))) ∧ w2.heap[cb]? = some (.cells (clsC c).toArray 48 (0, 0))) := by
    intro w2 k2
    have ha := (alloc_heap1 hblk (.cells #[.string (Fld.str (fld hd 0)), .string (Fld.str (fld hd 1))] 9) : (wr.alloc (.cells #[.string (Fld.str (fld hd 0)), .string (Fld.str (fld hd 1))] 9)).drew.heap[cb]? = _)
    obtain ⟨-, -, hc2⟩ := str_at (str_kept (unhide HA).row (k2.kept (unhide HA).at_.rdr (ne_cells (by decide))))
    exact ⟨hc2 0 _ (fld_get (by rw [unhide HLN]; decide)), hc2 1 _ (fld_get (by rw [unhide HLN]; decide)), (k2.kept (unhide HA).at_.rdr (ne_cells (by decide)) cb _ ha).trans ha⟩
   clear bb hblk
   generalize Fld.str (fld hd 0) = r0 at *
   generalize Fld.str (fld hd 1) = r1 at *
   clear hL
   cases hgr : grow Rj [fld hd 0, fld hd 1] with
   | error er =>
    have HE := hide (times_err (unhide HT) (rulStep_g hgr) hlt)
    have HGN := hide (gNo (unhide HG) hgr)
    clear HG hgr
    go_wp2_with fail
    refine wp_region_held_drew (S := fun w' => w'.cell? ⟨g, 0, none⟩ = some (.string r0) ∧ w'.cell? ⟨g, 1, none⟩ = some (.string r1)) (by kernel_rfl) ?_ (fun hHeld => ?_)
    ·exact ⟨q0, q1⟩
    refine Lst.tk 0 ?_
    (try simp only [Act.put, puts])
    refine Lst.tk 1 ?_
    (try simp only [Act.put])
    refine Lst.tk 2 ?_
    (try simp only [Act.put])
    refine Lst.tk 3 ?_
    (try simp only [Act.put])
    refine Lst.tk 4 ?_
    (try simp only [Act.put])
    refine Lst.tk 5 ?_
    (try simp only [Act.put])
    refine Lst.tk 6 ?_
    (try simp only [Act.put])
    refine wpAnyH_ready (rs := [7]) (by kernel_rfl) (by simp) ?_
    refine AllReadyH.cons (by simp only [List.getElem?_toArray, List.getElem?_cons_succ, List.getElem?_cons_zero]; rfl) (fun K hK => ?_) AllReadyH.nil
    go_simp
    refine hK.out _ _ (⟨q0a, q1a⟩) (fun hh1 => ?_)
    clear hK K
    (try simp only [Act.put, puts])
    refine wpAnyH_ready (rs := [8]) (by kernel_rfl) (by simp) ?_
    refine AllReadyH.cons (by simp only [List.getElem?_toArray, List.getElem?_cons_succ, List.getElem?_cons_zero]; rfl) (fun K hK => ?_) AllReadyH.nil
    go_simp
    go_wp2_with (go_at_call 115; refine (unhide HGN).mono ?_; rintro e w2 ⟨rfl, k2, l2⟩)
    exact ⟨rfl, (unhide HA).no2 k2 l2 ((unhide HX).trans (unhide HE))⟩
   | ok p =>
    obtain ⟨row, R2⟩ := p
    have HGR := hide hgr
    have HGO := hide (gOk (unhide HG) hgr)
    obtain ⟨lq, tq, hrq, hr1, hr2, hr3, hr4, hr5⟩ := grow_rows hgr
    have HFL := hide (grow_len (unhide HL).at_.rok hgr)
    have HJ1 : Hid (R2.file.rules.length = R1.file.rules.length + j) := by rw [Hid, hr3]; exact unhide HJL
    clear HG hgr hrq hr1 hr2 hr3 hr4 hr5
    go_wp2_with fail
    refine wp_region_held_drew (S := fun w' => w'.cell? ⟨g, 0, none⟩ = some (.string r0) ∧ w'.cell? ⟨g, 1, none⟩ = some (.string r1)) (by kernel_rfl) ?_ (fun hHeld => ?_)
    ·exact ⟨q0, q1⟩
    refine Lst.tk 0 ?_
    (try simp only [Act.put, puts])
    refine Lst.tk 1 ?_
    (try simp only [Act.put])
    refine Lst.tk 2 ?_
    (try simp only [Act.put])
    refine Lst.tk 3 ?_
    (try simp only [Act.put])
    refine Lst.tk 4 ?_
    (try simp only [Act.put])
    refine Lst.tk 5 ?_
    (try simp only [Act.put])
    refine Lst.tk 6 ?_
    (try simp only [Act.put])
    refine wpAnyH_ready (rs := [7]) (by kernel_rfl) (by simp) ?_
    refine AllReadyH.cons (by simp only [List.getElem?_toArray, List.getElem?_cons_succ, List.getElem?_cons_zero]; rfl) (fun K hK => ?_) AllReadyH.nil
    go_simp
    refine hK.out _ _ (⟨q0a, q1a⟩) (fun hh1 => ?_)
    clear hK K
    (try simp only [Act.put, puts])
    refine wpAnyH_ready (rs := [8]) (by kernel_rfl) (by simp) ?_
    refine AllReadyH.cons (by simp only [List.getElem?_toArray, List.getElem?_cons_succ, List.getElem?_cons_zero]; rfl) (fun K hK => ?_) AllReadyH.nil
    go_simp
    go_wp2_with (go_at_call 115; refine (unhide HGO).mono ?_; rintro e w2 ⟨fv, rv, rfl, s2, r2, k2, l2⟩; have HL2 := hide ((unhide HA).grow k2 l2 r2); obtain ⟨q02, q12, hB2⟩ := unhide HQ _ k2; have HB2 := hide hB2; have HS2 := hide s2; obtain ⟨g2, cap2, rfl, hg2, x1, x2, -, -⟩ := str_cells s2; clear s2 r2 k2 l2 hB2)
    refine hK.out _ _ (⟨q02, q12⟩) (fun hh2 => ?_)
    clear hK K
    (try simp only [Act.put, puts])
    refine Lst.tk 9 ?_
    (try simp only [Act.put, puts])
    refine wpAnyH_done (by kernel_rfl) ?_ _
    clear q0 q1 q0a q1a q02 q12
    have hL2 := unhide HL2
    obtain ⟨d0, -, d2, -, -, -, -⟩ := hL2.at_.cells
    obtain ⟨-, -, -, -, k12, -, -⟩ := hL2.at_.file.cells
    obtain ⟨c0, c1, c2, c3, c4⟩ := cls_cells (unhide HB2)
    have ho := hL2.at_.file.ruls
    rw [unhide HJ1] at ho
    obtain ⟨nr, hnr⟩ : ∃ nr, R1.file.rules.length + j = nr := ⟨_, rfl⟩
    have HNR := hide hnr
    rw [hnr] at ho
    have hn1024 : nr < 1024 := by have := unhide HFW; omega
    obtain ⟨av, cv, ev, -, -⟩ := own_len ho
    replace k12 : w2.cell? ⟨Pj.fb, 12, none⟩ = some (.slice av nr cv) := k12.trans (by rw [ev])
    replace d0 : w2.cell? ⟨rb, 0, none⟩ = some (.pointer (some ⟨Pj.fb, 0, none⟩)) := d0
    have HLT := hide (And.intro hL2.at_.lt (And.intro (hL2.at_.file.lt : Pj.fb < w2.heap.size) (lt_some (unhide HB2))))
    have HEV := hide ev
    have HU := hide (rule_any (hL2.at_.below ((Below.refl _ w2).drew)) ((((unhide HM).low hL2.kt.low).low ((Below.refl B w2).drew))) c row (.slice (some ⟨g2, 0, none⟩) row.length cap2) (unhide HS2 : StrRow B w2.drew _ _) (unhide HFL).2)
    unfold clsV at HU
    clear hnr ho ev hL2
    cases hru : rule R2.file R2.line c row with
    | error er =>
     have HE := hide (times_err (unhide HT) (rulStep_r (unhide HGR) hru) hlt)
     have HUN := hide (uNo (unhide HU) hru)
     clear HU hru
     go_wp2_with fail
     refine Lst.region_last (ops1 := ?ops1) (o := ?op1) (S := fun w' => w'.cell? ⟨rb, 0, none⟩ = some (.pointer (some ⟨Pj.fb, 0, none⟩)) ∧ w'.cell? ⟨Pj.fb, 12, none⟩ = some (.slice av nr cv) ∧ w'.cell? ⟨cb, 0, none⟩ = some (.int .u16 c.flag) ∧ w'.cell? ⟨cb, 1, none⟩ = some (.int .i64 c.kind) ∧ w'.cell? ⟨cb, 2, none⟩ = some (.bool c.cross) ∧ w'.cell? ⟨cb, 3, none⟩ = some (.int .i64 (c.first : Nat)) ∧ w'.cell? ⟨cb, 4, none⟩ = some (.int .i64 (c.count : Nat))) (by kernel_rfl) ?hp1 ?hb1 ?hk1 (by exact ⟨d0, k12, c0, c1, c2, c3, c4⟩) ?hn1
     case hp1 => (simp only [List.pop_toArray, List.dropLast_cons_cons, List.dropLast_singleton]; rfl)
     case hb1 => (simp only [List.back?_toArray, List.getLast?_cons_cons, List.getLast?_singleton]; rfl)
     case hk1 => kernel_rfl
     intro hHeld
     refine Lst.tk 0 ?_
     (try simp only [Act.put, puts])
     refine Lst.tk 1 ?_
     (try simp only [Act.put])
     refine Lst.tk 2 ?_
     (try simp only [Act.put])
     refine Lst.tk 3 ?_
     (try simp only [Act.put])
     refine Lst.tk 4 ?_
     (try simp only [Act.put])
     refine Lst.tk 5 ?_
     (try simp only [Act.put])
     refine Lst.tk 6 ?_
     (try simp only [Act.put])
     refine Lst.tk 7 ?_
     (try simp only [Act.put])
     refine Lst.tk 8 ?_
     (try simp only [Act.put])
     refine Lst.tk 9 ?_
     (try simp only [Act.put])
     refine Lst.tk 10 ?_
     (try simp only [Act.put])
     refine Lst.tk 11 ?_
     (try simp only [Act.put])
     refine Lst.tk 12 ?_
     (try simp only [Act.put])
     refine Lst.tk 13 ?_
     (try simp only [Act.put])
     refine Lst.tk 14 ?_
     (try simp only [Act.put])
     refine wpAnyH_ready (rs := [15]) (by kernel_rfl) (by simp) ?_
     refine AllReadyH.cons (by simp only [List.getElem?_toArray, List.getElem?_cons_succ, List.getElem?_cons_zero]; rfl) (fun K hK => ?_) AllReadyH.nil
     go_simp
     go_wp2_with (go_at_call 118; refine (unhide HUN).mono ?_; rintro e w4 ⟨rfl, b4⟩)
     exact ⟨rfl, (unhide HL2).no (((Below.refl w2.heap.size w2).drew).trans b4) ((unhide HX).trans (unhide HE))⟩
    | ok r =>
     have HUO := hide (uOk (unhide HU) hru)
     have HRU := hide hru
     clear HU hru
     go_wp2_with fail
     rename_i K0 hK0
     have HK0 := hide hK0
     clear hK0
     refine Lst.region_last (ops1 := ?ops2) (o := ?op2) (S := fun w' => w'.cell? ⟨rb, 0, none⟩ = some (.pointer (some ⟨Pj.fb, 0, none⟩)) ∧ w'.cell? ⟨Pj.fb, 12, none⟩ = some (.slice av nr cv) ∧ w'.cell? ⟨cb, 0, none⟩ = some (.int .u16 c.flag) ∧ w'.cell? ⟨cb, 1, none⟩ = some (.int .i64 c.kind) ∧ w'.cell? ⟨cb, 2, none⟩ = some (.bool c.cross) ∧ w'.cell? ⟨cb, 3, none⟩ = some (.int .i64 (c.first : Nat)) ∧ w'.cell? ⟨cb, 4, none⟩ = some (.int .i64 (c.count : Nat))) (by kernel_rfl) ?hp2 ?hb2 ?hk2 (by exact ⟨d0, k12, c0, c1, c2, c3, c4⟩) ?hn2
     case hp2 => (simp only [List.pop_toArray, List.dropLast_cons_cons, List.dropLast_singleton]; rfl)
     case hb2 => (simp only [List.back?_toArray, List.getLast?_cons_cons, List.getLast?_singleton]; rfl)
     case hk2 => kernel_rfl
     intro hHeld
     refine Lst.tk 0 ?_
     (try simp only [Act.put, puts])
     refine Lst.tk 1 ?_
     (try simp only [Act.put])
     refine Lst.tk 2 ?_
     (try simp only [Act.put])
     refine Lst.tk 3 ?_
     (try simp only [Act.put])
     refine Lst.tk 4 ?_
     (try simp only [Act.put])
     refine Lst.tk 5 ?_
     (try simp only [Act.put])
     refine Lst.tk 6 ?_
     (try simp only [Act.put])
     refine Lst.tk 7 ?_
     (try simp only [Act.put])
     refine Lst.tk 8 ?_
     (try simp only [Act.put])
     refine Lst.tk 9 ?_
     (try simp only [Act.put])
     refine Lst.tk 10 ?_
     (try simp only [Act.put])
     refine Lst.tk 11 ?_
     (try simp only [Act.put])
     refine Lst.tk 12 ?_
     (try simp only [Act.put])
     refine Lst.tk 13 ?_
     (try simp only [Act.put])
     refine Lst.tk 14 ?_
     (try simp only [Act.put])
     refine wpAnyH_ready (rs := [15]) (by kernel_rfl) (by simp) ?_
     refine AllReadyH.cons (by simp only [List.getElem?_toArray, List.getElem?_cons_succ, List.getElem?_cons_zero]; rfl) (fun K hK => ?_) AllReadyH.nil
     go_simp
     go_wp2_with (go_at_call 118; refine (unhide HUO).mono ?_; rintro e w4 ⟨u, rfl, f4, b4'⟩; have b4 := ((Below.refl w2.heap.size w2).drew).trans b4'; have HB4 := hide b4; have HF4 := hide f4; have bb := fun q i (hb : q < w2.heap.size) => b4.cell (p := ⟨q, i, none⟩) hb; have d04 := (bb rb 0 (unhide HLT).1).trans d0; have k124 := (bb Pj.fb 12 (unhide HLT).2.1).trans k12; have c04 := (bb cb 0 (unhide HLT).2.2).trans c0; have c14 := (bb cb 1 (unhide HLT).2.2).trans c1; have c24 := (bb cb 2 (unhide HLT).2.2).trans c2; have c34 := (bb cb 3 (unhide HLT).2.2).trans c3; have c44 := (bb cb 4 (unhide HLT).2.2).trans c4; clear b4 b4' f4 bb)
     refine hK.out _ _ (⟨d04, k124, c04, c14, c24, c34, c44⟩) (fun hh3 => ?_)
     clear hK K
     (try simp only [Act.put, puts])
     obtain ⟨ao3, n3, c3', rfl⟩ : ∃ a m c, u = .slice a m c := by
      rcases unhide HF4 with ⟨q, -⟩ | ⟨gq, cq, curq, q, -⟩
      ·exact ⟨_, _, _, q⟩
      ·exact ⟨_, _, _, q⟩
     have hL4 := (unhide HL2).below (unhide HB4)
     have ho := hL4.at_.file.ruls
     rw [unhide HJ1, unhide HNR] at ho
     obtain ⟨av5, cv5, w5, hap, o5, k5, l5, b5⟩ := push1 (B := B) (w := w4) (X := w4.alloc (.cells (rulC r (.slice ao3 n3 c3')).toArray 76)) (t := 39) (v := Pj.vu) Tryz.underlying39 infoU rfl (by decide) ho hL4.at_.base ((Below.refl _ _).alloc (Nat.le_refl _) _) (alloc_new w4 _) rfl (by intro u hu; simp [rulC] at hu; rcases hu with rfl | rfl | rfl | rfl | rfl | rfl | rfl <;> rfl) (by omega) (by decide) 39
     rw [unhide HEV] at hap
     have HAP := hide hap
     have hB4 := (below_kept (unhide HB4) _ _ (unhide HB2)).trans (unhide HB2)
     have hB5 := (k5.cells _ _ _ _ hB4 (by decide)).trans hB4
     have HB5 := hide hB5
     obtain ⟨c05, c15, c25, c35, c45⟩ := cls_cells hB5
     have d05 : w5.cell? ⟨rb, 0, none⟩ = some (.pointer (some ⟨Pj.fb, 0, none⟩)) := (World.cell?_of_block (a := ⟨rb, 0, none⟩) (k5.cells _ _ _ _ hL4.at_.rdr (by decide))).trans d04
     have k125 : w5.cell? ⟨Pj.fb, 12, none⟩ = some (.slice av nr cv) := (World.cell?_of_block (a := ⟨Pj.fb, 12, none⟩) (k5.cells _ _ _ _ hL4.at_.file.fil (by decide))).trans k124
     have f5 : w5.frozen? ⟨Pj.fb, 12, none⟩ = false := by
      have := (k5.cells _ _ _ _ hL4.at_.file.fil (by decide)).trans hL4.at_.file.fil
      simp [World.frozen?, this]
     have hfb5 : Pj.fb < w5.heap.size := World.block_lt_of_cell? w5 ⟨Pj.fb, 12, none⟩ k125
     have bb := fun q i (hb : q < w4.heap.size) => ((Below.refl w4.heap.size w4).alloc (Nat.le_refl _) (.cells (rulC r (.slice ao3 n3 c3')).toArray 76)).cell (p := ⟨q, i, none⟩) hb
     have h04 := World.block_lt_of_cell? w4 ⟨cb, 0, none⟩ c04
     have d0a := (bb rb 0 (World.block_lt_of_cell? w4 ⟨rb, 0, none⟩ d04)).trans d04
     have k12a := (bb Pj.fb 12 (World.block_lt_of_cell? w4 ⟨Pj.fb, 12, none⟩ k124)).trans k124
     have c0a := (bb cb 0 h04).trans c04
     have c1a := (bb cb 1 h04).trans c14
     have c2a := (bb cb 2 h04).trans c24
     have c3a := (bb cb 3 h04).trans c34
     have c4a := (bb cb 4 h04).trans c44
     -- the lines
     have k56 : Kq [111] noM w5 (w5.setCell ⟨Pj.fb, 12, none⟩ (.slice av5 (nr + 1) cv5)) := .kp (kp_set w5 Pj.fb 12 _) ((k5.cells _ _ _ _ hL4.at_.file.fil (by decide)).trans hL4.at_.file.fil) (by simp)
     have k46 : Kq [76, 111] noM w4 (w5.setCell ⟨Pj.fb, 12, none⟩ (.slice av5 (nr + 1) cv5)) := (k5.wide (by decide) (fun _ x => x)).trans (k56.wide (by decide) (fun _ x => x))
     have hl := own_kq hL4.at_.lns k46 (by decide)
     rw [unhide HJ1, unhide HNR] at hl
     obtain ⟨al, cl, el, -, -⟩ := own_len hl
     have hB6 : B ≤ (w5.setCell ⟨Pj.fb, 12, none⟩ (.slice av5 (nr + 1) cv5)).heap.size := Nat.le_trans hL4.at_.base k46.size
     obtain ⟨al7, cl7, w7, hap7, o7, k7, l7, b7⟩ := push1 (B := B) (w := w5.setCell ⟨Pj.fb, 12, none⟩ (.slice av5 (nr + 1) cv5)) (X := ((w5.setCell ⟨Pj.fb, 12, none⟩ (.slice av5 (nr + 1) cv5)).alloc (.cells #[.int .i64 (R2.line : Nat)] 3)).drew) (t := 60) (v := Pj.vl) Tryz.underlying60 infoI rfl (by decide) hl hB6 (((Below.refl _ _).alloc (Nat.le_refl _) _).drew) (alloc_new _ _) rfl (by intro u hu; simp at hu; subst hu; rfl) (by omega) (by decide) 60
     rw [el] at hap7
     have HADD := hide ((unhide HL2).at_.addRule r (rule_line (unhide HRU)) (by rw [unhide HJ1, unhide HNR]; omega) (unhide HB4) (unhide HF4) k5 l5 (by rw [unhide HJ1, unhide HNR]; exact o5) k7 l7 (by rw [unhide HJ1, unhide HNR]; exact o7))
     have hr4 := hL4.at_.rdr
     have hr6 := (k46.cells _ _ _ _ hr4 (by decide)).trans hr4
     have hr7 := (k7.cells _ _ _ _ hr6 (by decide)).trans hr6
     obtain ⟨-, -, d24, -, -, d54, z4⟩ := hL4.at_.cells
     have d26 := (World.cell?_of_block (a := ⟨rb, 2, none⟩) (k46.cells _ _ _ _ hr4 (by decide))).trans d24
     have d56 := (World.cell?_of_block (a := ⟨rb, 5, none⟩) (k46.cells _ _ _ _ hr4 (by decide))).trans d54
     have d27 := (World.cell?_of_block (a := ⟨rb, 2, none⟩) (k7.cells _ _ _ _ hr6 (by decide))).trans d26
     have d57 := (World.cell?_of_block (a := ⟨rb, 5, none⟩) (k7.cells _ _ _ _ hr6 (by decide))).trans d56
     replace d56 : (w5.setCell ⟨Pj.fb, 12, none⟩ (.slice av5 (nr + 1) cv5)).cell? ⟨rb, 5, none⟩ = some (.slice al nr cl) := d56.trans (by rw [← el])
     replace d57 : w7.cell? ⟨rb, 5, none⟩ = some (.slice al nr cl) := d57.trans (by rw [← el])
     have f7 : w7.frozen? ⟨rb, 5, none⟩ = false := by simp [World.frozen?, hr7]
     have hrb7 := lt_some hr7
     have hrb6 := lt_some hr6
     have bb6 := fun i => (((Below.refl (w5.setCell ⟨Pj.fb, 12, none⟩ (.slice av5 (nr + 1) cv5)).heap.size (w5.setCell ⟨Pj.fb, 12, none⟩ (.slice av5 (nr + 1) cv5))).alloc (Nat.le_refl _) (.cells #[.int .i64 (R2.line : Nat)] 3)).drew).cell (p := ⟨rb, i, none⟩) hrb6
     have d2a := (bb6 2).trans d26
     have d5a := (bb6 5).trans d56
     have HB7 : Hid ((w7.setCell ⟨rb, 5, none⟩ (.slice al7 (nr + 1) cl7)).heap[cb]? = some (.cells (clsC c).toArray 48 (0, 0))) := by
      have e6 := (k56.cells _ _ _ _ hB5 (by decide)).trans hB5
      have e7 := (k7.cells _ _ _ _ e6 (by decide)).trans e6
      have hne : cb ≠ rb := by
       rintro rfl
       rw [hr7] at e7
       injection e7 with e7
       injection e7 with _ e7 _
       exact absurd e7 (by decide)
      exact (Below.heap_setCell w7 _ _ _ hne).trans e7
     have HAP7 := hide hap7
     clear ho hap o5 k5 l5 b5 hB4 hB5 bb k56 k46 hl hB6 hap7 o7 k7 l7 b7 hr4 hr6 hr7 d24 d54 z4 bb6 el hL4
     unfold rulC at HAP
     have H6 := hide (And.intro d56 d26)
     have H6a := hide (And.intro d5a d2a)
     have H7 := hide (And.intro d57 d27)
     have H7f := hide (And.intro f7 hrb7)
     have H5f := hide (And.intro f5 hfb5)
     have H5a := hide (And.intro d0a (And.intro k12a (And.intro c0a (And.intro c1a (And.intro c2a (And.intro c3a c4a))))))
     have H5 := hide (And.intro d05 (And.intro k125 (And.intro c05 (And.intro c15 (And.intro c25 (And.intro c35 c45))))))
     clear d56 d26 d5a d2a d57 d27 f7 hrb7 hrb6 f5 hfb5 d0a k12a c0a c1a c2a c3a c4a d05 k125 c05 c15 c25 c35 c45 h04 d04 k124 c04 c14 c24 c34 c44
     clear d0 d2 k12 c0 c1 c2 c3 c4
     refine wpAnyH_ready (rs := [16]) (by kernel_rfl) (by simp) ?_
     refine AllReadyH.cons (by simp only [List.getElem?_toArray, List.getElem?_cons_succ, List.getElem?_cons_zero]; rfl) (fun K hK => ?_) AllReadyH.nil
     go_simp
     refine hK.out _ _ (unhide H5a) (fun hh4 => ?_)
     clear hK K
     (try simp only [Act.put, puts])
     refine wpAnyH_ready (rs := [17]) (by kernel_rfl) (by simp) ?_
     refine AllReadyH.cons (by simp only [List.getElem?_toArray, List.getElem?_cons_succ, List.getElem?_cons_zero]; rfl) (fun K hK => ?_) AllReadyH.nil
     refine step_app (by rfl) _ _ _ (by rfl) _ _ _ _ (by rfl) (by rfl) (by exact unhide HAP) ?_
     refine hK.out _ _ (unhide H5) (fun hh5 => ?_)
     clear hK K
     (try simp only [Act.put, puts])
     refine Lst.tk 18 ?_
     (try simp only [Act.put, puts])
     refine Lst.tk 19 ?_
     (try simp only [Act.put])
     refine Lst.tk 20 ?_
     (try simp only [Act.put])
     refine wpAnyH_done (by kernel_rfl) ?_ _
     show Oper.wp _ _ _ _ _ _
     have k125 := (unhide H5).2.1
     obtain ⟨f5, hfb5⟩ := unhide H5f
     go_simp
     apply unhide HK0
     clear k125 f5 hfb5
     refine gen_world ?_
     intro V6 hV6
     rw [← hV6] at H6 H6a HAP7
     clear hV6 HAP H5 H5a H5f
     refine Lst.region_last (ops1 := ?ops3) (o := ?op3) (S := fun w' => w'.cell? ⟨rb, 5, none⟩ = some (.slice al nr cl) ∧ w'.cell? ⟨rb, 2, none⟩ = some (.int .i64 (R2.line : Nat))) (by kernel_rfl) ?hp3 ?hb3 ?hk3 (by exact unhide H6) ?hn3
     case hp3 => (simp only [List.pop_toArray, List.dropLast_cons_cons, List.dropLast_singleton]; rfl)
     case hb3 => (simp only [List.back?_toArray, List.getLast?_cons_cons, List.getLast?_singleton]; rfl)
     case hk3 => kernel_rfl
     intro hHeld
     refine Lst.tk 0 ?_
     (try simp only [Act.put, puts])
     refine Lst.tk 1 ?_
     (try simp only [Act.put])
     refine Lst.tk 2 ?_
     (try simp only [Act.put])
     refine Lst.tk 3 ?_
     (try simp only [Act.put])
     refine Lst.tk 4 ?_
     (try simp only [Act.put])
     refine Lst.tk 5 ?_
     (try simp only [Act.put])
     refine Lst.tk 6 ?_
     (try simp only [Act.put])
     refine Lst.tk 7 ?_
     (try simp only [Act.put])
     refine Lst.tk 8 ?_
     (try simp only [Act.put])
     refine wpAnyH_ready (rs := [9]) (by kernel_rfl) (by simp) ?_
     refine AllReadyH.cons (by simp only [List.getElem?_toArray, List.getElem?_cons_succ, List.getElem?_cons_zero]; rfl) (fun K hK => ?_) AllReadyH.nil
     go_simp
     refine hK.out _ _ (unhide H6a) (fun hh6 => ?_)
     clear hK K
     (try simp only [Act.put, puts])
     refine wpAnyH_ready (rs := [10]) (by kernel_rfl) (by simp) ?_
     refine AllReadyH.cons (by simp only [List.getElem?_toArray, List.getElem?_cons_succ, List.getElem?_cons_zero]; rfl) (fun K hK => ?_) AllReadyH.nil
     refine step_app (by rfl) _ _ _ (by rfl) _ _ _ _ (by rfl) (by rfl) (by exact unhide HAP7) ?_
     refine hK.out _ _ (unhide H7) (fun hh7 => ?_)
     clear hK K
     (try simp only [Act.put, puts])
     refine Lst.tk 11 ?_
     (try simp only [Act.put, puts])
     refine Lst.tk 12 ?_
     (try simp only [Act.put])
     refine wpAnyH_done (by kernel_rfl) ?_ _
     show Oper.wp _ _ _ _ _ _
     have d57 := (unhide H7).1
     obtain ⟨f7, hrb7⟩ := unhide H7f
     go_simp
     go_wp2
     go_roundw
     case rel => exact ⟨j + 1, by go_num, by omega, ⟨_, _, (unhide HL2).turn (unhide HADD) ⟨rfl, rfl, rfl⟩, unhide HB7, times_ok (unhide HT) (rulStep_ok (unhide HGR) (unhide HRU)), by simp [unhide HJ1]; omega⟩⟩
     case measure => simp [intOf]; omega
  ·obtain rfl : j = n := by omega
   have hltz : ¬ (j : Int) < (j : Int) := by omega
   obtain ⟨Rj, Pj, hL, hblk, ht, hjl⟩ := unhide HR
   have HL := hide hL
   have HXX := hide ((unhide HX).trans ht)
   clear HR hL ht hjl hblk HS
   go_wp2
   go_end0
   exact (unhide HL).yes (unhide HXX)
noncomputable def cls5 : Code := dropSeq 5 (Tryz.f89.body.getD .skip)
def withC (R : Rdr) (c : Cls) : Rdr := { R with file := { R.file with classes := R.file.classes ++ [c] } }
theorem cls_mid {B rb cb g cap : Nat} {R : Rdr} {P : Pts} {w V : World} {c : Cls} {hd : List Bs} {X : Except Er Rdr} (hR : RAt B V rb R P) (hK : Kt B P.pm P.hm w V) (hrow : StrRow B V (.slice (some ⟨g, 0, none⟩) 4 cap) (hd.map Fld.str)) (hM : Mx B w) (hB : V.heap[cb]? = some (.cells (clsC c).toArray 48 (0, 0))) (hnew : P.vc.ownBlock ≠ some cb)
  (hf1 : 1 ≤ c.flag ∧ c.flag ≤ 65535) (hf2 : findC R.file.classes c.flag = none) (hcn : R.file.classes.length ≤ 65536) (hlen : hd.length = 4) (hfew : R.file.rules.length + c.count ≤ 1024) (hX : X = times (rulStep [fld hd 0, fld hd 1] c) c.count (withC R c)) (hcap : 4 ≤ cap) (hcap2 : cap ≤ 9223372036854775807)
  (u2 u3 u4 u5 u7 u8 u9 u10 u11 u12 u13 u14 u15 u16 u17 u18 u19 u20 u21 u22 u23 u24 u25 u26 u27 u28 u29 u30 u31 u32 u33 u34 u35 u36 u37 u38 u39 u40 u41 u42 u43 u44 u45 u46 u47 u48 u49 u50 u51 u52 u53 u54 u55 u56 u57 u58 u59 u60 u61 u62 u63 u64 u65 u66 u67 u68 u69 u70 u71 u72 u73 u74 u75 u76 u77 u78 u79 u80 u81 u82 u83 u84 u85 u86 u87 u88 u89 u90 u91 u92 u93 u94 u95 u96 u97 u98 u99 u100 u101 u102 u103 u104 u105 u106 u107 u108 u109 u110 u111 u112 u113 u114 u115 u116 u117 u118 u119 u120 u121 u122 u123 u124 u125 u126 u127 u128 u129 u130 u131 u132 u133 u134 u135 u136 u137 u138 : Value) :
  Code.wp Tryz.prog cls5 (bodyPost Tryz.prog Tryz.f89 (Res B rb P w X)) ⟨#[ptr rb, .slice (some ⟨g, 0, none⟩) 4 cap, u2, u3, u4, u5, .pointer (some ⟨cb, 0, none⟩), u7, u8, u9, u10, u11, u12, u13, u14, u15, u16, u17, u18, u19, u20, u21, u22, u23, u24, u25, u26, u27, u28, u29, u30, u31, u32, u33, u34, u35, u36, u37, u38, u39, u40, u41, u42, u43, u44, u45, u46, u47, u48, u49, u50, u51, u52, u53, u54, u55, u56, u57, u58, u59, u60, u61, u62, u63, u64, u65, u66, u67, u68, u69, u70, u71, u72, u73, u74, u75, u76, u77, u78, u79, u80, u81, u82, u83, u84, u85, u86, u87, u88, u89, u90, u91, u92, u93, u94, u95, u96, u97, u98, u99, u100, u101, u102, u103, u104, u105, u106, u107, u108, u109, u110, u111, u112, u113, u114, u115, u116, u117, u118, u119, u120, u121, u122, u123, u124, u125, u126, u127, u128, u129, u130, u131, u132, u133, u134, u135, u136, u137, u138], []⟩ V := by
 have HCODE : cls5 = Code.seq (dropSeq 0 (match cls5 with | .seq a _ => a | c => c)) (Code.seq (match dropSeq 1 cls5 with | .seq a _ => a | c => c) cls7) := by kernel_rfl
 obtain ⟨d0, -, -, -, -, -, -⟩ := hR.cells
 obtain ⟨-, -, -, k11, -, k13, kz⟩ := hR.file.cells
 obtain ⟨ac, cc, ec, -, -⟩ := own_len hR.file.clss
 rw [ec] at k11
 obtain ⟨V3, hmu, m3, kp3, kq3, l3⟩ := putClass hR.file c hf1.1 hf1.2 hf2 hcn
 obtain ⟨nc, hnc⟩ : ∃ nc, R.file.classes.length = nc := ⟨_, rfl⟩
 rw [hnc] at k11 hmu
 obtain ⟨c0, c1, c2, c3, c4⟩ := cls_cells hB
 have npm1 : rb ≠ P.pm := fun e => by obtain ⟨n0, _, hm0⟩ := hR.file.plc; obtain ⟨es, c', e'⟩ := hm0.isMap; rw [← e, hR.rdr] at e'; cases e'
 have npm2 : P.fb ≠ P.pm := fun e => by obtain ⟨n0, _, hm0⟩ := hR.file.plc; obtain ⟨es, c', e'⟩ := hm0.isMap; rw [← e, hR.file.fil] at e'; cases e'
 have npm3 : cb ≠ P.pm := fun e => by obtain ⟨n0, _, hm0⟩ := hR.file.plc; obtain ⟨es, c', e'⟩ := hm0.isMap; rw [← e, hB] at e'; cases e'
 have hpm : ∀ b, b ≠ P.pm → b < V.heap.size → V3.heap[b]? = V.heap[b]? := fun b h1 h2 => kp3.2 b h2 h1
 have hB3 := (hpm cb npm3 (lt_some hB)).trans hB
 have hrd3 := (hpm rb npm1 hR.lt).trans hR.rdr
 have hfl3 := (hpm P.fb npm2 hR.file.lt).trans hR.file.fil
 have d03 := (World.cell?_of_block (a := ⟨rb, 0, none⟩) (hpm rb npm1 hR.lt)).trans d0
 have k113 := (World.cell?_of_block (a := ⟨P.fb, 11, none⟩) (hpm P.fb npm2 hR.file.lt)).trans k11
 have k133 := (World.cell?_of_block (a := ⟨P.fb, 13, none⟩) (hpm P.fb npm2 hR.file.lt)).trans k13
 obtain ⟨c03, c13, c23, c33, c43⟩ := cls_cells hB3
 -- the append
 have hBV3 : B ≤ V3.heap.size := Nat.le_trans hR.base kq3.size
 obtain ⟨av, cv, W5, hap, o5, k5, l5, b5⟩ := push1 (B := B) (w := V3) (X := (V3.alloc (.cells (clsC c).toArray 48)).drew) (t := 38) (v := P.vc) Tryz.underlying38 infoC rfl (by decide) (own_kq hR.file.clss kq3 (by simp)) hBV3 (((Below.refl _ _).alloc (Nat.le_refl _) _).drew) (alloc_new V3 _) rfl (by intro u hu; simp [clsC] at hu; rcases hu with rfl | rfl | rfl | rfl | rfl <;> rfl) (by omega) (by decide) 38
 rw [ec] at hap
 rw [hnc] at hap
 have HADD := hR.newClass c hf1 kq3 l3 m3 k5 l5 o5
 rw [hnc] at HADD
 have hB5 := (b5 cb (lt_some hB3) hnew).trans hB3
 obtain ⟨c05, c15, c25, c35, c45⟩ := cls_cells hB5
 have hrd5 := (k5.cells _ _ _ _ hrd3 (by decide)).trans hrd3
 have hfl5 := (k5.cells _ _ _ _ hfl3 (by decide)).trans hfl3
 have d05 := (World.cell?_of_block (a := ⟨rb, 0, none⟩) (k5.cells _ _ _ _ hrd3 (by decide))).trans d03
 have k115 := (World.cell?_of_block (a := ⟨P.fb, 11, none⟩) (k5.cells _ _ _ _ hfl3 (by decide))).trans k113
 have f5 : W5.frozen? ⟨P.fb, 11, none⟩ = false := by simp [World.frozen?, hfl5]
 have hfbn : P.fb ≠ cb := fun e => by rw [← e, hfl5] at hB5; injection hB5 with q; injection q with _ q _; exact absurd q (by decide)
 have bb := fun q i (hb : q < V3.heap.size) => (((Below.refl V3.heap.size V3).alloc (Nat.le_refl _) (.cells (clsC c).toArray 48)).drew).cell (p := ⟨q, i, none⟩) hb
 have h03 := lt_some hB3
 have H5 := hide (And.intro d05 (And.intro k115 (And.intro c05 (And.intro c15 (And.intro c25 (And.intro c35 c45))))))
 have HA := hide (And.intro ((bb rb 0 (lt_some hrd3)).trans d03) (And.intro ((bb P.fb 11 (lt_some hfl3)).trans k113) (And.intro ((bb cb 0 h03).trans c03) (And.intro ((bb cb 1 h03).trans c13) (And.intro ((bb cb 2 h03).trans c23) (And.intro ((bb cb 3 h03).trans c33) ((bb cb 4 h03).trans c43)))))))
 have H3 := hide (And.intro d03 (And.intro k113 (And.intro c03 (And.intro c13 (And.intro c23 (And.intro c33 c43))))))
 have H5f := hide (And.intro f5 (lt_some hfl5))
 have HLOOP : Hid (∀ W, W = W5.setCell ⟨P.fb, 11, none⟩ (.slice av (nc + 1) cv) → ∀ (u2 u3 u4 u5 u7 u8 u9 u10 u11 u12 u13 u14 u15 u16 u17 u18 u19 u20 u21 u22 u23 u24 u25 u26 u27 u28 u29 u30 u31 u32 u33 u34 u35 u36 u37 u38 u39 u40 u41 u42 u43 u44 u45 u46 u47 u48 u49 u50 u51 u52 u53 u54 u55 u56 u57 u58 u59 u60 u61 u62 u63 u64 u65 u66 u67 u68 u69 u70 u71 u72 u73 u74 u75 u76 u77 u78 u79 u80 u81 u82 u83 u84 u85 u86 u87 u88 u89 u90 u91 u92 u93 u94 u95 u96 u97 u98 u99 u100 u101 u102 u103 u104 u105 u106 u107 u108 u109 u110 u111 u112 u113 u114 u115 u116 u117 u118 u119 u120 u121 u122 u123 u124 u125 u126 u127 u128 u129 u130 u131 u132 u133 u134 u135 u136 u137 u138 : Value), Code.wp Tryz.prog cls7 (bodyPost Tryz.prog Tryz.f89 (Res B rb P w X)) ⟨#[ptr rb, .slice (some ⟨g, 0, none⟩) 4 cap, u2, u3, u4, u5, .pointer (some ⟨cb, 0, none⟩), u7, u8, u9, u10, u11, u12, u13, u14, u15, u16, u17, u18, u19, u20, u21, u22, u23, u24, u25, u26, u27, u28, u29, u30, u31, u32, u33, u34, u35, u36, u37, u38, u39, u40, u41, u42, u43, u44, u45, u46, u47, u48, u49, u50, u51, u52, u53, u54, u55, u56, u57, u58, u59, u60, u61, u62, u63, u64, u65, u66, u67, u68, u69, u70, u71, u72, u73, u74, u75, u76, u77, u78, u79, u80, u81, u82, u83, u84, u85, u86, u87, u88, u89, u90, u91, u92, u93, u94, u95, u96, u97, u98, u99, u100, u101, u102, u103, u104, u105, u106, u107, u108, u109, u110, u111, u112, u113, u114, u115, u116, u117, u118, u119, u120, u121, u122, u123, u124, u125, u126, u127, u128, u129, u130, u131, u132, u133, u134, u135, u136, u137, u138], []⟩ W) := by
  intro W hW u2 u3 u4 u5 u7 u8 u9 u10 u11 u12 u13 u14 u15 u16 u17 u18 u19 u20 u21 u22 u23 u24 u25 u26 u27 u28 u29 u30 u31 u32 u33 u34 u35 u36 u37 u38 u39 u40 u41 u42 u43 u44 u45 u46 u47 u48 u49 u50 u51 u52 u53 u54 u55 u56 u57 u58 u59 u60 u61 u62 u63 u64 u65 u66 u67 u68 u69 u70 u71 u72 u73 u74 u75 u76 u77 u78 u79 u80 u81 u82 u83 u84 u85 u86 u87 u88 u89 u90 u91 u92 u93 u94 u95 u96 u97 u98 u99 u100 u101 u102 u103 u104 u105 u106 u107 u108 u109 u110 u111 u112 u113 u114 u115 u116 u117 u118 u119 u120 u121 u122 u123 u124 u125 u126 u127 u128 u129 u130 u131 u132 u133 u134 u135 u136 u137 u138
  have hl : LP B rb w W (withC R c) { P with vc := .slice av (nc + 1) cv } P (.slice (some ⟨g, 0, none⟩) 4 cap) hd := by
   rw [hW]
   exact ⟨HADD.1, hK.trans HADD.2, HADD.2.str hrow, rfl, rfl, rfl⟩
  have hb : W.heap[cb]? = some (.cells (clsC c).toArray 48 (0, 0)) := by
   rw [hW]
   exact (Below.heap_setCell _ _ _ _ (fun e => hfbn e.symm)).trans hB5
  exact cls_loop hl hM hb hlen hfew hX hcap hcap2 u2 u3 u4 u5 u7 u8 u9 u10 u11 u12 u13 u14 u15 u16 u17 u18 u19 u20 u21 u22 u23 u24 u25 u26 u27 u28 u29 u30 u31 u32 u33 u34 u35 u36 u37 u38 u39 u40 u41 u42 u43 u44 u45 u46 u47 u48 u49 u50 u51 u52 u53 u54 u55 u56 u57 u58 u59 u60 u61 u62 u63 u64 u65 u66 u67 u68 u69 u70 u71 u72 u73 u74 u75 u76 u77 u78 u79 u80 u81 u82 u83 u84 u85 u86 u87 u88 u89 u90 u91 u92 u93 u94 u95 u96 u97 u98 u99 u100 u101 u102 u103 u104 u105 u106 u107 u108 u109 u110 u111 u112 u113 u114 u115 u116 u117 u118 u119 u120 u121 u122 u123 u124 u125 u126 u127 u128 u129 u130 u131 u132 u133 u134 u135 u136 u137 u138
 have HAP := hide hap
 have hmu' : (Instr.mapUpdate 109 (.map (some P.pm)) (.int .u16 c.flag) (.int .i64 (nc : Nat))).run Tryz.prog V.drew = .ok () V3 := hmu
 have HCL : Hid (clsC c = [.int .u16 c.flag, .int .i64 c.kind, .bool c.cross, .int .i64 (c.first : Nat), .int .i64 (c.count : Nat)]) := rfl
 clear HADD hR hK hrow hM hB hnew hf1 hf2 hcn hlen hfew hX ec hnc m3 kp3 kq3 l3 npm1 npm2 npm3 hpm hB3 hrd3 hfl3 hap o5 k5 l5 b5 hB5 c05 c15 c25 c35 c45 hrd5 hfl5 d05 k115 f5 hfbn bb h03 hBV3 kz hmu c1 c2 c3 c4 c13 c23 c33 c43
 rw [HCODE]
 clear HCODE
 refine wp_seq_k (fun K5 hK5 => ?_)
 conv => arg 2; whnf
 have dd0 : V.drew.cell? ⟨rb, 0, none⟩ = _ := d0
 have dd13 : V.drew.cell? ⟨P.fb, 13, none⟩ = _ := k13
 have dd11 : V.drew.cell? ⟨P.fb, 11, none⟩ = _ := k11
 have ddc : V.drew.cell? ⟨cb, 0, none⟩ = some (.int .u16 c.flag) := c0
 clear d0 k13 k11 c0
 go_region_held2 (fun w' => w'.cell? ⟨rb, 0, none⟩ = some (.pointer (some ⟨P.fb, 0, none⟩)) ∧ w'.cell? ⟨P.fb, 13, none⟩ = some (.map (some P.pm)) ∧ w'.cell? ⟨P.fb, 11, none⟩ = some (.slice ac nc cc) ∧ w'.cell? ⟨cb, 0, none⟩ = some (.int .u16 c.flag)) (first | (with_reducible exact ⟨d03, k133, k113, c03⟩) | (with_reducible exact ⟨dd0, dd13, dd11, ddc⟩)) (fail)
 show K5 _ _
 apply hK5
 clear hmu' dd0 dd13 dd11 ddc k133 c03 d03 k113 hK5 K5
 refine wp_seq_k (fun K6 hK6 => ?_)
 have HK6 := hide hK6
 clear hK6
 conv => arg 2; whnf
 refine Lst.region_last (ops1 := ?ops1) (o := ?op1) (S := fun w' => w'.cell? ⟨rb, 0, none⟩ = some (.pointer (some ⟨P.fb, 0, none⟩)) ∧ w'.cell? ⟨P.fb, 11, none⟩ = some (.slice ac nc cc) ∧ w'.cell? ⟨cb, 0, none⟩ = some (.int .u16 c.flag) ∧ w'.cell? ⟨cb, 1, none⟩ = some (.int .i64 c.kind) ∧ w'.cell? ⟨cb, 2, none⟩ = some (.bool c.cross) ∧ w'.cell? ⟨cb, 3, none⟩ = some (.int .i64 (c.first : Nat)) ∧ w'.cell? ⟨cb, 4, none⟩ = some (.int .i64 (c.count : Nat))) (by kernel_rfl) ?hp1 ?hb1 ?hk1 (by exact unhide H3) ?hn1
 case hp1 => (simp only [List.pop_toArray, List.dropLast_cons_cons, List.dropLast_singleton]; rfl)
 case hb1 => (simp only [List.back?_toArray, List.getLast?_cons_cons, List.getLast?_singleton]; rfl)
 case hk1 => kernel_rfl
 intro hHeld
 refine Lst.tk 0 ?_
 (try simp only [Act.put, List.setIfInBounds_toArray])
 refine Lst.tk 1 ?_
 (try simp only [Act.put])
 refine Lst.tk 2 ?_
 (try simp only [Act.put])
 refine Lst.tk 3 ?_
 (try simp only [Act.put])
 refine Lst.tk 4 ?_
 (try simp only [Act.put])
 refine Lst.tk 5 ?_
 (try simp only [Act.put])
 refine Lst.tk 6 ?_
 (try simp only [Act.put])
 refine Lst.tk 7 ?_
 (try simp only [Act.put])
 refine Lst.tk 8 ?_
 (try simp only [Act.put])
 refine Lst.tk 9 ?_
 (try simp only [Act.put])
 refine Lst.tk 10 ?_
 (try simp only [Act.put])
 refine Lst.tk 11 ?_
 (try simp only [Act.put])
 refine Lst.tk 12 ?_
 (try simp only [Act.put])
 rw [unhide HCL] at HA HAP
 refine wpAnyH_ready (rs := [13]) (by kernel_rfl) (by simp) ?_
 refine AllReadyH.cons (by simp only [List.getElem?_toArray, List.getElem?_cons_succ, List.getElem?_cons_zero]; rfl) (fun K hK => ?_) AllReadyH.nil
 go_simp
 refine hK.out _ _ (unhide HA) (fun hh4 => ?_)
 clear hK K
 (try simp only [Act.put, List.setIfInBounds_toArray, List.set_cons_zero, List.set_cons_succ])
 refine wpAnyH_ready (rs := [14]) (by kernel_rfl) (by simp) ?_
 refine AllReadyH.cons (by simp only [List.getElem?_toArray, List.getElem?_cons_succ, List.getElem?_cons_zero]; rfl) (fun K hK => ?_) AllReadyH.nil
 refine step_app (by rfl) _ _ _ (by rfl) _ _ _ _ (by rfl) (by rfl) (by exact unhide HAP) ?_
 refine hK.out _ _ (unhide H5) (fun hh5 => ?_)
 clear hK K
 (try simp only [Act.put, List.setIfInBounds_toArray, List.set_cons_zero, List.set_cons_succ])
 refine Lst.tk 15 ?_
 (try simp only [Act.put, List.setIfInBounds_toArray])
 refine Lst.tk 16 ?_
 (try simp only [Act.put])
 refine Lst.tk 17 ?_
 (try simp only [Act.put])
 refine wpAnyH_done (by kernel_rfl) ?_ _
 show Oper.wp _ _ _ _ _ _
 have k125 := (unhide H5).2.1
 obtain ⟨f5, hfb5⟩ := unhide H5f
 go_simp
 apply unhide HK6
 exact unhide HLOOP _ rfl _ _ _ _ _ _ _ _ _ _ _ _ _ _ _ _ _ _ _ _ _ _ _ _ _ _ _ _ _ _ _ _ _ _ _ _ _ _ _ _ _ _ _ _ _ _ _ _ _ _ _ _ _ _ _ _ _ _ _ _ _ _ _ _ _ _ _ _ _ _ _ _ _ _ _ _ _ _ _ _ _ _ _ _ _ _ _ _ _ _ _ _ _ _ _ _ _ _ _ _ _ _ _ _ _ _ _ _ _ _ _ _ _ _ _ _ _ _ _ _ _ _ _ _ _ _ _ _ _ _ _ _ _ _ _ _
theorem doClass_f {k : Int} {R : Rdr} {hd : List Bs} {e : Er} (h : newFlag R (fld hd 1) = .error e) : doClass k R hd = .error e := by unfold doClass; rw [h]
theorem doClass_v {k x : Int} {R : Rdr} {hd : List Bs} (h : newFlag R (fld hd 1) = .ok x) (h2 : fld hd 2 ≠ [89] ∧ fld hd 2 ≠ [78]) : doClass k R hd = .error (R.line, 114) := by unfold doClass; rw [h]; simp [h2]
theorem doClass_n {k x : Int} {R : Rdr} {hd : List Bs} {e : Er} (h : newFlag R (fld hd 1) = .ok x) (h2 : ¬ (fld hd 2 ≠ [89] ∧ fld hd 2 ≠ [78])) (h3 : numb R.line (fld hd 3) 1024 = .error e) : doClass k R hd = .error e := by
 unfold doClass
 rw [h]
 simp only
 rw [if_neg h2, h3]
theorem doClass_m {k x : Int} {R : Rdr} {hd : List Bs} {n : Nat} (h : newFlag R (fld hd 1) = .ok x) (h2 : ¬ (fld hd 2 ≠ [89] ∧ fld hd 2 ≠ [78])) (h3 : numb R.line (fld hd 3) 1024 = .ok n) (h4 : 1024 < R.file.rules.length + n) : doClass k R hd = .error (R.line, 117) := by
 unfold doClass
 rw [h]
 simp only
 rw [if_neg h2, h3]
 simp only
 rw [if_pos h4]
def cls (k x : Int) (R : Rdr) (hd : List Bs) (n : Nat) : Cls := ⟨x, k, fld hd 2 == [89], R.file.rules.length, n⟩
theorem doClass_t {k x : Int} {R : Rdr} {hd : List Bs} {n : Nat} (h : newFlag R (fld hd 1) = .ok x) (h2 : ¬ (fld hd 2 ≠ [89] ∧ fld hd 2 ≠ [78])) (h3 : numb R.line (fld hd 3) 1024 = .ok n) (h4 : ¬ 1024 < R.file.rules.length + n) : doClass k R hd = times (rulStep [fld hd 0, fld hd 1] (cls k x R hd n)) n (withC R (cls k x R hd n)) := by
 unfold doClass
 rw [h]
 simp only
 rw [if_neg h2, h3]
 simp only
 rw [if_neg h4]
 rfl
theorem zero33 {w w2 : World} (b : Below (w.alloc (.cells #[.int .u16 0, .int .i64 0, .bool false, .int .i64 0, .int .i64 0] 48)).drew.heap.size (w.alloc (.cells #[.int .u16 0, .int .i64 0, .bool false, .int .i64 0, .int .i64 0] 48)).drew w2) : w2.heap[w.heap.size]? = some (.cells #[.int .u16 0, .int .i64 0, .bool false, .int .i64 0, .int .i64 0] 48 (0, 0)) :=
 (b.block w.heap.size (by show w.heap.size < (w.alloc _).heap.size; simp)).trans (alloc_new w _)
theorem cells33 {w2 : World} {g : Nat} {a b c d e : Value} {t : TypeId} (h : w2.heap[g]? = some (.cells #[a, b, c, d, e] t (0, 0))) : w2.cell? ⟨g, 0, none⟩ = some a ∧ w2.cell? ⟨g, 1, none⟩ = some b ∧ w2.cell? ⟨g, 2, none⟩ = some c ∧ w2.cell? ⟨g, 3, none⟩ = some d ∧ w2.cell? ⟨g, 4, none⟩ = some e ∧ ∀ k, w2.frozen? ⟨g, k, none⟩ = false := by
 simp [World.cell?, World.frozen?, h]
theorem keep5 {w : World} {b : Nat} {a : Addr} {u x0 x1 x2 x3 x4 : Value} (h : w.cell? a = some u) (hne : b ≠ a.block) : (((((w.setCell ⟨b, 0, none⟩ x0).setCell ⟨b, 1, none⟩ x1).setCell ⟨b, 2, none⟩ x2).setCell ⟨b, 3, none⟩ x3).setCell ⟨b, 4, none⟩ x4).cell? a = some u := by
 rw [World.cell?_setCell_far _ _ _ _ hne, World.cell?_setCell_far _ _ _ _ hne, World.cell?_setCell_far _ _ _ _ hne, World.cell?_setCell_far _ _ _ _ hne, World.cell?_setCell_far _ _ _ _ hne]
 exact h
theorem calls_ok {g : FuncId} {args : Array Value} {w W : World} {v : Value} {Q : Ending → World → Prop} (b : Below w.heap.size w W) (h : ∀ W, Below w.heap.size w W → Calls Tryz.prog g args W fun e w' => e = .returned v ∧ Below W.heap.size W w') (k : ∀ w', Below w.heap.size w w' → Below W.heap.size W w' → Q (.returned v) w') : Calls Tryz.prog g args W Q :=
 (h W b).mono fun e w' q => by rw [q.1]; exact k w' (b.trans (q.2.mono b.size)) q.2
theorem readClass_any {B rb : Nat} {R : Rdr} {P : Pts} {w : World} (h : RAt B w rb R P) (hM : Mx B w) (k : Int) (hd : List Bs) (hv : Value) (hrow : StrRow B w hv (hd.map Fld.str)) (hlen : hd.length = 4) (hf : ∀ f ∈ hd, f.length ≤ 65536) (hcn : R.file.classes.length ≤ 65536) :
  Calls Tryz.prog 89 #[ptr rb, hv, .int .i64 k] w (Res B rb P w (doClass k R hd)) := by
 obtain ⟨d0, -, hl, -, -, -, -⟩ := h.cells
 obtain ⟨-, -, -, -, k12, -, -⟩ := h.file.cells
 have hb := h.lt
 have hfb := h.file.lt
 have HH := hide h
 have HRow := hide hrow
 obtain ⟨g, cap, rfl, hg, h1, h2, -, hcl⟩ := str_cells hrow
 unfold maxLen at h2
 have q1 := hcl 1 _ (fld_get (by omega))
 have hf1 := hf _ (List.mem_of_getElem? (fld_get (row := hd) (i := 1) (by omega)))
 obtain ⟨au, cu, eu, -, -⟩ := own_len h.file.ruls
 rw [eu] at k12
 have HN := hide (fun W (b : Below w.heap.size w W) => newFlag_all (h.below b) (Fld.str (fld hd 1)) (by rw [fstr_wd, Wd.str_size]; omega))
 have e1 : (Fld.str (fld hd 1)).data.toList = fld hd 1 := by simp [Fld.str]
 rw [e1] at HN
 have HHD := hide hf
 have HCN := hide hcn
 have HMX := hide hM
 clear hcn
 have HLN := hide hlen
 have HCL := hide hcl
 have HRW4 : Hid (StrRow B w (.slice (some ⟨g, 0, none⟩) 4 cap) (hd.map Fld.str)) := by rw [← hlen]; exact hrow
 rw [hlen] at h1 ⊢
 clear hcl hf hf1 e1 hrow hlen
 cases hn : newFlag R (fld hd 1) with
 | error er =>
  have HX := hide (doClass_f (k := k) hn)
  have HNN := hide (fun W b => noOf (unhide HN W b) hn)
  clear HN hn h hM eu hl
  generalize Fld.str (fld hd 1) = r1 at *
  generalize R.file.rules.length = nr at *
  go_enter Tryz.func89, Tryz.ntmps89
  go_wp2_with fail
  go_region_held2 (fun w' => w'.cell? ⟨rb, 0, none⟩ = some (.pointer (some ⟨P.fb, 0, none⟩)) ∧ w'.cell? ⟨P.fb, 12, none⟩ = some (.slice au nr cu) ∧ w'.cell? ⟨g, 1, none⟩ = some (.string r1)) (first | exact ⟨d0, k12, q1⟩ | go_keep) (first | (go_at_call 113; refine calls_no2 (.int .u16 0) (by (repeat (first | exact Below.refl _ _ | refine Below.drew ?_ | refine Below.alloc ?_ (by first | (simp; done) | (simp; omega)) _ | refine Below.setCell ?_ (by first | (simp; done) | (simp; omega)) _))) (unhide HNN) (fun w4 b4 => ⟨rfl, Res.no (unhide HX) (Kt.of_below b4 (unhide HH).base)⟩) ?_; intro HF))
  all_goals exact (unhide HF).elim
 | ok x =>
  have HNN := hide (fun W b => okOf (unhide HN W b) hn)
  unfold flgV at HNN
  have HNO := hide hn
  clear HN hn h hM eu hl
  generalize Fld.str (fld hd 1) = r1 at *
  obtain ⟨nr, hnr⟩ : ∃ nr, R.file.rules.length = nr := ⟨_, rfl⟩
  rw [hnr] at k12
  have HNR := hide hnr
  clear hnr
  have HN1 : Hid (w.heap.size ≠ rb) := Nat.ne_of_gt hb
  have HN2 : Hid (w.heap.size ≠ P.fb) := Nat.ne_of_gt hfb
  have HN3 : Hid (w.heap.size ≠ g) := Nat.ne_of_gt hg
  go_enter Tryz.func89, Tryz.ntmps89
  go_wp2_with fail
  rename_i K hK
  have TAIL : Hid (∀ cb V, Hid (Below w.heap.size w V ∧ w.heap.size ≤ cb ∧ V.heap[cb]? = some (.cells #[.int .u16 x, .int .i64 k, .bool false, .int .i64 (nr : Nat), .int .i64 0] 48 (0, 0))) → K { tmps := #[ptr rb, .slice (some ⟨g, 0, none⟩) 4 cap, .int .i64 k, undef, undef, undef, .pointer (some ⟨cb, 0, none⟩), undef, .int .i64 k, ptr rb, .slice (some ⟨g, 0, none⟩) 4 cap, .pointer (some ⟨g, 1, none⟩), .string r1, .int .u16 x, ptr rb, .pointer (some ⟨rb, 0, none⟩), .pointer (some ⟨rb, 0, none⟩), .pointer (some ⟨P.fb, 0, none⟩), .pointer (some ⟨P.fb, 0, none⟩), .pointer (some ⟨P.fb, 0, none⟩), .pointer (some ⟨P.fb, 12, none⟩), .slice au nr cu, .int .i64 (nr : Nat), .agg #[.int .u16 x, .int .i64 k, .bool false, .int .i64 (nr : Nat), .int .i64 0], undef, undef, undef, undef, undef, undef, undef, undef, undef, undef, undef, undef, undef, undef, undef, undef, undef, undef, undef, undef, undef, undef, undef, undef, undef, undef, undef, undef, undef, undef, undef, undef, undef, undef, undef, undef, undef, undef, undef, undef, undef, undef, undef, undef, undef, undef, undef, undef, undef, undef, undef, undef, undef, undef, undef, undef, undef, undef, undef, undef, undef, undef, undef, undef, undef, undef, undef, undef, undef, undef, undef, undef, undef, undef, undef, undef, undef, undef, undef, undef, undef, undef, undef, undef, undef, undef, undef, undef, undef, undef, undef, undef, undef, undef, undef, undef, undef, undef, undef, undef, undef, undef, undef, undef, undef, undef, undef, undef, undef, undef, undef, undef, undef, undef, undef], defers := [] } V) := by
   intro cb V hT
   obtain ⟨bV, hnew, hblk⟩ := unhide hT
   apply hK
   clear hK hT
   clear K
   have HBV := hide bV
   have HBLK := hide hblk
   have q2 := (bV.cell (p := ⟨g, 2, none⟩) hg).trans (unhide HCL 2 _ (fld_get (by rw [unhide HLN]; decide)))
   have q3 := (bV.cell (p := ⟨g, 3, none⟩) hg).trans (unhide HCL 3 _ (fld_get (by rw [unhide HLN]; decide)))
   have hf3 := unhide HHD _ (List.mem_of_getElem? (fld_get (row := hd) (i := 3) (by rw [unhide HLN]; decide)))
   obtain ⟨c0, c1, c2, c3, c4, cf⟩ := cells33 hblk
   have hcbl := lt_some hblk
   have HNE : Hid (cb ≠ g) := by have := hg; exact fun e => by omega
   have e2 : (Fld.str (fld hd 2)).toList = fld hd 2 := by rw [Lib.toList_data]; simp [Fld.str]
   clear d0 k12 q1 bV hblk HNN
   by_cases hyn : fld hd 2 ≠ [89] ∧ fld hd 2 ≠ [78]
   ·
    have HX := hide (doClass_v (k := k) (unhide HNO) hyn)
    have y1 : ((Fld.str (fld hd 2)).toList == [89]) = false := by rw [e2]; simpa using hyn.1
    have y2 : ((Fld.str (fld hd 2)).toList == [78]) = false := by rw [e2]; simpa using hyn.2
    have HV := hide (leaveIf_no rb R.line 114 V (by decide) (by decide) ((unhide HH).below (unhide HBV)).cells.2.2.1)
    clear hyn e2
    generalize Fld.str (fld hd 2) = r2 at *
    go_wp2_with (go_at_call 91; refine (unhide HV).mono ?_; rintro e w4 ⟨rfl, rfl⟩)
    exact ⟨rfl, Res.no (unhide HX) (Kt.of_below (unhide HBV) (unhide HH).base)⟩
   ·have HY := hide hyn
    have HYN : Hid ((((Fld.str (fld hd 2)).toList == [89]) = true ∧ (fld hd 2 == [89]) = true) ∨ (((Fld.str (fld hd 2)).toList == [89]) = false ∧ ((Fld.str (fld hd 2)).toList == [78]) = true ∧ (fld hd 2 == [89]) = false)) := by
     rw [Hid, e2]
     by_cases q : fld hd 2 = [89]
     ·exact .inl ⟨by simpa using q, by simpa using q⟩
     ·refine .inr ⟨by simpa using q, ?_, by simpa using q⟩
      have : fld hd 2 = [78] := Classical.byContradiction fun z => hyn ⟨q, z⟩
      simpa using this
    clear hyn e2
    have HNU := hide (fun W (b : Below w.heap.size w W) => number_any rb R.line (Fld.str (fld hd 3)) 1024 W (by rw [fstr_wd, Wd.str_size]; omega) (by decide) ((unhide HH).below b).cells.2.2.1)
    have e3 : (Fld.str (fld hd 3)).data.toList = fld hd 3 := by simp [Fld.str]
    rw [e3] at HNU
    clear e3 hf3
    generalize Fld.str (fld hd 2) = r2 at *
    generalize Fld.str (fld hd 3) = r3 at *
    have b2 : ∀ v, Below w.heap.size w (V.setCell ⟨cb, 2, none⟩ v) := fun v => (unhide HBV).setCell (p := ⟨cb, 2, none⟩) hnew v
    have HB2 := hide b2
    clear b2
    have q3s : ∀ v, (V.setCell ⟨cb, 2, none⟩ v).cell? ⟨g, 3, none⟩ = some (.string r3) := fun v => by rw [World.cell?_setCell_far _ _ _ _ (unhide HNE)]; exact q3
    cases hnum : numb R.line (fld hd 3) 1024 with
    | error er =>
     have HX := hide (doClass_n (k := k) (unhide HNO) (unhide HY) hnum)
     have HNO2 := hide (fun W b => noOf (unhide HNU W b) hnum)
     clear HNU hnum
     rcases unhide HYN with ⟨y1, y3⟩ | ⟨y1, y2, y3⟩
     all_goals
      clear HYN y3
      go_wp2_with (first | (go_at_call 91; with_reducible (show Calls _ _ #[_, .bool false, .int .i64 114] _ _); refine (leaveIf_ok _ _ _).mono ?_; rintro e w4 ⟨rfl, rfl⟩) | (go_at_call 114; refine (unhide HNO2 _ (unhide HB2 _)).mono ?_; rintro e w4 ⟨rfl, rfl⟩))
      exact ⟨rfl, Res.no (unhide HX) (Kt.of_below (unhide HB2 _) (unhide HH).base)⟩
    | ok n =>
     have HNO2 := hide (fun W b => okOf (unhide HNU W b) hnum)
     have HNB := hide (numb_le hnum)
     by_cases h4 : 1024 < R.file.rules.length + n
     ·
      have HX := hide (doClass_m (k := k) (unhide HNO) (unhide HY) hnum h4)
      have hn1 := unhide HNB
      have hr1 := (unhide HH).file.ok.rul
      rw [unhide HNR] at h4 hr1
      have h4i : (1024 : Int) < (nr : Int) + (n : Int) := by omega
      clear HNU hnum h4
      rcases unhide HYN with ⟨y1, y3⟩ | ⟨y1, y2, y3⟩
      all_goals
       clear HYN y3
       go_wp2_with (first | (go_at_call 91; with_reducible (show Calls _ _ #[_, .bool false, .int .i64 114] _ _); refine (leaveIf_ok _ _ _).mono ?_; rintro e w4 ⟨rfl, rfl⟩) | (go_at_call 114; refine (unhide HNO2 _ (unhide HB2 _)).mono ?_; rintro e w4 ⟨rfl, rfl⟩))
       have b4 := fun v u => (unhide HB2 v).setCell (p := ⟨cb, 4, none⟩) hnew u
       refine (leaveIf_no rb R.line 117 _ (by decide) (by decide) ((unhide HH).below (b4 _ _)).cells.2.2.1).mono ?_
       rintro e w5 ⟨rfl, rfl⟩
       exact ⟨rfl, Res.no (unhide HX) (Kt.of_below (b4 _ _) (unhide HH).base)⟩
     ·have HX := hide (doClass_t (k := k) (unhide HNO) (unhide HY) hnum h4)
      have hn1 := unhide HNB
      have hr1 := (unhide HH).file.ok.rul
      rw [unhide HNR] at h4 hr1
      have h4i : ¬ (1024 : Int) < (nr : Int) + (n : Int) := by omega
      have HS4 := hide h4
      clear HNU hnum h4
      have HCR : Hid (∀ cr V2, (fld hd 2 == [89]) = cr → V2 = (V.setCell ⟨cb, 2, none⟩ (.bool cr)).setCell ⟨cb, 4, none⟩ (.int .i64 (n : Nat)) → Below w.heap.size w V2 ∧ V2.heap[cb]? = some (.cells (clsC (cls k x R hd n)).toArray 48 (0, 0))) := by
       rintro cr V2 hcr rfl
       refine ⟨(unhide HB2 _).setCell (p := ⟨cb, 4, none⟩) hnew _, ?_⟩
       rw [set_heap1 (set_heap1 (unhide HBLK) _)]
       simp [clsC, cls, hcr, unhide HNR]
      rcases unhide HYN with ⟨y1, y3⟩ | ⟨y1, y2, y3⟩
      all_goals
       have HY3 := hide y3
       clear HYN y3
       go_wp2_with (first | (go_at_call 91; with_reducible (show Calls _ _ #[_, .bool false, .int .i64 114] _ _); refine (leaveIf_ok _ _ _).mono ?_; rintro e w4 ⟨rfl, rfl⟩) | (go_at_call 114; refine (unhide HNO2 _ (unhide HB2 _)).mono ?_; rintro e w4 ⟨rfl, rfl⟩))
       refine (leaveIf_f _ _ _ _ (by simp; omega)).mono ?_
       rintro e w5 ⟨rfl, hw5⟩
       rename_i K3 hK3 K2 hK2
       subst w5
       apply hK2
       refine hK3 _ _ ?_
       obtain ⟨bV2, blk2⟩ := unhide HCR _ _ (unhide HY3) rfl
       obtain ⟨x1, x2, x3, x4⟩ := newFlag_pos (unhide HNO)
       refine cls_mid (c := cls k x R hd n) (hd := hd) ((unhide HH).below bV2) (Kt.of_below bV2 (unhide HH).base) (str_kept (unhide HRW4) (below_kept bV2)) (unhide HMX) blk2 ?_ ⟨x1, x2⟩ x3 (unhide HCN) (unhide HLN) ?_ ?_ h1 (by omega) _ _ _ _ _ _ _ _ _ _ _ _ _ _ _ _ _ _ _ _ _ _ _ _ _ _ _ _ _ _ _ _ _ _ _ _ _ _ _ _ _ _ _ _ _ _ _ _ _ _ _ _ _ _ _ _ _ _ _ _ _ _ _ _ _ _ _ _ _ _ _ _ _ _ _ _ _ _ _ _ _ _ _ _ _ _ _ _ _ _ _ _ _ _ _ _ _ _ _ _ _ _ _ _ _ _ _ _ _ _ _ _ _ _ _ _ _ _ _ _ _ _ _ _ _ _ _ _ _ _ _ _ _ _ _ _
       ·intro e
        have := ((unhide HH).file.clss.lt cb e).2
        omega
       ·show R.file.rules.length + n ≤ 1024
        rw [unhide HNR]; omega
       ·exact unhide HX
  clear hK
  go_region_held2 (fun w' => w'.cell? ⟨rb, 0, none⟩ = some (.pointer (some ⟨P.fb, 0, none⟩)) ∧ w'.cell? ⟨P.fb, 12, none⟩ = some (.slice au nr cu) ∧ w'.cell? ⟨g, 1, none⟩ = some (.string r1)) (first | (with_reducible exact ⟨d0', k12', q1'⟩) | (with_reducible exact ⟨keep5 d0' (unhide HN1), keep5 k12' (unhide HN2), keep5 q1' (unhide HN3)⟩) | (with_reducible exact ⟨d0, k12, q1⟩) | go_keep) (first | (go_at_call 113; with_reducible (show Calls _ _ _ (World.drew (World.alloc _ _)) _); refine calls_ok (by (repeat (first | exact Below.refl _ _ | refine Below.drew ?_ | refine Below.alloc ?_ (by first | (simp; done) | (simp; omega)) _ | refine Below.setCell ?_ (by first | (simp; done) | (simp; omega)) _))) (unhide HNN) ?_; intro w2 b2 b3; have HB2 := hide b2; have HZ := hide (zero33 b3); obtain ⟨z0, z1, z2, z3, z4, zf⟩ := cells33 (unhide HZ); have hz2 := lt_some (unhide HZ); have d0' := (b2.cell (p := ⟨rb, 0, none⟩) hb).trans d0; have k12' := (b2.cell (p := ⟨P.fb, 12, none⟩) hfb).trans k12; have q1' := (b2.cell (p := ⟨g, 1, none⟩) hg).trans q1; clear b2 b3) | (go_at_call 113; refine calls_ok (by (repeat (first | exact Below.refl _ _ | refine Below.drew ?_ | refine Below.alloc ?_ (by first | (simp; done) | (simp; omega)) _ | refine Below.setCell ?_ (by first | (simp; done) | (simp; omega)) _))) (unhide HNN) ?_; intro w2 b2 b3; have HB2 := hide b2; have HZ : Hid True := trivial; have d0' := (b2.cell (p := ⟨rb, 0, none⟩) hb).trans d0; have k12' := (b2.cell (p := ⟨P.fb, 12, none⟩) hfb).trans k12; have q1' := (b2.cell (p := ⟨g, 1, none⟩) hg).trans q1; clear b2 b3))
  ·exact unhide TAIL w2.heap.size _ ⟨(unhide HB2).alloc (unhide HB2).size _, (unhide HB2).size, alloc_new w2 _⟩
  ·refine unhide TAIL w.heap.size _ ⟨?_, Nat.le_refl _, ?_⟩
   ·exact (((((unhide HB2).setCell (p := ⟨w.heap.size, 0, none⟩) (Nat.le_refl _) _).setCell (p := ⟨w.heap.size, 1, none⟩) (Nat.le_refl _) _).setCell (p := ⟨w.heap.size, 2, none⟩) (Nat.le_refl _) _).setCell (p := ⟨w.heap.size, 3, none⟩) (Nat.le_refl _) _).setCell (p := ⟨w.heap.size, 4, none⟩) (Nat.le_refl _) _
   ·exact set_heap1 (set_heap1 (set_heap1 (set_heap1 (set_heap1 (unhide HZ) _) _) _) _) _
end Af
end Go.Proofs.YtmhegbeemgagkaaGreatDoor
