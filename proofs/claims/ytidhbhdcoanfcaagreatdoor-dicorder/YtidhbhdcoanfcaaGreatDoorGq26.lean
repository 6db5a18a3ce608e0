import Derived.Test.YtidhbhdcoanfcaaGreatDoorGq25
namespace Go.Proofs.YtidhbhdcoanfcaaGreatDoor
namespace Lst
def QL (P : Program) (o : Oper) (Q : Exit → Act → World → Prop) : Exit → Act → World → Prop
 | .normal, a, w => o.wp P a w (Q .normal) Q
 | e, a, w => Q e a w
theorem lets_QL {P : Program} {o : Oper} {Q : Exit → Act → World → Prop} (h : LetsOut (QL P o Q)) : LetsOut Q := by
 obtain ⟨a, w, q⟩ := h
 exact ⟨a, w, q⟩
theorem wp_QL {P : Program} {o p : Oper} {a : Act} {w : World} {K K' : Act → World → Prop} {Q : Exit → Act → World → Prop} (h : ∀ a w, K a w → K' a w) (hh : p.wp P a w K (QL P o Q)) : p.wp P a w K' Q := by
 unfold Oper.wp at *
 generalize (execOp a.eval p).run P w = r at *
 cases r with
 | ok n w' =>
  cases n <;> simp only [Oper.upon] at hh ⊢
  case value => exact h _ _ hh
  case skip => exact h _ _ hh
  case defer => exact h _ _ hh
  case enter =>
   refine Calls.mono hh fun e w'' he => ?_
   cases e with
   | returned v => exact h _ _ he
   | panicked c => exact he
   | outgrown => exact lets_QL he
  case row => exact Rows.mono hh fun v w'' he => h _ _ he
 | halt x w' =>
  cases x <;> simp only [Oper.upon] at hh ⊢
  case panic => exact hh
def isAfter (o : Oper) (j : Nat) : Bool := o.after.any fun e => Region.binds .any e && e.on == j
def lastOk (ops : Array Oper) (o : Oper) : Bool :=
 ((List.range ops.size).all fun i => match ops[i]? with
  | none => true
  | some p => p.guard.isNone && p.after.all fun e => !Region.binds .any e || decide (e.on < i)) &&
 (o.guard.isNone && (o.after.all fun e => !Region.binds .any e || decide (e.on < ops.size))) &&
 ((List.range ops.size).all fun j => isAfter o j || (List.range ops.size).any fun k => decide (j < k) && match ops[k]? with
  | none => false
  | some p => isAfter p j)
structure LOk (ops : Array Oper) (o : Oper) : Prop where
 g : ∀ (i : Nat) (p : Oper), ops[i]? = some p → p.guard = none
 lt : ∀ (i : Nat) (p : Oper), ops[i]? = some p → ∀ e ∈ p.after, Region.binds .any e = true → e.on < i
 g0 : o.guard = none
 lt0 : ∀ e ∈ o.after, Region.binds .any e = true → e.on < ops.size
 all : ∀ j, j < ops.size → (∃ e ∈ o.after, Region.binds .any e = true ∧ e.on = j) ∨ ∃ (k : Nat) (p : Oper), j < k ∧ k < ops.size ∧ ops[k]? = some p ∧ ∃ e ∈ p.after, Region.binds .any e = true ∧ e.on = j
theorem isAfter_spec {o : Oper} {j : Nat} (h : isAfter o j = true) : ∃ e ∈ o.after, Region.binds .any e = true ∧ e.on = j := by
 unfold isAfter at h
 rw [Array.any_eq_true'] at h
 obtain ⟨e, he, h⟩ := h
 simp only [Bool.and_eq_true, beq_iff_eq] at h
 exact ⟨e, he, h.1, h.2⟩
theorem after_spec {o : Oper} {n : Nat} (h : (o.after.all fun e => !Region.binds .any e || decide (e.on < n)) = true) : ∀ e ∈ o.after, Region.binds .any e = true → e.on < n := by
 rw [Array.all_eq_true_iff_forall_mem] at h
 intro e he hb
 have := h e he
 simpa [hb] using this
theorem LOk.of {ops : Array Oper} {o : Oper} (h : lastOk ops o = true) : LOk ops o := by
 unfold lastOk at h
 simp only [Bool.and_eq_true, List.all_eq_true, List.mem_range, Option.isNone_iff_eq_none] at h
 obtain ⟨⟨h1, h2, h3⟩, h4⟩ := h
 have hlt : ∀ (i : Nat) (p : Oper), ops[i]? = some p → i < ops.size := fun i p hp => (Array.getElem?_eq_some_iff.1 hp).1
 refine ⟨fun i p hp => ?_, fun i p hp => ?_, h2, after_spec h3, fun j hj => ?_⟩
 ·have := h1 i (hlt i p hp)
  rw [hp] at this
  simp only [Bool.and_eq_true, Option.isNone_iff_eq_none] at this
  exact this.1
 ·have := h1 i (hlt i p hp)
  rw [hp] at this
  simp only [Bool.and_eq_true] at this
  exact after_spec this.2
 ·have := h4 j hj
  simp only [Bool.or_eq_true, List.any_eq_true, List.mem_range, Bool.and_eq_true, decide_eq_true_eq] at this
  rcases this with q | ⟨k, hk, hjk, q⟩
  ·exact .inl (isAfter_spec q)
  ·cases hp : ops[k]? with
   | none => rw [hp] at q; cases q
   | some p => rw [hp] at q; exact .inr ⟨k, p, hjk, hk, hp, isAfter_spec q⟩
def Closed (ops : Array Oper) (L : Array Bool) : Prop := ∀ (i : Nat) (p : Oper), ops[i]? = some p → L.getD i false = true → ∀ e ∈ p.after, Region.binds .any e = true → L.getD e.on false = true
theorem all_last {ops : Array Oper} {o : Oper} {L : Array Bool} (h : LOk ops o) (c : Closed ops L) (ho : ∀ e ∈ o.after, Region.binds .any e = true → L.getD e.on false = true) : ∀ m j, j < ops.size → ops.size - j ≤ m → L.getD j false = true := by
 intro m
 induction m with
 | zero => intro j h1 h2; omega
 | succ m ih =>
  intro j h1 h2
  rcases h.all j h1 with ⟨e, he, hb, rfl⟩ | ⟨k, p, hjk, hk, hp, e, he, hb, rfl⟩
  ·exact ho e he hb
  ·exact c k p hp (ih k hk (by omega)) e he hb
theorem getD_ft {L : Array Bool} {j : Nat} (h : j < L.size) : L.getD j false = L.getD j true := by
 simp [Array.getD, h]
theorem all_nil {ops : Array Oper} {o : Oper} {L : Array Bool} (h : LOk ops o) (hs : L.size = ops.size) (hr : Region.ready .any ops L = []) : ∀ m j, j < m → j < ops.size → L.getD j false = true := by
 intro m
 induction m with
 | zero => intro j h1; omega
 | succ m ih =>
  intro j h1 h2
  cases hq : L.getD j false with
  | true => rfl
  | false =>
   exfalso
   have : j ∈ Region.ready .any ops L := by
    rw [mem_ready]
    obtain ⟨p, hp⟩ : ∃ p, ops[j]? = some p := ⟨_, Array.getElem?_eq_getElem h2⟩
    refine ⟨by rw [← getD_ft (by omega)]; exact hq, p, hp, fun e he hb => ?_⟩
    have := h.lt j p hp e he hb
    exact ih e.on (by omega) (by omega)
   rw [hr] at this
   cases this
theorem push_lt {α : Type} {A : Array α} {x : α} {i : Nat} (h : i < A.size) : (A.push x)[i]? = A[i]? := by
 rw [Array.getElem?_push]
 simp [Nat.ne_of_lt h]
theorem push_eq {α : Type} {A : Array α} {x : α} : (A.push x)[A.size]? = some x := by simp
theorem getD_push {L : Array Bool} {b d : Bool} {i : Nat} (h : i < L.size) : (L.push b).getD i d = L.getD i d := by
 have h2 : i < (L.push b).size := by simp; omega
 simp [Array.getD, h, Nat.lt_succ_of_lt h, Array.getElem_push]
theorem getD_pushn {L : Array Bool} {b d : Bool} : (L.push b).getD L.size d = b := by
 simp [Array.getD]
section
variable {P : Program} {ops : Array Oper} {o : Oper} {Q : Exit → Act → World → Prop}
theorem ready_all {L : Array Bool} (h : LOk ops o) (hs : L.size = ops.size) (ha : ∀ j, j < ops.size → L.getD j false = true) : ops.size ∈ Region.ready .any (ops.push o) (L.push false) := by
 rw [mem_ready]
 refine ⟨by rw [← hs]; exact getD_pushn, o, push_eq, fun e he hb => ?_⟩
 have := h.lt0 e he hb
 rw [getD_push (by omega)]
 exact ha _ this
theorem ready_end {L : Array Bool} (hs : L.size = ops.size) (ha : ∀ j, j < ops.size → L.getD j false = true) : Region.ready .any (ops.push o) ((L.push false).setIfInBounds ops.size true) = [] := by
 rw [List.eq_nil_iff_forall_not_mem]
 intro j hj
 rw [mem_ready] at hj
 obtain ⟨h0, p, hp, -⟩ := hj
 have hlt := (Array.getElem?_eq_some_iff.1 hp).1
 simp only [Array.size_push] at hlt
 have e1 : (L.push false).setIfInBounds ops.size true = L.push true := by
  rw [← hs]
  apply Array.ext_getElem?
  intro k
  simp only [Array.getElem?_setIfInBounds, Array.getElem?_push, Array.size_push]
  by_cases q : L.size = k
  ·subst q; simp
  ·simp [q, Ne.symm q]
 rw [e1] at h0
 by_cases q : j = L.size
 ·subst q; rw [getD_pushn] at h0; cases h0
 ·have hj : j < L.size := by omega
  rw [getD_push hj, ← getD_ft hj, ha j (by omega)] at h0
  cases h0
theorem any_end {L : Array Bool} (h : LOk ops o) (hs : L.size = ops.size) (ha : ∀ j, j < ops.size → L.getD j false = true) {a : Act} {w : World} (hq : QL P o Q .normal a w) (f : Nat) : wpAny P .any (ops.push o) Q (f + 1) (L.push false) a w := by
 refine ⟨fun hn => ?_, fun i hi => ?_⟩
 ·have := ready_all h hs ha
  rw [hn] at this
  cases this
 ·have hi' := hi
  rw [mem_ready] at hi
  obtain ⟨h0, p, hp, -⟩ := hi
  have hlt := (Array.getElem?_eq_some_iff.1 hp).1
  simp only [Array.size_push] at hlt
  have : i = ops.size := by
   by_cases q : i < L.size
   ·rw [getD_push q, ← getD_ft q, ha i (by omega)] at h0
    cases h0
   ·omega
  subst this
  unfold wpOp
  rw [push_eq]
  have hw : Region.wanted o (yielded (ops.push o) a.tmps) = true := by simp [Region.wanted, h.g0]
  simp only [hw, if_true]
  refine .inl (Oper.wp_mono (fun a' w' q => ?_) hq)
  have he := ready_end (o := o) hs ha
  cases f with
  | zero => exact ⟨he, q⟩
  | succ f => exact ⟨fun _ => q, by rw [he]; simp⟩
theorem any_last (h : LOk ops o) : ∀ (fuel : Nat) (L : Array Bool) (a : Act) (w : World), L.size = ops.size → Closed ops L → wpAny P .any ops (QL P o Q) fuel L a w → wpAny P .any (ops.push o) Q (fuel + 1) (L.push false) a w := by
 intro fuel
 induction fuel with
 | zero =>
  intro L a w hs hc hh
  exact any_end h hs (fun j hj => all_nil h hs hh.1 (j + 1) j (by omega) hj) hh.2 0
 | succ fuel ih =>
  intro L a w hs hc hh
  by_cases hr : Region.ready .any ops L = []
  ·exact any_end h hs (fun j hj => all_nil h hs hr (j + 1) j (by omega) hj) (hh.1 hr) (fuel + 1)
  ·have back : ∀ i, i ∈ Region.ready .any (ops.push o) (L.push false) → i ∈ Region.ready .any ops L := by
    intro i hi
    rw [mem_ready] at hi
    obtain ⟨h0, p, hp, hall⟩ := hi
    have hlt := (Array.getElem?_eq_some_iff.1 hp).1
    simp only [Array.size_push] at hlt
    by_cases q : i = ops.size
    ·exfalso
     subst q
     rw [push_eq] at hp
     injection hp with hp
     subst hp
     have ha : ∀ j, j < ops.size → L.getD j false = true := fun j hj => all_last h hc (fun e he hb => by
      have q1 := hall e he hb
      have q2 := h.lt0 e he hb
      rw [getD_push (by omega)] at q1
      exact q1) ops.size j hj (by omega)
     apply hr
     rw [List.eq_nil_iff_forall_not_mem]
     intro j hj
     rw [mem_ready] at hj
     obtain ⟨h0, p, hp, -⟩ := hj
     have hjl := (Array.getElem?_eq_some_iff.1 hp).1
     rw [← getD_ft (by omega), ha j hjl] at h0
     cases h0
    ·have hi : i < ops.size := by omega
     rw [push_lt hi] at hp
     rw [mem_ready]
     refine ⟨by rw [getD_push (by omega)] at h0; exact h0, p, hp, fun e he hb => ?_⟩
     have q1 := hall e he hb
     have q2 := h.lt i p hp e he hb
     rw [getD_push (by omega)] at q1
     exact q1
   have forth : ∀ i, i ∈ Region.ready .any ops L → i ∈ Region.ready .any (ops.push o) (L.push false) := by
    intro i hi
    rw [mem_ready] at hi
    obtain ⟨h0, p, hp, hall⟩ := hi
    have hlt := (Array.getElem?_eq_some_iff.1 hp).1
    rw [mem_ready]
    refine ⟨by rw [getD_push (by omega)]; exact h0, p, (push_lt hlt).trans hp, fun e he hb => ?_⟩
    have q2 := h.lt i p hp e he hb
    rw [getD_push (by omega)]
    exact hall e he hb
   refine ⟨fun hn => ?_, fun i hi => ?_⟩
   ·exfalso
    apply hr
    rw [List.eq_nil_iff_forall_not_mem]
    intro i hi
    have := forth i hi
    rw [hn] at this
    cases this
   ·have hi' := back i hi
    have h1 := hh.2 i hi'
    rw [mem_ready] at hi'
    obtain ⟨h0, p, hp, hall⟩ := hi'
    have hlt := (Array.getElem?_eq_some_iff.1 hp).1
    unfold wpOp at h1 ⊢
    rw [push_lt hlt, hp]
    rw [hp] at h1
    have hw : ∀ y, Region.wanted p y = true := fun y => by simp [Region.wanted, h.g i p hp]
    simp only [hw, if_true] at h1 ⊢
    have e1 : (L.push false).setIfInBounds i true = (L.setIfInBounds i true).push false := by
     have hil : i < L.size := by omega
     apply Array.ext_getElem?
     intro k
     simp only [Array.getElem?_setIfInBounds, Array.getElem?_push, Array.size_push, Array.size_setIfInBounds]
     by_cases q : i = k
     ·subst q
      simp [Nat.ne_of_lt hil, hil, Nat.lt_succ_of_lt hil]
     ·simp [q]
    rcases h1 with h1 | ⟨h1, h2⟩
    ·refine .inl (wp_QL (fun a' w' q => ?_) h1)
     rw [e1]
     refine ih _ a' w' (by simp; exact hs) ?_ q
     intro k pk hpk hk e he hb
     by_cases q : k = i
     ·subst q
      rw [hp] at hpk
      injection hpk with hpk
      subst hpk
      exact getD_set_true (hall e he hb)
     ·refine getD_set_true (hc k pk hpk ?_ e he hb)
      rw [getD_set_ne false (Ne.symm q)] at hk
      exact hk
    ·exact .inr ⟨h1, lets_QL h2⟩
end
theorem push_of {α : Type} {A B : Array α} {x : α} (hp : A.pop = B) (hb : A.back? = some x) : A = B.push x := by
 subst hp
 have hs : 0 < A.size := by
  cases hA : A.size with
  | zero =>
   have : A = #[] := by simpa using hA
   subst this; simp at hb
  | succ n => omega
 apply Array.ext
 ·simp; omega
 ·intro i h1 h2
  rw [Array.getElem_push]
  split
  ·simp
  ·rename_i q
   simp at q
   rw [Array.back?_eq_getElem?] at hb
   have : i = A.size - 1 := by omega
   subst this
   rw [Array.getElem?_eq_getElem h1] at hb
   injection hb
theorem region_last {P : Program} {ops ops1 : Array Oper} {o : Oper} {Q : Exit → Act → World → Prop} {S : World → Prop} {id : Nat} {a : Act} {w : World} (hm : P.follows .mixedOrders = true) (hp : ops.pop = ops1) (hb : ops.back? = some o) (hok : lastOk ops1 o = true) (hS : S w.drew)
  (h : S w.drew → wpAnyH P .any ops1 (QL P o Q) S ops1.size (Array.replicate ops1.size false) a w.drew) : (Code.region id ops true).wp P Q a w := by
 rw [push_of hp hb]
 refine wp_region_any hm ?_
 have := any_last (LOk.of hok) _ _ a _ (by simp) (fun i p hp hl => by
  have hlt := (Array.getElem?_eq_some_iff.1 hp).1
  simp [Array.getD, hlt] at hl) (wpAny_of_held _ _ _ _ (h hS))
 rw [Array.size_push, Array.replicate_succ]
 exact this
theorem tk {P : Program} {ops : Array Oper} {Q : Exit → Act → World → Prop} {md : Region.Mode} {S : World → Prop} (i : Nat) {oi : Oper} {v : Value} {fuel : Nat} {listed : Array Bool} {a : Act} {w : World}
  (h : wpAnyH P md ops Q S fuel (listed.setIfInBounds i true) (a.put oi.dst v) w)
  (hi : ops[i]? = some oi := by rfl) (hs : Region.noSelect ops = true := by kernel_rfl) (hf : Region.free md ops listed i = true := by kernel_rfl) (hr : (Region.ready md ops listed).contains i = true := by kernel_rfl)
  (hQ : ∀ c a w, Q (.panic c) (a.put oi.dst v) w → Q (.panic c) a w := by exact fun _ _ _ h => h) (hg : Region.wanted oi (yielded ops a.tmps) = true := by rfl)
  (hy : ∀ w, S w → (execOp a.eval oi).run P w = .ok (.value v) w := by (intro w hSw; (try dsimp only at hSw); go_simp; first | done | (with_reducible rfl))) (hS : S w := by assumption) : wpAnyH P md ops Q S (fuel + 1) listed a w :=
 wpAnyH_take hi hs hf hr hQ (.inl ⟨hg, hy⟩) hS h
end Lst
open Go.RowKit
namespace Af
open RowB
theorem calls_no2 {g : FuncId} {args : Array Value} {w W : World} {er : Er} {Q : Ending → World → Prop} (r : Value) (b : Below w.heap.size w W) (h : ∀ W, Below w.heap.size w W → Calls Tryz.prog g args W fun e w' => e = .panicked (chn er) ∧ Below W.heap.size W w') (k : ∀ w', Below w.heap.size w w' → Q (.panicked (chn er)) w') (_d : Hid False → Q (.returned r) W) : Calls Tryz.prog g args W Q :=
 (h W b).mono fun e w' q => by rw [q.1]; exact k w' (b.trans (q.2.mono b.size))
def RS (B rb : Nat) (w W : World) (R : Rdr) (P : Pts) (hv : Value) (hd : List Bs) (j : Nat) : Prop :=
 ∃ Rj Pj, LP B rb w W Rj Pj P hv hd ∧ times (repStep (fld hd 0)) j R = .ok Rj ∧ Rj.file.reps.length = j
set_option maxRecDepth 100000 in
set_option maxHeartbeats 4000000 in
theorem readReps_any {B rb : Nat} {R : Rdr} {P : Pts} {w : World} (h : RAt B w rb R P) (k : Value) (hd : List Bs) (hv : Value) (hrow : StrRow B w hv (hd.map Fld.str)) (hlen : hd.length = 2) (hf : ∀ f ∈ hd, f.length ≤ 65536) (h0 : R.file.reps = []) :
  Calls Tryz.prog 78 #[ptr rb, hv, k] w (Res B rb P w (doReps R hd)) := by
 have HS := hide (LP.start h hrow)
 have HLN := hide hlen
 have HZ := hide h0
 obtain ⟨g, cap, rfl, hg, h1, h2, -, hcl⟩ := str_cells hrow
 unfold maxLen at h2
 have q1 := hcl 1 _ (fld_get (by omega))
 have hf1 := hf _ (List.mem_of_getElem? (fld_get (row := hd) (i := 1) (by omega)))
 have HN := hide (number_any rb R.line (Fld.str (fld hd 1)) 256 w (by rw [fstr_wd, Wd.str_size]; omega) (by decide) h.cells.2.2.1)
 have e1 : (Fld.str (fld hd 1)).data.toList = fld hd 1 := by simp [Fld.str]
 rw [e1] at HN
 rw [hlen] at h1 HS ⊢
 clear hcl hf hf1 e1 hrow hlen h0 h
 generalize Fld.str (fld hd 1) = r1 at *
 cases hn : numb R.line (fld hd 1) 256 with
 | error er =>
  have HX := hide (doReps_n hn)
  have HNN := hide (noOf (unhide HN) hn)
  clear HN hn
  go_enter Tryz.func78, Tryz.ntmps78
  go_wp2_with (go_at_call 101; refine (unhide HNN).mono ?_; rintro e w4 ⟨rfl, rfl⟩)
  exact ⟨rfl, Res.no (unhide HX) (Kt.refl _ _ _ _)⟩
 | ok n =>
  have HX := hide (doReps_t hn)
  have hnm : n ≤ 256 := numb_le hn
  have HNN := hide (okOf (unhide HN) hn)
  clear HN hn
  go_enter Tryz.func78, Tryz.ntmps78
  go_wp2_with (go_at_call 101; refine (unhide HNN).mono ?_; rintro e w4 ⟨rfl, rfl⟩)
  go_loopw [13] (fun s13 wr => ∃ j : Nat, s13 = .int .i64 j ∧ j ≤ n ∧ Hid (RS B rb w4 wr R P (.slice (some ⟨g, 0, none⟩) 2 cap) hd j)) (fun s13 _ => n - (intOf s13).toNat)
  case atStart => exact ⟨0, rfl, Nat.zero_le _, ⟨R, P, unhide HS, rfl, by rw [unhide HZ]; rfl⟩⟩
  case round =>
   obtain ⟨j, rfl, hj, HR⟩ := hrel
   by_cases hlt : j < n
   ·obtain ⟨Rj, Pj, hL, ht, hjl⟩ := unhide HR
    have HT := hide ht
    have HJL := hide hjl
    have HL := hide hL
    have hltz : (j : Int) < (n : Int) := by omega
    obtain ⟨hg', -, hcc⟩ := str_at hL.row
    have q0 := hcc 0 _ (fld_get (by rw [unhide HLN]; decide))
    clear HR ht hjl hcc hg h1 q1 HS HNN
    have HA := hide (hL.below ((Below.refl _ wr).alloc (Nat.le_refl _) (.cells #[.string (Fld.str (fld hd 0))] 9)))
    have HG := hide (groupRow_any (unhide HA).at_ [fld hd 0] (.slice (some ⟨wr.heap.size, 0, none⟩) 1 1) (str_new wr [fld hd 0] (by simp) (by simp)) (by simp))
    generalize Fld.str (fld hd 0) = r0 at *
    clear hL
    cases hgr : grow Rj [fld hd 0] with
    | error er =>
     have HE := hide (times_err (unhide HT) (repStep_g hgr) hlt)
     have HGN := hide (gNo (unhide HG) hgr)
     clear HG hgr
     go_wp2_with (go_at_call 102; refine (unhide HGN).mono ?_; rintro e w2 ⟨rfl, k2, l2⟩)
     exact ⟨rfl, (unhide HA).no2 k2 l2 ((unhide HX).trans (unhide HE))⟩
    | ok p =>
     obtain ⟨row, R1⟩ := p
     have HGR := hide hgr
     have HGO := hide (gOk (unhide HG) hgr)
     obtain ⟨lq, tq, hrq, hr1, hr2, hr3, hr4, hr5⟩ := grow_rows hgr
     have HFL := hide (grow_len (unhide HL).at_.rok hgr)
     have HJ1 : Hid (R1.file.reps.length = j) := by rw [Hid, hr3]; exact unhide HJL
     clear HG hgr hrq hr1 hr2 hr3 hr4 hr5
     go_wp2_with (go_at_call 102; refine (unhide HGO).mono ?_; rintro e w2 ⟨fv, rv, rfl, s2, r2, k2, l2⟩; have HL2 := hide ((unhide HA).grow k2 l2 r2); have HS2 := hide s2; obtain ⟨g2, cap2, rfl, hg2, x1, x2, -, hc2⟩ := str_cells s2; have HC2 := hide hc2; clear s2 r2 k2 l2 hc2)
     unfold maxLen at x2
     by_cases h3 : row.length = 3
     ·rw [h3] at x1 HS2 ⊢
      have y1 := unhide HC2 1 _ (fld_get (by omega))
      have y2 := unhide HC2 2 _ (fld_get (by omega))
      have y3 := (unhide HFL).2 _ (List.mem_of_getElem? (fld_get (row := row) (i := 1) (by omega)))
      have y4 := (unhide HFL).2 _ (List.mem_of_getElem? (fld_get (row := row) (i := 2) (by omega)))
      have HP := hide (piece_any rb R1.line (Fld.str (fld row 1)) w2 (by rw [fstr_wd, Wd.str_size]; omega) (unhide HL2).at_.lt (unhide HL2).at_.cells.2.2.1)
      have HQ := hide (fun W (b : Below w2.heap.size w2 W) => piece0_any rb R1.line (Fld.str (fld row 2)) W (by rw [fstr_wd, Wd.str_size]; omega) ((unhide HL2).below b).at_.lt ((unhide HL2).below b).at_.cells.2.2.1)
      have e1 : (Fld.str (fld row 1)).data.toList = fld row 1 := by simp [Fld.str]
      have e2 : (Fld.str (fld row 2)).data.toList = fld row 2 := by simp [Fld.str]
      rw [e1] at HP
      rw [e2] at HQ
      have HH3 := hide h3
      clear e1 e2 y3 y4 h3 HC2 hg'
      generalize Fld.str (fld row 1) = r1 at *
      generalize Fld.str (fld row 2) = r2 at *
      cases hp : piece R1.line (fld row 1) with
      | error er =>
       have HE := hide (times_err (unhide HT) (repStep_r (unhide HGR) (repRow_p (unhide HH3) hp)) hlt)
       have HPN := hide (noOf (unhide HP) hp)
       clear HP HQ hp
       go_wp2_with (first | (go_at_call 82; refine (leaveIf_f _ _ _ _ rfl).mono ?_; rintro e w3 ⟨rfl, hw3⟩; subst w3) | (go_at_call 103; refine (unhide HPN).mono ?_; rintro e w3 ⟨rfl, b3⟩))
       exact ⟨rfl, (unhide HL2).no b3 ((unhide HX).trans (unhide HE))⟩
      | ok a =>
       have HPO := hide (okOf (unhide HP) hp)
       have HPP := hide hp
       unfold strV at HPO
       clear HP hp
       go_wp2_with (first | (go_at_call 82; refine (leaveIf_f _ _ _ _ rfl).mono ?_; rintro e w3 ⟨rfl, hw3⟩; subst w3) | (go_at_call 103; refine (unhide HPO).mono ?_; rintro e w3 ⟨rfl, b3⟩))
       have HB3 := hide b3
       have z2 := (b3.cell (p := ⟨g2, 2, none⟩) hg2).trans y2
       have hL3 := (unhide HL2).below b3
       obtain ⟨d0, -, -, -, -, -, -⟩ := hL3.at_.cells
       obtain ⟨-, k9, -, -, -, -, -⟩ := hL3.at_.file.cells
       have ho9 := hL3.at_.file.reps
       rw [unhide HJ1] at ho9
       obtain ⟨av, cv, ev, -, -⟩ := own_len ho9
       replace k9 : w3.cell? ⟨Pj.fb, 9, none⟩ = some (.slice av j cv) := k9.trans (by rw [ev])
       replace d0 : w3.cell? ⟨rb, 0, none⟩ = some (.pointer (some ⟨Pj.fb, 0, none⟩)) := d0
       have hrb3 := hL3.at_.lt
       have hfb3 : Pj.fb < w3.heap.size := hL3.at_.file.lt
       have hg3 : g2 < w3.heap.size := Nat.lt_of_lt_of_le hg2 b3.size
       have HL3 := hide hL3
       have HEV := hide ev
       have HS3 := hide (str_kept (unhide HS2) (below_kept b3))
       clear b3 y1 y2 ev hL3 hg2 HS2 HA HGO HPO ho9
       cases hq : piece0 R1.line (fld row 2) with
       | error er =>
        have HE := hide (times_err (unhide HT) (repStep_r (unhide HGR) (repRow_q (unhide HH3) (unhide HPP) hq)) hlt)
        have HQN := hide (fun W (b : Below w3.heap.size w3 W) => noOf (unhide HQ W ((unhide HB3).trans (b.mono (unhide HB3).size))) hq)
        clear HQ hq
        go_wp2_with fail
        refine Lst.region_last (ops1 := ?ops1) (o := ?op1) (S := fun w' => w'.cell? ⟨rb, 0, none⟩ = some (.pointer (some ⟨Pj.fb, 0, none⟩)) ∧ w'.cell? ⟨Pj.fb, 9, none⟩ = some (.slice av j cv) ∧ w'.cell? ⟨g2, 2, none⟩ = some (.string r2)) (by kernel_rfl) ?hp1 ?hb1 ?hk1 (by exact ⟨d0, k9, z2⟩) ?hn1
        case hp1 => (simp only [List.pop_toArray, List.dropLast_cons_cons, List.dropLast_singleton]; rfl)
        case hb1 => (simp only [List.back?_toArray, List.getLast?_cons_cons, List.getLast?_singleton]; rfl)
        case hk1 => kernel_rfl
        intro hHeld
        refine Lst.tk 0 ?_
        (try simp only [Act.put, List.setIfInBounds_toArray])
        refine Lst.tk 1 ?_
        (try simp only [Act.put])
        refine Lst.tk 2 ?_
        (try simp only [Act.put])
        refine Lst.tk 3 ?_
        (try simp only [Act.put])
        refine Lst.tk 4 ?_
        (try simp only [Act.put])
        refine Lst.tk 5 ?_
        (try simp only [Act.put])
        refine Lst.tk 6 ?_
        (try simp only [Act.put])
        refine Lst.tk 7 ?_
        (try simp only [Act.put])
        refine Lst.tk 8 ?_
        (try simp only [Act.put])
        refine Lst.tk 9 ?_
        (try simp only [Act.put])
        refine Lst.tk 10 ?_
        (try simp only [Act.put])
        refine Lst.tk 11 ?_
        (try simp only [Act.put])
        refine Lst.tk 12 ?_
        (try simp only [Act.put])
        refine Lst.tk 13 ?_
        (try simp only [Act.put])
        refine Lst.tk 14 ?_
        (try simp only [Act.put])
        refine Lst.tk 15 ?_
        (try simp only [Act.put])
        refine Lst.tk 16 ?_
        (try simp only [Act.put])
        refine wpAnyH_ready (rs := [17]) (by kernel_rfl) (by simp) ?_
        refine AllReadyH.cons (by simp only [List.getElem?_toArray, List.getElem?_cons_succ, List.getElem?_cons_zero]; rfl) (fun K hK => ?_) AllReadyH.nil
        go_simp
        go_wp2_with (go_at_call 104; refine (unhide HQN _ ((Below.refl w3.heap.size w3).drew)).mono ?_; rintro e w5 ⟨rfl, b5⟩)
        exact ⟨rfl, (unhide HL3).no (((Below.refl w3.heap.size w3).drew).trans b5) ((unhide HX).trans (unhide HE))⟩
       | ok b =>
        have HQO := hide (okOf (unhide HQ _ ((unhide HB3).drew)) hq)
        have HQQ := hide hq
        unfold strV at HQO
        clear HQ hq
        go_wp2_with fail
        rename_i K0 hK0
        have HK0 := hide hK0
        clear hK0
        refine Lst.region_last (ops1 := ?ops2) (o := ?op2) (S := fun w' => w'.cell? ⟨rb, 0, none⟩ = some (.pointer (some ⟨Pj.fb, 0, none⟩)) ∧ w'.cell? ⟨Pj.fb, 9, none⟩ = some (.slice av j cv) ∧ w'.cell? ⟨g2, 2, none⟩ = some (.string r2)) (by kernel_rfl) ?hp2 ?hb2 ?hk2 (by exact ⟨d0, k9, z2⟩) ?hn2
        case hp2 => (simp only [List.pop_toArray, List.dropLast_cons_cons, List.dropLast_singleton]; rfl)
        case hb2 => (simp only [List.back?_toArray, List.getLast?_cons_cons, List.getLast?_singleton]; rfl)
        case hk2 => kernel_rfl
        intro hHeld
        refine Lst.tk 0 ?_
        (try simp only [Act.put, List.setIfInBounds_toArray])
        refine Lst.tk 1 ?_
        (try simp only [Act.put])
        refine Lst.tk 2 ?_
        (try simp only [Act.put])
        refine Lst.tk 3 ?_
        (try simp only [Act.put])
        refine Lst.tk 4 ?_
        (try simp only [Act.put])
        refine Lst.tk 5 ?_
        (try simp only [Act.put])
        refine Lst.tk 6 ?_
        (try simp only [Act.put])
        refine Lst.tk 7 ?_
        (try simp only [Act.put])
        refine Lst.tk 8 ?_
        (try simp only [Act.put])
        refine Lst.tk 9 ?_
        (try simp only [Act.put])
        refine Lst.tk 10 ?_
        (try simp only [Act.put])
        refine Lst.tk 11 ?_
        (try simp only [Act.put])
        refine Lst.tk 12 ?_
        (try simp only [Act.put])
        refine Lst.tk 13 ?_
        (try simp only [Act.put])
        refine Lst.tk 14 ?_
        (try simp only [Act.put])
        refine Lst.tk 15 ?_
        (try simp only [Act.put])
        refine Lst.tk 16 ?_
        (try simp only [Act.put])
        refine wpAnyH_ready (rs := [17]) (by kernel_rfl) (by simp) ?_
        refine AllReadyH.cons (by simp only [List.getElem?_toArray, List.getElem?_cons_succ, List.getElem?_cons_zero]; rfl) (fun K hK => ?_) AllReadyH.nil
        go_simp
        go_wp2_with (go_at_call 104; refine (unhide HQO).mono ?_; rintro e w5 ⟨rfl, b5⟩; have HB5 := hide (((Below.refl w3.heap.size w3).drew).trans b5); have d05 := (b5.cell (p := ⟨rb, 0, none⟩) hrb3).trans d0; have k95 := (b5.cell (p := ⟨Pj.fb, 9, none⟩) hfb3).trans k9; have z25 := (b5.cell (p := ⟨g2, 2, none⟩) hg3).trans z2; clear b5)
        refine hK.out _ _ (⟨d05, k95, z25⟩) (fun hh1 => ?_)
        clear hK K
        (try simp only [Act.put, List.setIfInBounds_toArray, List.set_cons_zero, List.set_cons_succ])
        have HL5 := hide ((unhide HL3).below (unhide HB5))
        have ho := (unhide HL5).at_.file.reps
        rw [unhide HJ1] at ho
        obtain ⟨av6, cv6, w6, hap, o6, k6, l6, b6⟩ := push1 (B := B) (w := w5) (X := w5.alloc (.cells #[.string (Wd.str a), .string (Wd.str b)] 90)) (t := 38) (v := Pj.vr) Tryz.underlying38 infoR rfl (by decide) ho (unhide HL5).at_.base ((Below.refl _ _).alloc (Nat.le_refl _) _) (alloc_new w5 _) rfl (by intro u hu; simp at hu; rcases hu with rfl | rfl <;> rfl) (by omega) (by decide) 38
        rw [unhide HEV] at hap
        have HAP := hide hap
        have n256 : R1.file.reps.length < 256 := by rw [unhide HJ1]; omega
        have HADD := hide ((unhide HL5).at_.addRep (a, b) n256 (Below.refl _ _) k6 l6 (by rw [unhide HJ1]; exact o6))
        have d06 : w6.cell? ⟨rb, 0, none⟩ = some (.pointer (some ⟨Pj.fb, 0, none⟩)) := (World.cell?_of_block (a := ⟨rb, 0, none⟩) (k6.cells _ _ _ _ (unhide HL5).at_.rdr (by decide))).trans d05
        have k96 : w6.cell? ⟨Pj.fb, 9, none⟩ = some (.slice av j cv) := (World.cell?_of_block (a := ⟨Pj.fb, 9, none⟩) (k6.cells _ _ _ _ (unhide HL5).at_.file.fil (by decide))).trans k95
        have z26 : w6.cell? ⟨g2, 2, none⟩ = some (.string r2) := by
         obtain ⟨g', cap', cur, e, -, hh, -⟩ := str_kept (unhide HS3) (below_kept (unhide HB5))
         injection e with e _ _
         injection e with e
         injection e with e _ _
         subst e
         exact (World.cell?_of_block (a := ⟨g2, 2, none⟩) (k6.cells _ _ _ _ hh (by decide))).trans z25
        have f6 : w6.frozen? ⟨Pj.fb, 9, none⟩ = false := by
         have := (k6.cells _ _ _ _ (unhide HL5).at_.file.fil (by decide)).trans (unhide HL5).at_.file.fil
         simp [World.frozen?, this]
        have hfb6 : Pj.fb < w6.heap.size := World.block_lt_of_cell? w6 ⟨Pj.fb, 9, none⟩ k96
        have bb := fun q i (hb : q < w5.heap.size) => ((Below.refl w5.heap.size w5).alloc (Nat.le_refl _) (.cells #[.string (Wd.str a), .string (Wd.str b)] 90)).cell (p := ⟨q, i, none⟩) hb
        have d0a := (bb rb 0 (World.block_lt_of_cell? w5 ⟨rb, 0, none⟩ d05)).trans d05
        have k9a := (bb Pj.fb 9 (World.block_lt_of_cell? w5 ⟨Pj.fb, 9, none⟩ k95)).trans k95
        have z2a := (bb g2 2 (World.block_lt_of_cell? w5 ⟨g2, 2, none⟩ z25)).trans z25
        clear ho hap o6 k6 l6 b6 bb n256
        refine Lst.tk 18 ?_
        (try simp only [Act.put, List.setIfInBounds_toArray])
        refine wpAnyH_ready (rs := [19]) (by kernel_rfl) (by simp) ?_
        refine AllReadyH.cons (by simp only [List.getElem?_toArray, List.getElem?_cons_succ, List.getElem?_cons_zero]; rfl) (fun K hK => ?_) AllReadyH.nil
        go_simp
        refine hK.out _ _ (⟨d0a, k9a, z2a⟩) (fun hh2 => ?_)
        clear hK K
        (try simp only [Act.put, List.setIfInBounds_toArray, List.set_cons_zero, List.set_cons_succ])
        refine wpAnyH_ready (rs := [20]) (by kernel_rfl) (by simp) ?_
        refine AllReadyH.cons (by simp only [List.getElem?_toArray, List.getElem?_cons_succ, List.getElem?_cons_zero]; rfl) (fun K hK => ?_) AllReadyH.nil
        refine step_app (by rfl) _ _ _ (by rfl) _ _ _ _ (by rfl) (by rfl) (by exact unhide HAP) ?_
        refine hK.out _ _ (⟨d06, k96, z26⟩) (fun hh3 => ?_)
        clear hK K
        (try simp only [Act.put, List.setIfInBounds_toArray, List.set_cons_zero, List.set_cons_succ])
        refine Lst.tk 21 ?_
        (try simp only [Act.put, List.setIfInBounds_toArray])
        refine Lst.tk 22 ?_
        (try simp only [Act.put])
        refine Lst.tk 23 ?_
        (try simp only [Act.put])
        refine wpAnyH_done (by kernel_rfl) ?_ _
        show Oper.wp _ _ _ _ _ _
        go_simp
        apply unhide HK0
        go_wp2
        go_roundw
        case rel => exact ⟨j + 1, by go_num, by omega, ⟨_, _, (unhide HL5).turn (unhide HADD) ⟨rfl, rfl, rfl⟩, times_ok (unhide HT) (repStep_ok (unhide HGR) (repRow_ok (unhide HH3) (unhide HPP) (unhide HQQ))), by simp [unhide HJ1]⟩⟩
        case measure => simp [intOf]; omega
     ·have HE := hide (times_err (unhide HT) (repStep_r (unhide HGR) (repRow_n h3)) hlt)
      have h3i : ((row.length : Int) != 3) = true := by simp; omega
      have HV := hide (leaveIf_t rb R1.line ((row.length : Int) != 3) 111 w2 h3i (by decide) (by decide) (unhide HL2).at_.cells.2.2.1)
      clear h3 HC2 h3i
      generalize row.length = m at *
      go_wp2_with (go_at_call 82; refine (unhide HV).mono ?_; rintro e w3 ⟨rfl, hw3⟩; subst w3)
      exact ⟨rfl, (unhide HL2).no (Below.refl _ _) ((unhide HX).trans (unhide HE))⟩
   ·obtain rfl : j = n := by omega
    have hltz : ¬ (j : Int) < (j : Int) := by omega
    obtain ⟨Rj, Pj, hL, ht, hjl⟩ := unhide HR
    have HL := hide hL
    have HXX := hide ((unhide HX).trans ht)
    clear HR hL ht hjl
    go_wp2
    go_end0
    exact (unhide HL).yes (unhide HXX)
end Af
end Go.Proofs.YtidhbhdcoanfcaaGreatDoor
