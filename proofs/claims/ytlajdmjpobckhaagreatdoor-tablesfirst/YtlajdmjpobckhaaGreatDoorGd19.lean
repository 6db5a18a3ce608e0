/- The reader: a replacement and an alias behind the others, in memory; groups, plain. No walk. -/
import Derived.Test.YtlajdmjpobckhaaGreatDoorGd18
import Derived.Deep.RegionHeld2
import Derived.Test.YtlajdmjpobckhaaGreatDoorShAll
namespace Go.Proofs.YtlajdmjpobckhaaGreatDoor
open Go.RowKit
namespace Af
open RowB
theorem infoR : (Tryz.prog.info? 114).map (fun i => (i.zero, i.size, i.bytes)) = some (some (.agg #[.string ⟨#[]⟩, .string ⟨#[]⟩]), 2, 32) := by kernel_rfl
theorem infoA : (Tryz.prog.info? 39).map (fun i => (i.zero, i.size, i.bytes)) = some (some (.slice none 0 0), 1, 24) := by kernel_rfl
theorem repStep_g {R : Rdr} {key : Bs} {e : Er} (h : grow R [key] = .error e) : repStep key R = .error e := by unfold repStep; rw [h]
theorem repStep_r {R R1 : Rdr} {key : Bs} {row : List Bs} {e : Er} (h : grow R [key] = .ok (row, R1)) (hr : repRow R1.line row = .error e) : repStep key R = .error e := by unfold repStep; rw [h]; simp [hr]
theorem repStep_ok {R R1 : Rdr} {key : Bs} {row : List Bs} {p : Bs × Bs} (h : grow R [key] = .ok (row, R1)) (hr : repRow R1.line row = .ok p) : repStep key R = .ok { R1 with file := { R1.file with reps := R1.file.reps ++ [p] } } := by unfold repStep; rw [h]; simp [hr]
theorem repRow_n {l : Nat} {row : List Bs} (h : row.length ≠ 3) : repRow l row = .error (l, 111) := by unfold repRow; rw [if_pos h]
theorem repRow_p {l : Nat} {row : List Bs} {e : Er} (h : row.length = 3) (hp : piece l (fld row 1) = .error e) : repRow l row = .error e := by unfold repRow; rw [if_neg (by omega), hp]
theorem repRow_q {l : Nat} {row : List Bs} {e : Er} {a : Bs} (h : row.length = 3) (hp : piece l (fld row 1) = .ok a) (hq : piece0 l (fld row 2) = .error e) : repRow l row = .error e := by unfold repRow; rw [if_neg (by omega), hp]; simp [hq]
theorem repRow_ok {l : Nat} {row : List Bs} {a b : Bs} (h : row.length = 3) (hp : piece l (fld row 1) = .ok a) (hq : piece0 l (fld row 2) = .ok b) : repRow l row = .ok (a, b) := by unfold repRow; rw [if_neg (by omega), hp]; simp [hq]
theorem doReps_n {R : Rdr} {hd : List Bs} {e : Er} (h : numb R.line (fld hd 1) 256 = .error e) : doReps R hd = .error e := by unfold doReps; rw [h]
theorem doReps_t {R : Rdr} {hd : List Bs} {n : Nat} (h : numb R.line (fld hd 1) 256 = .ok n) : doReps R hd = times (repStep (fld hd 0)) n R := by unfold doReps; rw [h]
theorem aliStep_g {R : Rdr} {key : Bs} {e : Er} (h : grow R [key] = .error e) : aliStep key R = .error e := by unfold aliStep; rw [h]
theorem aliStep_r {R R1 : Rdr} {key : Bs} {row : List Bs} {e : Er} (h : grow R [key] = .ok (row, R1)) (hr : aliRow R1.file R1.line row = .error e) : aliStep key R = .error e := by unfold aliStep; rw [h]; simp [hr]
theorem aliStep_ok {R R1 : Rdr} {key : Bs} {row : List Bs} {p : List Int} (h : grow R [key] = .ok (row, R1)) (hr : aliRow R1.file R1.line row = .ok p) : aliStep key R = .ok { R1 with file := { R1.file with aliases := R1.file.aliases ++ [p] } } := by unfold aliStep; rw [h]; simp [hr]
theorem aliRow_n {F : Fil} {l : Nat} {row : List Bs} (h : row.length ≠ 2) : aliRow F l row = .error (l, 111) := by unfold aliRow; rw [if_pos h]
theorem aliRow_e {F : Fil} {l : Nat} {row : List Bs} (h : row.length = 2) (he : So.rE F.kind (fld row 1) ≠ 0) : aliRow F l row = .error (l, (So.rE F.kind (fld row 1)).toNat) := by unfold aliRow; rw [if_neg (by omega), if_pos he]
theorem aliRow_ok {F : Fil} {l : Nat} {row : List Bs} (h : row.length = 2) (he : So.rE F.kind (fld row 1) = 0) : aliRow F l row = .ok (So.rS F.kind (fld row 1)) := by unfold aliRow; rw [if_neg (by omega), if_neg (fun e => e he)]
theorem doAliases_c {R : Rdr} {hd : List Bs} (h : R.file.classes ≠ []) : doAliases R hd = .error (R.line, 113) := by unfold doAliases; rw [if_pos h]
theorem doAliases_n {R : Rdr} {hd : List Bs} {e : Er} (h0 : R.file.classes = []) (h : numb R.line (fld hd 1) 1024 = .error e) : doAliases R hd = .error e := by unfold doAliases; rw [if_neg (fun e => e h0), h]
theorem doAliases_t {R : Rdr} {hd : List Bs} {n : Nat} (h0 : R.file.classes = []) (h : numb R.line (fld hd 1) 1024 = .ok n) : doAliases R hd = times (aliStep (fld hd 0)) n R := by unfold doAliases; rw [if_neg (fun e => e h0), h]
theorem numb_le {l : Nat} {f : Bs} {m n : Nat} (h : numb l f m = .ok n) : n ≤ m := by
  unfold numb at h
  split at h
  · rename_i q
    injection h with h
    rw [← h]
    exact (num_pos q).2
  · cases h
theorem str_at {n g m cap : Nat} {w : World} {L : List Bs} (h : StrRow n w (.slice (some ⟨g, 0, none⟩) m cap) (L.map Fld.str)) : g < w.heap.size ∧ m = L.length ∧ ∀ (j : Nat) x, L[j]? = some x → w.cell? ⟨g, j, none⟩ = some (.string (Fld.str x)) := by
  obtain ⟨g', cap', e, h1, h2, h3, h4, h5⟩ := str_cells h
  injection e with e1 e2 e3
  injection e1 with e1
  injection e1 with e1 _ _
  subst e1
  exact ⟨h1, e2, h5⟩
theorem step_app {P : Program} {ops : Array Oper} {o : Oper} {a : Act} {w : World} {K : Act → World → Prop} {Q : Exit → Act → World → Prop} {E : Prop}
    (hg : o.guard = none) (s x : Operand) (t : TypeId) (hop : o.op = Op.call { callee := Callee.builtin Builtin.append, args := #[s, x], argTypes := #[t, t] })
    (v u v' : Value) (w' : World) (hs : a.eval s = v) (hx : a.eval x = u) (hrun : (Builtin.append_ #[t, t] o.type #[v, u]).run P w = .ok v' w') (hK : K (a.put o.dst v') w') :
    if Region.wanted o (yielded ops a.tmps) = true then Oper.wp P o a w K Q else E := by
  have hw : Region.wanted o (yielded ops a.tmps) = true := by simp [Region.wanted, hg]
  rw [if_pos hw]
  unfold Oper.wp
  simp [execOp, hop, resolve, invoke, builtin, hs, hx, hrun, Result.andThen]
  exact hK
/-- the file of a reader with one list turned -/
theorem RAt.addRep {B rb : Nat} {w w4 w5 : World} {R : Rdr} {P : Pts} {v' : Value} (h : RAt B w rb R P) (p : Bs × Bs) (hn : R.file.reps.length < 256) (k4 : Below w.heap.size w w4)
    (k5 : Kq [114] noM w4 w5) (l5 : Below B w4 w5) (o5 : w5.ownsRow B 114 2 v' (R.file.reps.length + 1) (R.file.reps.flatMap repC ++ repC p)) :
    RAt B (w5.setCell ⟨P.fb, 9, none⟩ v') rb { R with file := { R.file with reps := R.file.reps ++ [p] } } { P with vr := v' } ∧ Kt B P.pm P.hm w (w5.setCell ⟨P.fb, 9, none⟩ v') := by
  have hB := h.base
  have h4 := h.below k4
  have hfil : w5.heap[P.fb]? = some (.cells (filC R.file P) 111 (0, 0)) := (k5.cells _ _ _ _ h4.file.fil (by decide)).trans h4.file.fil
  have k6 : Kq [111] noM w5 (w5.setCell ⟨P.fb, 9, none⟩ v') := .kp (kp_set w5 P.fb 9 v') hfil (by simp)
  let T : List TypeId := [111, 114]
  have kk : Kq T noM w4 (w5.setCell ⟨P.fb, 9, none⟩ v') := (k5.wide (by decide) (fun _ x => x)).trans (k6.wide (by decide) (fun _ x => x))
  have kw : Kq T noM w (w5.setCell ⟨P.fb, 9, none⟩ v') := (Kq.below k4).trans kk
  have hlow : Below B w (w5.setCell ⟨P.fb, 9, none⟩ v') := ((k4.mono hB).trans l5).setCell (p := ⟨P.fb, 9, none⟩) h.file.fbB v'
  have ok := h.file.ok
  have hf : FAt B (w5.setCell ⟨P.fb, 9, none⟩ v') { R.file with reps := R.file.reps ++ [p] } { P with vr := v' } := by
    refine h4.file.kq kk rfl rfl (set_heap1 (k := 9) hfil v') (.inr ⟨rfl, fun x => x⟩) (.inl ?_) (.inr ⟨rfl, rfl, rfl, by decide⟩) (.inr ⟨rfl, rfl, by decide⟩) (.inr ⟨rfl, rfl, rfl, by decide⟩) (by decide) ⟨ok.kind, ok.spec, ok.specB, ok.cls, ?_, ok.ali, ok.aliS, ok.rul, ok.len⟩
    · have e1 := own_kq o5 k6 (by decide)
      simpa using e1
    · simp; omega
  refine ⟨h.kq kw hf rfl rfl rfl ((kw.cells _ _ _ _ h.rdr (by decide)).trans h.rdr) (own_kq h.lns kw (by decide)) rfl rfl rfl rfl (by decide) (by decide) (fun x => x), kw.kt hlow (by decide) (fun g x => x.elim)⟩
theorem RAt.addAli {B rb : Nat} {w w4 w5 : World} {R : Rdr} {P : Pts} {u v' : Value} (h : RAt B w rb R P) (p : List Int) (hs : So.setOf p = p ∧ p.length ≤ 1048577) (hn : R.file.aliases.length < 1024) (k4 : Below w.heap.size w w4) (hu : FNx w.heap.size w4 u p)
    (k5 : Kq [39] noM w4 w5) (l5 : Below B w4 w5) (o5 : w5.ownsRow B 39 1 v' (R.file.aliases.length + 1) (P.av ++ [u])) :
    RAt B (w5.setCell ⟨P.fb, 10, none⟩ v') rb { R with file := { R.file with aliases := R.file.aliases ++ [p] } } { P with va := v', av := P.av ++ [u] } ∧ Kt B P.pm P.hm w (w5.setCell ⟨P.fb, 10, none⟩ v') := by
  have hB := h.base
  have h4 := h.below k4
  have hfil : w5.heap[P.fb]? = some (.cells (filC R.file P) 111 (0, 0)) := (k5.cells _ _ _ _ h4.file.fil (by decide)).trans h4.file.fil
  have k6 : Kq [111] noM w5 (w5.setCell ⟨P.fb, 10, none⟩ v') := .kp (kp_set w5 P.fb 10 v') hfil (by simp)
  let T : List TypeId := [111, 39]
  have kk : Kq T noM w4 (w5.setCell ⟨P.fb, 10, none⟩ v') := (k5.wide (by decide) (fun _ x => x)).trans (k6.wide (by decide) (fun _ x => x))
  have kw : Kq T noM w (w5.setCell ⟨P.fb, 10, none⟩ v') := (Kq.below k4).trans kk
  have hlow : Below B w (w5.setCell ⟨P.fb, 10, none⟩ v') := ((k4.mono hB).trans l5).setCell (p := ⟨P.fb, 10, none⟩) h.file.fbB v'
  have ok := h.file.ok
  have hf : FAt B (w5.setCell ⟨P.fb, 10, none⟩ v') { R.file with aliases := R.file.aliases ++ [p] } { P with va := v', av := P.av ++ [u] } := by
    refine h4.file.kq kk rfl rfl (set_heap1 (k := 10) hfil v') (.inr ⟨rfl, fun x => x⟩) (.inr ⟨rfl, rfl, by decide⟩) (.inl ⟨?_, ?_, ?_⟩) (.inr ⟨rfl, rfl, by decide⟩) (.inr ⟨rfl, rfl, rfl, by decide⟩) (by decide) ⟨ok.kind, ok.spec, ok.specB, ok.cls, ok.reps, ?_, ?_, ok.rul, ok.len⟩
    · have e1 := own_kq o5 k6 (by decide)
      simpa using e1
    · simp [h.file.aliF.1]
    · intro i v q hv hq
      rcases snoc_get hv with ⟨_, hv⟩ | ⟨hi, hv⟩
      · rcases snoc_get hq with ⟨_, hq⟩ | ⟨hi2, hq⟩
        · exact fnx_kq (h4.file.aliF.2 i v q hv hq) kk (by decide)
        · have := h.file.aliF.1; omega
      · rcases snoc_get hq with ⟨hi2, hq⟩ | ⟨hi2, hq⟩
        · have := h.file.aliF.1; omega
        · subst hv hq
          exact (fnx_kq hu kk (by decide)).low hB
    · simp; omega
    · intro a ha
      rcases List.mem_append.1 ha with q | q
      · exact ok.aliS a q
      · simp at q; subst q; exact hs
  refine ⟨h.kq kw hf rfl rfl rfl ((kw.cells _ _ _ _ h.rdr (by decide)).trans h.rdr) (own_kq h.lns kw (by decide)) rfl rfl rfl rfl (by decide) (by decide) (fun x => x), kw.kt hlow (by decide) (fun g x => x.elim)⟩
/-- a group that is read: the reader, what has stayed, the heading -/
structure LP (B rb : Nat) (w W : World) (R : Rdr) (P P0 : Pts) (hv : Value) (hd : List Bs) : Prop where
  at_ : RAt B W rb R P
  kt : Kt B P0.pm P0.hm w W
  row : StrRow B W hv (hd.map Fld.str)
  eq : P.fb = P0.fb ∧ P.pm = P0.pm ∧ P.hm = P0.hm
theorem LP.start {B rb : Nat} {w : World} {R : Rdr} {P : Pts} {hv : Value} {hd : List Bs} (h : RAt B w rb R P) (hr : StrRow B w hv (hd.map Fld.str)) : LP B rb w w R P P hv hd := ⟨h, Kt.refl _ _ _ _, hr, rfl, rfl, rfl⟩
theorem LP.below {B rb : Nat} {w W W' : World} {R : Rdr} {P P0 : Pts} {hv : Value} {hd : List Bs} (h : LP B rb w W R P P0 hv hd) (b : Below W.heap.size W W') : LP B rb w W' R P P0 hv hd :=
  ⟨h.at_.below b, h.kt.trans (Kt.of_below b h.at_.base), str_kept h.row (below_kept b), h.eq⟩
/-- a row of the group was taken -/
theorem LP.grow {B rb : Nat} {w W W' : World} {R R1 : Rdr} {P P0 : Pts} {hv rv : Value} {hd : List Bs} (h : LP B rb w W R P P0 hv hd) (k : Kp rb W W') (l : Below B W W') (r : RAt B W' rb R1 { P with rv := rv }) : LP B rb w W' R1 { P with rv := rv } P0 hv hd := by
  have kt : Kt B P0.pm P0.hm W W' := by rw [← h.eq.2.1, ← h.eq.2.2]; exact h.at_.kt k l
  exact ⟨r, h.kt.trans kt, kt.str h.row, h.eq⟩
theorem LP.turn {B rb : Nat} {w W W' : World} {R R1 : Rdr} {P P' P0 : Pts} {hv : Value} {hd : List Bs} (h : LP B rb w W R P P0 hv hd) (r : RAt B W' rb R1 P' ∧ Kt B P.pm P.hm W W') (e : P'.fb = P.fb ∧ P'.pm = P.pm ∧ P'.hm = P.hm) : LP B rb w W' R1 P' P0 hv hd := by
  have kt : Kt B P0.pm P0.hm W W' := by rw [← h.eq.2.1, ← h.eq.2.2]; exact r.2
  exact ⟨r.1, h.kt.trans kt, kt.str h.row, e.1.trans h.eq.1, e.2.1.trans h.eq.2.1, e.2.2.trans h.eq.2.2⟩
theorem LP.yes {B rb : Nat} {w W : World} {R : Rdr} {P P0 : Pts} {hv : Value} {hd : List Bs} {X : Except Er Rdr} (h : LP B rb w W R P P0 hv hd) (hX : X = .ok R) : Res B rb P0 w X (.returned (.tuple #[])) W := Res.yes hX h.kt h.at_ h.eq.1 h.eq.2.1 h.eq.2.2
theorem LP.no {B rb : Nat} {w W W' : World} {R : Rdr} {P P0 : Pts} {hv : Value} {hd : List Bs} {X : Except Er Rdr} {er : Er} (h : LP B rb w W R P P0 hv hd) (b : Below W.heap.size W W') (hX : X = .error er) : Res B rb P0 w X (.panicked (chn er)) W' := Res.no hX (h.kt.trans (Kt.of_below b h.at_.base))
theorem LP.no2 {B rb : Nat} {w W W' : World} {R : Rdr} {P P0 : Pts} {hv : Value} {hd : List Bs} {X : Except Er Rdr} {er : Er} (h : LP B rb w W R P P0 hv hd) (k : Kp rb W W') (l : Below B W W') (hX : X = .error er) : Res B rb P0 w X (.panicked (chn er)) W' := by
  refine Res.no hX (h.kt.trans ?_)
  rw [← h.eq.2.1, ← h.eq.2.2]
  exact h.at_.kt k l
/-- a literal list of texts, new -/
theorem str_new (W : World) (L : List Bs) (h : L.length ≤ 1000) (_h0 : L ≠ []) : StrRow W.heap.size (W.alloc (.cells (L.map fun x => Value.string (Fld.str x)).toArray 9)) (.slice (some ⟨W.heap.size, 0, none⟩) L.length L.length) (L.map Fld.str) := by
  refine ⟨W.heap.size, L.length, _, by simp, Nat.le_refl _, alloc_new W _, by simp, by unfold maxLen; omega, by simp, ?_⟩
  rw [List.take_of_length_le (by simp)]
  simp
/-- a step of a group takes a row and keeps what bounds it -/
theorem grow_rows {R R1 : Rdr} {beg row : List Bs} (h : Af.grow R beg = .ok (row, R1)) : ∃ l t, R.rows = (l, row) :: t ∧ R1.rows = t ∧ R1.line = l ∧ R1.file = R.file ∧ R1.heads = R.heads ∧ R1.behind = R.behind := by
  obtain ⟨l, t, h1, h2⟩ := grow_fld h
  subst h2
  exact ⟨l, t, h1, rfl, rfl, rfl, rfl, rfl⟩
theorem grow_len {R R1 : Rdr} {beg row : List Bs} (hk : RowsOk R.rows) (h : Af.grow R beg = .ok (row, R1)) : row ≠ [] ∧ ∀ f ∈ row, f.length ≤ 65536 := by
  obtain ⟨l, t, h1, -⟩ := grow_fld h
  have := hk (l, row) (by rw [h1]; simp)
  exact ⟨this.2.1, this.2.2⟩
end Af
end Go.Proofs.YtlajdmjpobckhaaGreatDoor
/- A drawn region whose last operation waits for all others: what the others do, and then the last one. -/
namespace Go.Proofs.YtlajdmjpobckhaaGreatDoor
namespace Lst
/-- what is left behind all but the last operation -/
def QL (P : Program) (o : Oper) (Q : Exit → Act → World → Prop) : Exit → Act → World → Prop
  | .normal, a, w => o.wp P a w (Q .normal) Q
  | e, a, w => Q e a w
theorem lets_QL {P : Program} {o : Oper} {Q : Exit → Act → World → Prop} (h : LetsOut (QL P o Q)) : LetsOut Q := by
  obtain ⟨a, w, q⟩ := h
  exact ⟨a, w, q⟩
theorem wp_QL {P : Program} {o p : Oper} {a : Act} {w : World} {K K' : Act → World → Prop} {Q : Exit → Act → World → Prop} (h : ∀ a w, K a w → K' a w) (hh : p.wp P a w K (QL P o Q)) : p.wp P a w K' Q := by
  unfold Oper.wp at *
  generalize (execOp a.eval p).run P w = r at *
  cases r with
  | ok n w' =>
    cases n <;> simp only [Oper.upon] at hh ⊢
    case value => exact h _ _ hh
    case skip => exact h _ _ hh
    case defer => exact h _ _ hh
    case enter =>
      refine Calls.mono hh fun e w'' he => ?_
      cases e with
      | returned v => exact h _ _ he
      | panicked c => exact he
      | outgrown => exact lets_QL he
    case row => exact Rows.mono hh fun v w'' he => h _ _ he
  | halt x w' =>
    cases x <;> simp only [Oper.upon] at hh ⊢
    case panic => exact hh
def isAfter (o : Oper) (j : Nat) : Bool := o.after.any fun e => Region.binds .any e && e.on == j
def lastOk (ops : Array Oper) (o : Oper) : Bool :=
  ((List.range ops.size).all fun i => match ops[i]? with
    | none => true
    | some p => p.guard.isNone && p.after.all fun e => !Region.binds .any e || decide (e.on < i)) &&
  (o.guard.isNone && (o.after.all fun e => !Region.binds .any e || decide (e.on < ops.size))) &&
  ((List.range ops.size).all fun j => isAfter o j || (List.range ops.size).any fun k => decide (j < k) && match ops[k]? with
    | none => false
    | some p => isAfter p j)
structure LOk (ops : Array Oper) (o : Oper) : Prop where
  g : ∀ (i : Nat) (p : Oper), ops[i]? = some p → p.guard = none
  lt : ∀ (i : Nat) (p : Oper), ops[i]? = some p → ∀ e ∈ p.after, Region.binds .any e = true → e.on < i
  g0 : o.guard = none
  lt0 : ∀ e ∈ o.after, Region.binds .any e = true → e.on < ops.size
  all : ∀ j, j < ops.size → (∃ e ∈ o.after, Region.binds .any e = true ∧ e.on = j) ∨ ∃ (k : Nat) (p : Oper), j < k ∧ k < ops.size ∧ ops[k]? = some p ∧ ∃ e ∈ p.after, Region.binds .any e = true ∧ e.on = j
theorem isAfter_spec {o : Oper} {j : Nat} (h : isAfter o j = true) : ∃ e ∈ o.after, Region.binds .any e = true ∧ e.on = j := by
  unfold isAfter at h
  rw [Array.any_eq_true'] at h
  obtain ⟨e, he, h⟩ := h
  simp only [Bool.and_eq_true, beq_iff_eq] at h
  exact ⟨e, he, h.1, h.2⟩
theorem after_spec {o : Oper} {n : Nat} (h : (o.after.all fun e => !Region.binds .any e || decide (e.on < n)) = true) : ∀ e ∈ o.after, Region.binds .any e = true → e.on < n := by
  rw [Array.all_eq_true_iff_forall_mem] at h
  intro e he hb
  have := h e he
  simpa [hb] using this
theorem LOk.of {ops : Array Oper} {o : Oper} (h : lastOk ops o = true) : LOk ops o := by
  unfold lastOk at h
  simp only [Bool.and_eq_true, List.all_eq_true, List.mem_range, Option.isNone_iff_eq_none] at h
  obtain ⟨⟨h1, h2, h3⟩, h4⟩ := h
  have hlt : ∀ (i : Nat) (p : Oper), ops[i]? = some p → i < ops.size := fun i p hp => (Array.getElem?_eq_some_iff.1 hp).1
  refine ⟨fun i p hp => ?_, fun i p hp => ?_, h2, after_spec h3, fun j hj => ?_⟩
  · have := h1 i (hlt i p hp)
    rw [hp] at this
    simp only [Bool.and_eq_true, Option.isNone_iff_eq_none] at this
    exact this.1
  · have := h1 i (hlt i p hp)
    rw [hp] at this
    simp only [Bool.and_eq_true] at this
    exact after_spec this.2
  · have := h4 j hj
    simp only [Bool.or_eq_true, List.any_eq_true, List.mem_range, Bool.and_eq_true, decide_eq_true_eq] at this
    rcases this with q | ⟨k, hk, hjk, q⟩
    · exact .inl (isAfter_spec q)
    · cases hp : ops[k]? with
      | none => rw [hp] at q; cases q
      | some p => rw [hp] at q; exact .inr ⟨k, p, hjk, hk, hp, isAfter_spec q⟩
def Closed (ops : Array Oper) (L : Array Bool) : Prop := ∀ (i : Nat) (p : Oper), ops[i]? = some p → L.getD i false = true → ∀ e ∈ p.after, Region.binds .any e = true → L.getD e.on false = true
theorem all_last {ops : Array Oper} {o : Oper} {L : Array Bool} (h : LOk ops o) (c : Closed ops L) (ho : ∀ e ∈ o.after, Region.binds .any e = true → L.getD e.on false = true) : ∀ m j, j < ops.size → ops.size - j ≤ m → L.getD j false = true := by
  intro m
  induction m with
  | zero => intro j h1 h2; omega
  | succ m ih =>
    intro j h1 h2
    rcases h.all j h1 with ⟨e, he, hb, rfl⟩ | ⟨k, p, hjk, hk, hp, e, he, hb, rfl⟩
    · exact ho e he hb
    · exact c k p hp (ih k hk (by omega)) e he hb
theorem getD_ft {L : Array Bool} {j : Nat} (h : j < L.size) : L.getD j false = L.getD j true := by
  simp [Array.getD, h]
theorem all_nil {ops : Array Oper} {o : Oper} {L : Array Bool} (h : LOk ops o) (hs : L.size = ops.size) (hr : Region.ready .any ops L = []) : ∀ m j, j < m → j < ops.size → L.getD j false = true := by
  intro m
  induction m with
  | zero => intro j h1; omega
  | succ m ih =>
    intro j h1 h2
    cases hq : L.getD j false with
    | true => rfl
    | false =>
      exfalso
      have : j ∈ Region.ready .any ops L := by
        rw [mem_ready]
        obtain ⟨p, hp⟩ : ∃ p, ops[j]? = some p := ⟨_, Array.getElem?_eq_getElem h2⟩
        refine ⟨by rw [← getD_ft (by omega)]; exact hq, p, hp, fun e he hb => ?_⟩
        have := h.lt j p hp e he hb
        exact ih e.on (by omega) (by omega)
      rw [hr] at this
      cases this
theorem push_lt {α : Type} {A : Array α} {x : α} {i : Nat} (h : i < A.size) : (A.push x)[i]? = A[i]? := by
  rw [Array.getElem?_push]
  simp [Nat.ne_of_lt h]
theorem push_eq {α : Type} {A : Array α} {x : α} : (A.push x)[A.size]? = some x := by simp
theorem getD_push {L : Array Bool} {b d : Bool} {i : Nat} (h : i < L.size) : (L.push b).getD i d = L.getD i d := by
  have h2 : i < (L.push b).size := by simp; omega
  simp [Array.getD, h, Nat.lt_succ_of_lt h, Array.getElem_push]
theorem getD_pushn {L : Array Bool} {b d : Bool} : (L.push b).getD L.size d = b := by
  simp [Array.getD]
section
variable {P : Program} {ops : Array Oper} {o : Oper} {Q : Exit → Act → World → Prop}
theorem ready_all {L : Array Bool} (h : LOk ops o) (hs : L.size = ops.size) (ha : ∀ j, j < ops.size → L.getD j false = true) : ops.size ∈ Region.ready .any (ops.push o) (L.push false) := by
  rw [mem_ready]
  refine ⟨by rw [← hs]; exact getD_pushn, o, push_eq, fun e he hb => ?_⟩
  have := h.lt0 e he hb
  rw [getD_push (by omega)]
  exact ha _ this
theorem ready_end {L : Array Bool} (hs : L.size = ops.size) (ha : ∀ j, j < ops.size → L.getD j false = true) : Region.ready .any (ops.push o) ((L.push false).setIfInBounds ops.size true) = [] := by
  rw [List.eq_nil_iff_forall_not_mem]
  intro j hj
  rw [mem_ready] at hj
  obtain ⟨h0, p, hp, -⟩ := hj
  have hlt := (Array.getElem?_eq_some_iff.1 hp).1
  simp only [Array.size_push] at hlt
  have e1 : (L.push false).setIfInBounds ops.size true = L.push true := by
    rw [← hs]
    apply Array.ext_getElem?
    intro k
    simp only [Array.getElem?_setIfInBounds, Array.getElem?_push, Array.size_push]
    by_cases q : L.size = k
    · subst q; simp
    · simp [q, Ne.symm q]
  rw [e1] at h0
  by_cases q : j = L.size
  · subst q; rw [getD_pushn] at h0; cases h0
  · have hj : j < L.size := by omega
    rw [getD_push hj, ← getD_ft hj, ha j (by omega)] at h0
    cases h0
theorem any_end {L : Array Bool} (h : LOk ops o) (hs : L.size = ops.size) (ha : ∀ j, j < ops.size → L.getD j false = true) {a : Act} {w : World} (hq : QL P o Q .normal a w) (f : Nat) : wpAny P .any (ops.push o) Q (f + 1) (L.push false) a w := by
  refine ⟨fun hn => ?_, fun i hi => ?_⟩
  · have := ready_all h hs ha
    rw [hn] at this
    cases this
  · have hi' := hi
    rw [mem_ready] at hi
    obtain ⟨h0, p, hp, -⟩ := hi
    have hlt := (Array.getElem?_eq_some_iff.1 hp).1
    simp only [Array.size_push] at hlt
    have : i = ops.size := by
      by_cases q : i < L.size
      · rw [getD_push q, ← getD_ft q, ha i (by omega)] at h0
        cases h0
      · omega
    subst this
    unfold wpOp
    rw [push_eq]
    have hw : Region.wanted o (yielded (ops.push o) a.tmps) = true := by simp [Region.wanted, h.g0]
    simp only [hw, if_true]
    refine .inl (Oper.wp_mono (fun a' w' q => ?_) hq)
    have he := ready_end (o := o) hs ha
    cases f with
    | zero => exact ⟨he, q⟩
    | succ f => exact ⟨fun _ => q, by rw [he]; simp⟩
theorem any_last (h : LOk ops o) : ∀ (fuel : Nat) (L : Array Bool) (a : Act) (w : World), L.size = ops.size → Closed ops L → wpAny P .any ops (QL P o Q) fuel L a w → wpAny P .any (ops.push o) Q (fuel + 1) (L.push false) a w := by
  intro fuel
  induction fuel with
  | zero =>
    intro L a w hs hc hh
    exact any_end h hs (fun j hj => all_nil h hs hh.1 (j + 1) j (by omega) hj) hh.2 0
  | succ fuel ih =>
    intro L a w hs hc hh
    by_cases hr : Region.ready .any ops L = []
    · exact any_end h hs (fun j hj => all_nil h hs hr (j + 1) j (by omega) hj) (hh.1 hr) (fuel + 1)
    · have back : ∀ i, i ∈ Region.ready .any (ops.push o) (L.push false) → i ∈ Region.ready .any ops L := by
        intro i hi
        rw [mem_ready] at hi
        obtain ⟨h0, p, hp, hall⟩ := hi
        have hlt := (Array.getElem?_eq_some_iff.1 hp).1
        simp only [Array.size_push] at hlt
        by_cases q : i = ops.size
        · exfalso
          subst q
          rw [push_eq] at hp
          injection hp with hp
          subst hp
          have ha : ∀ j, j < ops.size → L.getD j false = true := fun j hj => all_last h hc (fun e he hb => by
            have q1 := hall e he hb
            have q2 := h.lt0 e he hb
            rw [getD_push (by omega)] at q1
            exact q1) ops.size j hj (by omega)
          apply hr
          rw [List.eq_nil_iff_forall_not_mem]
          intro j hj
          rw [mem_ready] at hj
          obtain ⟨h0, p, hp, -⟩ := hj
          have hjl := (Array.getElem?_eq_some_iff.1 hp).1
          rw [← getD_ft (by omega), ha j hjl] at h0
          cases h0
        · have hi : i < ops.size := by omega
          rw [push_lt hi] at hp
          rw [mem_ready]
          refine ⟨by rw [getD_push (by omega)] at h0; exact h0, p, hp, fun e he hb => ?_⟩
          have q1 := hall e he hb
          have q2 := h.lt i p hp e he hb
          rw [getD_push (by omega)] at q1
          exact q1
      have forth : ∀ i, i ∈ Region.ready .any ops L → i ∈ Region.ready .any (ops.push o) (L.push false) := by
        intro i hi
        rw [mem_ready] at hi
        obtain ⟨h0, p, hp, hall⟩ := hi
        have hlt := (Array.getElem?_eq_some_iff.1 hp).1
        rw [mem_ready]
        refine ⟨by rw [getD_push (by omega)]; exact h0, p, (push_lt hlt).trans hp, fun e he hb => ?_⟩
        have q2 := h.lt i p hp e he hb
        rw [getD_push (by omega)]
        exact hall e he hb
      refine ⟨fun hn => ?_, fun i hi => ?_⟩
      · exfalso
        apply hr
        rw [List.eq_nil_iff_forall_not_mem]
        intro i hi
        have := forth i hi
        rw [hn] at this
        cases this
      · have hi' := back i hi
        have h1 := hh.2 i hi'
        rw [mem_ready] at hi'
        obtain ⟨h0, p, hp, hall⟩ := hi'
        have hlt := (Array.getElem?_eq_some_iff.1 hp).1
        unfold wpOp at h1 ⊢
        rw [push_lt hlt, hp]
        rw [hp] at h1
        have hw : ∀ y, Region.wanted p y = true := fun y => by simp [Region.wanted, h.g i p hp]
        simp only [hw, if_true] at h1 ⊢
        have e1 : (L.push false).setIfInBounds i true = (L.setIfInBounds i true).push false := by
          have hil : i < L.size := by omega
          apply Array.ext_getElem?
          intro k
          simp only [Array.getElem?_setIfInBounds, Array.getElem?_push, Array.size_push, Array.size_setIfInBounds]
          by_cases q : i = k
          · subst q
            simp [Nat.ne_of_lt hil, hil, Nat.lt_succ_of_lt hil]
          · simp [q]
        rcases h1 with h1 | ⟨h1, h2⟩
        · refine .inl (wp_QL (fun a' w' q => ?_) h1)
          rw [e1]
          refine ih _ a' w' (by simp; exact hs) ?_ q
          intro k pk hpk hk e he hb
          by_cases q : k = i
          · subst q
            rw [hp] at hpk
            injection hpk with hpk
            subst hpk
            exact getD_set_true (hall e he hb)
          · refine getD_set_true (hc k pk hpk ?_ e he hb)
            rw [getD_set_ne false (Ne.symm q)] at hk
            exact hk
        · exact .inr ⟨h1, lets_QL h2⟩
end
theorem push_of {α : Type} {A B : Array α} {x : α} (hp : A.pop = B) (hb : A.back? = some x) : A = B.push x := by
  subst hp
  have hs : 0 < A.size := by
    cases hA : A.size with
    | zero => have : A = #[] := by simpa using hA
              subst this; simp at hb
    | succ n => omega
  apply Array.ext
  · simp; omega
  · intro i h1 h2
    rw [Array.getElem_push]
    split
    · simp
    · rename_i q
      simp at q
      rw [Array.back?_eq_getElem?] at hb
      have : i = A.size - 1 := by omega
      subst this
      rw [Array.getElem?_eq_getElem h1] at hb
      injection hb
/-- a drawn region: all but its last operation under S, and then the last one -/
theorem region_last {P : Program} {ops ops1 : Array Oper} {o : Oper} {Q : Exit → Act → World → Prop} {S : World → Prop} {id : Nat} {a : Act} {w : World} (hm : P.follows .mixedOrders = true) (hp : ops.pop = ops1) (hb : ops.back? = some o) (hok : lastOk ops1 o = true) (hS : S w.drew)
    (h : S w.drew → wpAnyH P .any ops1 (QL P o Q) S ops1.size (Array.replicate ops1.size false) a w.drew) : (Code.region id ops true).wp P Q a w := by
  rw [push_of hp hb]
  refine wp_region_any hm ?_
  have := any_last (LOk.of hok) _ _ a _ (by simp) (fun i p hp hl => by
    have hlt := (Array.getElem?_eq_some_iff.1 hp).1
    simp [Array.getD, hlt] at hl) (wpAny_of_held _ _ _ _ (h hS))
  rw [Array.size_push, Array.replicate_succ]
  exact this
end Lst
end Go.Proofs.YtlajdmjpobckhaaGreatDoor
/- The reader: headings with one field: COMPOUNDMIN, TRY. -/
namespace Go.Proofs.YtlajdmjpobckhaaGreatDoor
open Go.RowKit
namespace Af
open RowB
theorem numb_no {l : Nat} {f : Bs} {m : Nat} {e : Er} (h : numb l f m = .error e) : e = (l, 13) := by
  unfold numb at h
  split at h
  · cases h
  · injection h with h; exact h.symm
theorem doLeast_n {R : Rdr} {f : Bs} {e : Er} (h : numb R.line f 64 = .error e) : doLeast R f = .error e := by unfold doLeast; rw [h]
theorem doLeast_0 {R : Rdr} {f : Bs} (h : numb R.line f 64 = .ok 0) : doLeast R f = .error (R.line, 13) := by unfold doLeast; rw [h]; rfl
theorem doLeast_ok {R : Rdr} {f : Bs} {n : Nat} (h : numb R.line f 64 = .ok n) (h0 : n ≠ 0) : doLeast R f = .ok { R with file := { R.file with least := n } } := by unfold doLeast; rw [h]; simp [h0]
set_option maxHeartbeats 1000000 in
theorem readLeast_any {B rb : Nat} {R : Rdr} {P : Pts} {w : World} (h : RAt B w rb R P) (k : Value) (hd : List Bs) (hv : Value) (hrow : StrRow B w hv (hd.map Fld.str)) (hlen : hd.length = 2) (hf : ∀ f ∈ hd, f.length ≤ 65536) :
    Calls Tryz.prog 74 #[ptr rb, hv, k] w (Res B rb P w (doLeast R (fld hd 1))) := by
  obtain ⟨d0, -, hl, -, -, -, -⟩ := h.cells
  have hb := h.lt
  have HH := hide h
  obtain ⟨g, cap, rfl, hg, h1, h2, -, hcl⟩ := str_cells hrow
  unfold maxLen at h2
  have q1 := hcl 1 _ (fld_get (by omega))
  have hf1 := hf _ (List.mem_of_getElem? (fld_get (row := hd) (i := 1) (by omega)))
  have HN := hide (number_any rb R.line (Fld.str (fld hd 1)) 64 w (by rw [fstr_wd, Wd.str_size]; omega) (by decide) hl)
  have e1 : (Fld.str (fld hd 1)).data.toList = fld hd 1 := by simp [Fld.str]
  rw [e1] at HN
  have HL := hide hl
  rw [hlen] at h1 ⊢
  clear hcl hf hf1 e1 hrow hlen hl
  cases hn : numb R.line (fld hd 1) 64 with
  | error er =>
    have HX := hide (doLeast_n hn)
    have HNN := hide (noOf (unhide HN) hn)
    clear HN hn h d0
    generalize Fld.str (fld hd 1) = r1 at *
    go_enter Tryz.func74, Tryz.ntmps74
    go_wp2_with (go_at_call 97; refine (unhide HNN).mono ?_; rintro e w4 ⟨rfl, rfl⟩)
    exact ⟨rfl, Res.no (unhide HX) (Kt.refl _ _ _ _)⟩
  | ok n =>
    have HNN := hide (okOf (unhide HN) hn)
    by_cases h0 : n = 0
    · subst h0
      have HX := hide (doLeast_0 hn)
      have HV := hide (leaveIf_no rb R.line 13 w (by decide) (by decide) (unhide HL))
      clear HN hn h d0
      generalize Fld.str (fld hd 1) = r1 at *
      go_enter Tryz.func74, Tryz.ntmps74
      go_wp2_with (first | (go_at_call 97; refine (unhide HNN).mono ?_; rintro e w4 ⟨rfl, rfl⟩) | (go_at_call 79; refine (unhide HV).mono ?_; rintro e w5 ⟨rfl, rfl⟩))
      exact ⟨rfl, Res.no (unhide HX) (Kt.refl _ _ _ _)⟩
    · have HX := hide (doLeast_ok hn h0)
      obtain ⟨kc, kz⟩ : w.cell? ⟨P.fb, 8, none⟩ = some (.int .i64 (R.file.least : Nat)) ∧ ∀ j, w.frozen? ⟨P.fb, j, none⟩ = false := by
        have := h.file.fil
        simp [World.cell?, World.frozen?, this, filC]
      have hfb := h.file.lt
      have ok := h.file.ok
      have HF := hide (h.fset (Below.refl _ w) (F' := { R.file with least := n }) 8 (.int .i64 (n : Nat)) rfl rfl rfl rfl rfl ⟨ok.kind, ok.spec, ok.specB, ok.cls, ok.reps, ok.ali, ok.aliS, ok.rul, ok.len⟩)
      have hni : ((n : Int) == 0) = false := by simpa using h0
      have h0i : ¬ (n : Int) = 0 := by omega
      clear HN hn h ok h0
      generalize Fld.str (fld hd 1) = r1 at *
      go_enter Tryz.func74, Tryz.ntmps74
      go_wp2_with (first | (go_at_call 97; refine (unhide HNN).mono ?_; rintro e w4 ⟨rfl, rfl⟩) | (go_at_call 79; refine (leaveIf_f _ _ _ _ (by first | rfl | exact hni)).mono ?_; rintro e w5 ⟨rfl, rfl⟩))
      go_end0
      exact Res.yes (unhide HX) (unhide HF).2 (unhide HF).1 rfl rfl rfl
theorem doLetters_no {R : Rdr} {f : Bs} (h : VlW.okB f = false) : doLetters R f = .error (R.line, 21) := by unfold doLetters; rw [h]; rfl
theorem doLetters_ok {R : Rdr} {f : Bs} (h : VlW.okB f = true) : doLetters R f = .ok { R with file := { R.file with letters := Wd.uq [] f } } := by unfold doLetters; rw [if_pos h]
set_option maxHeartbeats 1000000 in
theorem readTry_any {B rb : Nat} {R : Rdr} {P : Pts} {w : World} (h : RAt B w rb R P) (k : Value) (hd : List Bs) (hv : Value) (hrow : StrRow B w hv (hd.map Fld.str)) (hlen : hd.length = 2) (hf : ∀ f ∈ hd, f.length ≤ 65536) :
    Calls Tryz.prog 72 #[ptr rb, hv, k] w (Res B rb P w (doLetters R (fld hd 1))) := by
  obtain ⟨d0, -, hl, -, -, -, -⟩ := h.cells
  have hb := h.lt
  have HH := hide h
  obtain ⟨g, cap, rfl, hg, h1, h2, -, hcl⟩ := str_cells hrow
  unfold maxLen at h2
  have q1 := hcl 1 _ (fld_get (by omega))
  have hf1 := hf _ (List.mem_of_getElem? (fld_get (row := hd) (i := 1) (by omega)))
  have e1 : (Fld.str (fld hd 1)).data.toList = fld hd 1 := by simp [Fld.str]
  have hsz : (Fld.str (fld hd 1)).size ≤ 140737488355328 := by rw [fstr_wd, Wd.str_size]; omega
  rw [hlen] at h1 ⊢
  clear hcl hf hf1 hrow hlen
  cases ho : VlW.okB (fld hd 1) with
  | false =>
    have HX := hide (doLetters_no (R := R) ho)
    have HT := hide (LtR.letters_bad (Fld.str (fld hd 1)) w hsz (by rw [e1]; exact ho))
    have HV := hide (leave_no rb R.line 21 w (by decide) (by decide) hl)
    clear ho h d0 hsz e1 hl
    generalize Fld.str (fld hd 1) = r1 at *
    go_enter Tryz.func72, Tryz.ntmps72
    go_wp2_with (first | (go_at_call 95; refine (unhide HT).mono ?_; rintro e w2 ⟨rfl, rfl⟩) | (go_at_call 69; refine (unhide HV).mono ?_; rintro e w3 ⟨rfl, rfl⟩))
    exact ⟨rfl, Res.no (unhide HX) (Kt.refl _ _ _ _)⟩
  | true =>
    have HX := hide (doLetters_ok (R := R) ho)
    have HT := hide (LtW.letters_ok (Fld.str (fld hd 1)) w hsz (by rw [e1]; exact ho))
    rw [e1] at HT
    have hfb := h.file.lt
    have ok := h.file.ok
    have HF := hide (fun w0 (b : Below w.heap.size w w0) => h.fset b (F' := { R.file with letters := Wd.uq [] (fld hd 1) }) 2 (.string (Wd.str (Wd.uq [] (fld hd 1)))) rfl rfl rfl rfl rfl ⟨ok.kind, ok.spec, ok.specB, ok.cls, ok.reps, ok.ali, ok.aliS, ok.rul, ok.len⟩)
    have HC : Hid (∀ w0, Below w.heap.size w w0 → w0.cell? ⟨rb, 0, none⟩ = some (.pointer (some ⟨P.fb, 0, none⟩)) ∧ w0.cell? ⟨P.fb, 2, none⟩ = some (.string (Wd.str R.file.letters)) ∧ P.fb < w0.heap.size ∧ ∀ j, w0.frozen? ⟨P.fb, j, none⟩ = false) := fun w0 b => by
      have h0 := h.below b
      have := h0.file.fil
      refine ⟨h0.cells.1, by simp [World.cell?, this, filC], h0.file.lt, fun j => by simp [World.frozen?, this]⟩
    have HL := hide (fun W => leave_ok (ptr rb) W)
    clear ho h d0 hsz e1 hl ok hfb
    generalize Fld.str (fld hd 1) = r1 at *
    go_enter Tryz.func72, Tryz.ntmps72
    go_wp2_with (first | (go_at_call 95; refine (unhide HT).mono ?_; rintro e w2 ⟨rfl, b2⟩; obtain ⟨f1, f2, f3, f4⟩ := unhide HC _ b2; have HB2 := hide b2; clear b2) | (go_at_call 69; refine (unhide HL _).mono ?_; rintro e w3 ⟨rfl, rfl⟩))
    go_end0
    exact Res.yes (unhide HX) (unhide HF _ (unhide HB2)).2 (unhide HF _ (unhide HB2)).1 rfl rfl rfl
end Af
end Go.Proofs.YtlajdmjpobckhaaGreatDoor
/- The reader: SET. -/
namespace Go.Proofs.YtlajdmjpobckhaaGreatDoor
open Go.RowKit
namespace Af
open RowB
theorem clone_txt (s : ByteArray) (w : World) (hs : s.size ≤ 67108864) : Calls Tryz.prog 94 #[.string s] w fun e w' => e = .returned (.string s) ∧ Below w.heap.size w w' := by
  have HC := hide (fun W => Tryz.stringslite_Clone s W (by omega))
  go_enter Tryz.func94, Tryz.ntmps94
  go_wp2_with (go_at_call 124; refine (unhide HC _).mono ?_; rintro e w1 ⟨rfl, hb⟩; have HB := hide hb; clear hb)
  go_ret
  exact ⟨rfl, unhide HB⟩
theorem doCharset_no {R : Rdr} {f : Bs} (h : VlW.okB f = false) : doCharset R f = .error (R.line, 21) := by unfold doCharset; rw [h]; rfl
theorem doCharset_ok {R : Rdr} {f : Bs} (h : VlW.okB f = true) : doCharset R f = .ok { R with file := { R.file with charset := f } } := by unfold doCharset; rw [if_pos h]
set_option maxHeartbeats 1000000 in
theorem readCharset_any {B rb : Nat} {R : Rdr} {P : Pts} {w : World} (h : RAt B w rb R P) (k : Value) (hd : List Bs) (hv : Value) (hrow : StrRow B w hv (hd.map Fld.str)) (hlen : hd.length = 2) (hf : ∀ f ∈ hd, f.length ≤ 65536) :
    Calls Tryz.prog 71 #[ptr rb, hv, k] w (Res B rb P w (doCharset R (fld hd 1))) := by
  obtain ⟨d0, -, hl, -, -, -, -⟩ := h.cells
  have hb := h.lt
  have HH := hide h
  obtain ⟨g, cap, rfl, hg, h1, h2, ⟨gcur, hgc⟩, hcl⟩ := str_cells hrow
  have HNG : Hid (P.fb ≠ g) := fun e => by
    rw [← e, h.file.fil] at hgc
    injection hgc with hgc
    injection hgc with _ hgc _
    exact absurd hgc (by decide)
  clear hgc
  unfold maxLen at h2
  have q1 := hcl 1 _ (fld_get (by omega))
  have hf1 := hf _ (List.mem_of_getElem? (fld_get (row := hd) (i := 1) (by omega)))
  have e1 : (Fld.str (fld hd 1)).data.toList = fld hd 1 := by simp [Fld.str]
  have hsz : (Fld.str (fld hd 1)).size ≤ 65536 := by rw [fstr_wd, Wd.str_size]; omega
  have HC := hide (checkBytes_any rb R.line (Fld.str (fld hd 1)) w hsz hb hl)
  rw [e1] at HC
  rw [hlen] at h1 ⊢
  clear hcl hf hrow hlen
  cases ho : VlW.okB (fld hd 1) with
  | false =>
    have HX := hide (doCharset_no (R := R) ho)
    have HT := hide (noOf (unhide HC) (ckB_no ho))
    have HB := hide h.base
    clear ho h d0 hsz e1 hl HC hf1
    generalize Fld.str (fld hd 1) = r1 at *
    go_enter Tryz.func71, Tryz.ntmps71
    go_wp2_with (go_at_call 93; refine (unhide HT).mono ?_; rintro e w2 ⟨rfl, b2⟩)
    exact ⟨rfl, Res.no (unhide HX) (Kt.of_below b2 (unhide HB))⟩
  | true =>
    have HX := hide (doCharset_ok (R := R) ho)
    have HT := hide (okOf (unhide HC) (ckB_ok ho))
    have HCT := hide (fun W => clone_txt (Fld.str (fld hd 1)) W (by omega))
    have ok := h.file.ok
    have HF := hide (fun w0 (b : Below w.heap.size w w0) => h.fset b (F' := { R.file with charset := fld hd 1 }) 1 (.string (Fld.str (fld hd 1))) rfl rfl rfl rfl rfl ⟨ok.kind, ok.spec, ok.specB, ok.cls, ok.reps, ok.ali, ok.aliS, ok.rul, hf1⟩)
    have HCC : Hid (∀ w0, Below w.heap.size w w0 → w0.cell? ⟨rb, 0, none⟩ = some (.pointer (some ⟨P.fb, 0, none⟩)) ∧ w0.cell? ⟨P.fb, 1, none⟩ = some (.string (Wd.str R.file.charset)) ∧ P.fb < w0.heap.size ∧ ∀ j, w0.frozen? ⟨P.fb, j, none⟩ = false) := fun w0 b => by
      have h0 := h.below b
      have := h0.file.fil
      refine ⟨h0.cells.1, by simp [World.cell?, this, filC], h0.file.lt, fun j => by simp [World.frozen?, this]⟩
    have HNE : Hid (P.fb ≠ rb) := fun e => h.ne e.symm
    clear ho h d0 hsz e1 hl HC hf1 ok
    generalize Fld.str (fld hd 1) = r1 at *
    go_enter Tryz.func71, Tryz.ntmps71
    go_wp2_with (go_at_call 93; refine (unhide HT).mono ?_; rintro e w2 ⟨rfl, b2⟩; have HB2 := hide b2; clear b2)
    obtain ⟨f1, -, -, -⟩ := unhide HCC _ (unhide HB2)
    have g1 := ((unhide HB2).cell (p := ⟨g, 1, none⟩) hg).trans q1
    have sA : (w2.drew.cell? ⟨rb, 0, none⟩ = some (.pointer (some ⟨P.fb, 0, none⟩)) ∧ w2.drew.cell? ⟨g, 1, none⟩ = some (.string r1)) := ⟨f1, g1⟩
    clear f1 g1
    go_region_held2 (fun w' => w'.cell? ⟨rb, 0, none⟩ = some (.pointer (some ⟨P.fb, 0, none⟩)) ∧ w'.cell? ⟨g, 1, none⟩ = some (.string r1)) (first | (with_reducible exact s6) | (with_reducible exact s5) | (with_reducible exact sA)) (first | (go_at_call 94; refine (unhide HCT _).mono ?_; rintro e w5 ⟨rfl, b5⟩; have HB5 := hide (btr (unhide HB2).drew b5); obtain ⟨n1, n2, n3, n4⟩ := unhide HCC _ (unhide HB5); have s5 : (w5.cell? ⟨rb, 0, none⟩ = some (.pointer (some ⟨P.fb, 0, none⟩)) ∧ w5.cell? ⟨g, 1, none⟩ = some (.string r1)) := ⟨n1, ((unhide HB5).cell (p := ⟨g, 1, none⟩) hg).trans q1⟩; have s6 : ((w5.setCell ⟨P.fb, 1, none⟩ (.string r1)).cell? ⟨rb, 0, none⟩ = some (.pointer (some ⟨P.fb, 0, none⟩)) ∧ (w5.setCell ⟨P.fb, 1, none⟩ (.string r1)).cell? ⟨g, 1, none⟩ = some (.string r1)) := ⟨(World.cell?_setCell_far _ _ _ _ (unhide HNE)).trans s5.1, (World.cell?_setCell_far _ _ _ _ (unhide HNG)).trans s5.2⟩; clear b5 n1))
    go_wp2
    go_end0
    exact Res.yes (unhide HX) (unhide HF _ (unhide HB5)).2 (unhide HF _ (unhide HB5)).1 rfl rfl rfl
end Af
end Go.Proofs.YtlajdmjpobckhaaGreatDoor
/- The reader: the special flags. -/
namespace Go.Proofs.YtlajdmjpobckhaaGreatDoor
open Go.RowKit
namespace Af
open RowB
theorem calls_nof {g : FuncId} {args : Array Value} {w W : World} {er : Er} {Q : Ending → World → Prop} (r : Value) (b : Below w.heap.size w W) (h : ∀ W, Below w.heap.size w W → Calls Tryz.prog g args W fun e w' => e = .panicked (chn er) ∧ Below W.heap.size W w') (k : ∀ w', Below w.heap.size w w' → Q (.panicked (chn er)) w') (_d : Hid False → Q (.returned r) W) : Calls Tryz.prog g args W Q :=
  (h W b).mono fun e w' q => by rw [q.1]; exact k w' (b.trans (q.2.mono b.size))
theorem doSpecial_no {i : Nat} {R : Rdr} {f : Bs} {e : Er} (h : newFlag R f = .error e) : doSpecial i R f = .error e := by unfold doSpecial; rw [h]
theorem doSpecial_ok {i : Nat} {R : Rdr} {f : Bs} {x : Int} (h : newFlag R f = .ok x) : doSpecial i R f = .ok { R with file := { R.file with specials := R.file.specials.set i x } } := by unfold doSpecial; rw [h]
theorem five {l : List Int} (h : l.length = 5) : ∃ a b c d e, l = [a, b, c, d, e] := by
  match l, h with
  | [a, b, c, d, e], _ => exact ⟨a, b, c, d, e, rfl⟩
theorem spec_ok {F : Fil} (ok : FilOk F) (i : Nat) (x : Int) (h0 : 0 ≤ x) (h1 : x ≤ 65535) : FilOk { F with specials := F.specials.set i x } := by
  refine ⟨ok.kind, by simpa using ok.spec, fun y hy => ?_, ok.cls, ok.reps, ok.ali, ok.aliS, ok.rul, ok.len⟩
  rcases List.mem_or_eq_of_mem_set hy with q | q
  · exact ok.specB y q
  · subst q; exact ⟨h0, h1⟩
set_option maxHeartbeats 1000000 in
theorem readSpecial_0 {B rb : Nat} {R : Rdr} {P : Pts} {w : World} (h : RAt B w rb R P) (hd : List Bs) (hv : Value) (hrow : StrRow B w hv (hd.map Fld.str)) (hlen : hd.length = 2) (hf : ∀ f ∈ hd, f.length ≤ 65536) :
    Calls Tryz.prog 73 #[ptr rb, hv, .int .i64 0] w (Res B rb P w (doSpecial 0 R (fld hd 1))) := by
  obtain ⟨d0, -, hl, -, -, -, -⟩ := h.cells
  have hb := h.lt
  have hfb := h.file.lt
  have HH := hide h
  obtain ⟨g, cap, rfl, hg, h1, h2, ⟨gcur, hgc⟩, hcl⟩ := str_cells hrow
  have HNG : Hid (P.fb ≠ g) := fun e => by
    rw [← e, h.file.fil] at hgc
    injection hgc with hgc
    injection hgc with _ hgc _
    exact absurd hgc (by decide)
  clear hgc
  have HNE : Hid (P.fb ≠ rb) := fun e => h.ne e.symm
  unfold maxLen at h2
  have q1 := hcl 1 _ (fld_get (by omega))
  have hf1 := hf _ (List.mem_of_getElem? (fld_get (row := hd) (i := 1) (by omega)))
  have HN := hide (fun W (b : Below w.heap.size w W) => newFlag_all (h.below b) (Fld.str (fld hd 1)) (by rw [fstr_wd, Wd.str_size]; omega))
  have e1 : (Fld.str (fld hd 1)).data.toList = fld hd 1 := by simp [Fld.str]
  rw [e1] at HN
  rw [hlen] at h1 ⊢
  clear hcl hf hrow hlen hf1 e1
  cases hn : newFlag R (fld hd 1) with
  | error er =>
    have HX := hide (doSpecial_no (i := 0) hn)
    have HNN := hide (fun W b => noOf (unhide HN W b) hn)
    obtain ⟨k3, kz⟩ : (∃ u, w.cell? ⟨P.fb, 3, none⟩ = some u) ∧ ∀ j, w.frozen? ⟨P.fb, j, none⟩ = false := by
      have := h.file.fil
      exact ⟨⟨_, by simp [World.cell?, this, filC]; rfl⟩, fun j => by simp [World.frozen?, this]⟩
    obtain ⟨u, ku⟩ := k3
    clear HN hn h hl
    generalize Fld.str (fld hd 1) = r1 at *
    have sA : (w.drew.cell? ⟨rb, 0, none⟩ = some (.pointer (some ⟨P.fb, 0, none⟩)) ∧ w.drew.cell? ⟨g, 1, none⟩ = some (.string r1)) := ⟨d0, q1⟩
    have s6 : ∀ v, ((w.setCell ⟨P.fb, 3, none⟩ v).drew.cell? ⟨rb, 0, none⟩ = some (.pointer (some ⟨P.fb, 0, none⟩)) ∧ (w.setCell ⟨P.fb, 3, none⟩ v).drew.cell? ⟨g, 1, none⟩ = some (.string r1)) := fun v => ⟨(World.cell?_setCell_far w ⟨P.fb, _, none⟩ _ v (unhide HNE)).trans d0, (World.cell?_setCell_far w ⟨P.fb, _, none⟩ _ v (unhide HNG)).trans q1⟩
    go_enter Tryz.func73, Tryz.ntmps73
    go_wp2_with fail
    go_region_held2 (fun w' => (w'.cell? ⟨rb, 0, none⟩ = some (.pointer (some ⟨P.fb, 0, none⟩)) ∧ w'.cell? ⟨g, 1, none⟩ = some (.string r1))) (first | (with_reducible exact s6 _) | (with_reducible exact sA)) (first | (go_at_call 96; refine calls_nof (.int .u16 0) (by (repeat (first | exact Below.refl _ _ | refine Below.drew ?_ | refine Below.alloc ?_ (by first | (simp; done) | (simp; omega)) _ | refine Below.setCell ?_ (by first | (simp; done) | (simp; omega)) _))) (unhide HNN) (fun w4 b4 => ⟨rfl, Res.no (unhide HX) (Kt.of_below b4 (unhide HH).base)⟩) ?_; intro HF))
    all_goals exact (unhide HF).elim
  | ok x =>
    have HX := hide (doSpecial_ok (i := 0) hn)
    have HNN := hide (fun W b => okOf (unhide HN W b) hn)
    unfold flgV at HNN
    obtain ⟨x1, x2, -, -⟩ := newFlag_pos hn
    obtain ⟨s0, s1, s2, s3, s4, hsp⟩ := five h.file.ok.spec
    have HF := hide (fun w0 (b : Below w.heap.size w w0) => h.fset b (F' := { R.file with specials := R.file.specials.set 0 x }) 3 (.int .u16 x) (by simp [filC, hsp]) rfl rfl rfl rfl (spec_ok h.file.ok 0 x (by omega) x2))
    have HCC : Hid (∀ w0, Below w.heap.size w w0 → w0.cell? ⟨rb, 0, none⟩ = some (.pointer (some ⟨P.fb, 0, none⟩)) ∧ w0.cell? ⟨P.fb, 3, none⟩ = some (.int .u16 s0) ∧ P.fb < w0.heap.size ∧ ∀ j, w0.frozen? ⟨P.fb, j, none⟩ = false) := fun w0 b => by
      have h0 := h.below b
      have := h0.file.fil
      refine ⟨h0.cells.1, by simp [World.cell?, this, filC, hsp], h0.file.lt, fun j => by simp [World.frozen?, this]⟩
    clear HN hn h hl x1 x2 hsp
    generalize Fld.str (fld hd 1) = r1 at *
    have sA : (w.drew.cell? ⟨rb, 0, none⟩ = some (.pointer (some ⟨P.fb, 0, none⟩)) ∧ w.drew.cell? ⟨g, 1, none⟩ = some (.string r1)) := ⟨d0, q1⟩
    go_enter Tryz.func73, Tryz.ntmps73
    go_wp2_with fail
    go_region_held2 (fun w' => (w'.cell? ⟨rb, 0, none⟩ = some (.pointer (some ⟨P.fb, 0, none⟩)) ∧ w'.cell? ⟨g, 1, none⟩ = some (.string r1))) (first | (with_reducible exact s6) | (with_reducible exact s5) | (with_reducible exact sA)) (first | (go_at_call 96; refine (unhide HNN _ (by (repeat (first | exact Below.refl _ _ | refine Below.drew ?_ | refine Below.alloc ?_ (by first | (simp; done) | (simp; omega)) _ | refine Below.setCell ?_ (by first | (simp; done) | (simp; omega)) _)))).mono ?_; rintro e w5 ⟨rfl, b5⟩; have HB5 := hide (btr ((Below.refl _ w).drew) b5); obtain ⟨n1, n2, n3, n4⟩ := unhide HCC _ (unhide HB5); have s5 : (w5.cell? ⟨rb, 0, none⟩ = some (.pointer (some ⟨P.fb, 0, none⟩)) ∧ w5.cell? ⟨g, 1, none⟩ = some (.string r1)) := ⟨n1, ((unhide HB5).cell (p := ⟨g, 1, none⟩) hg).trans q1⟩; have s6 : ((w5.setCell ⟨P.fb, 3, none⟩ (.int .u16 x)).cell? ⟨rb, 0, none⟩ = some (.pointer (some ⟨P.fb, 0, none⟩)) ∧ (w5.setCell ⟨P.fb, 3, none⟩ (.int .u16 x)).cell? ⟨g, 1, none⟩ = some (.string r1)) := ⟨(World.cell?_setCell_far _ _ _ _ (unhide HNE)).trans s5.1, (World.cell?_setCell_far _ _ _ _ (unhide HNG)).trans s5.2⟩; clear b5 n1))
    go_wp2
    go_end0
    exact Res.yes (unhide HX) (unhide HF _ (unhide HB5)).2 (unhide HF _ (unhide HB5)).1 rfl rfl rfl
set_option maxHeartbeats 1000000 in
theorem readSpecial_1 {B rb : Nat} {R : Rdr} {P : Pts} {w : World} (h : RAt B w rb R P) (hd : List Bs) (hv : Value) (hrow : StrRow B w hv (hd.map Fld.str)) (hlen : hd.length = 2) (hf : ∀ f ∈ hd, f.length ≤ 65536) :
    Calls Tryz.prog 73 #[ptr rb, hv, .int .i64 1] w (Res B rb P w (doSpecial 1 R (fld hd 1))) := by
  obtain ⟨d0, -, hl, -, -, -, -⟩ := h.cells
  have hb := h.lt
  have hfb := h.file.lt
  have HH := hide h
  obtain ⟨g, cap, rfl, hg, h1, h2, ⟨gcur, hgc⟩, hcl⟩ := str_cells hrow
  have HNG : Hid (P.fb ≠ g) := fun e => by
    rw [← e, h.file.fil] at hgc
    injection hgc with hgc
    injection hgc with _ hgc _
    exact absurd hgc (by decide)
  clear hgc
  have HNE : Hid (P.fb ≠ rb) := fun e => h.ne e.symm
  unfold maxLen at h2
  have q1 := hcl 1 _ (fld_get (by omega))
  have hf1 := hf _ (List.mem_of_getElem? (fld_get (row := hd) (i := 1) (by omega)))
  have HN := hide (fun W (b : Below w.heap.size w W) => newFlag_all (h.below b) (Fld.str (fld hd 1)) (by rw [fstr_wd, Wd.str_size]; omega))
  have e1 : (Fld.str (fld hd 1)).data.toList = fld hd 1 := by simp [Fld.str]
  rw [e1] at HN
  rw [hlen] at h1 ⊢
  clear hcl hf hrow hlen hf1 e1
  cases hn : newFlag R (fld hd 1) with
  | error er =>
    have HX := hide (doSpecial_no (i := 1) hn)
    have HNN := hide (fun W b => noOf (unhide HN W b) hn)
    obtain ⟨k4, kz⟩ : (∃ u, w.cell? ⟨P.fb, 4, none⟩ = some u) ∧ ∀ j, w.frozen? ⟨P.fb, j, none⟩ = false := by
      have := h.file.fil
      exact ⟨⟨_, by simp [World.cell?, this, filC]; rfl⟩, fun j => by simp [World.frozen?, this]⟩
    obtain ⟨u, ku⟩ := k4
    clear HN hn h hl
    generalize Fld.str (fld hd 1) = r1 at *
    have sA : (w.drew.cell? ⟨rb, 0, none⟩ = some (.pointer (some ⟨P.fb, 0, none⟩)) ∧ w.drew.cell? ⟨g, 1, none⟩ = some (.string r1)) := ⟨d0, q1⟩
    have s6 : ∀ v, ((w.setCell ⟨P.fb, 4, none⟩ v).drew.cell? ⟨rb, 0, none⟩ = some (.pointer (some ⟨P.fb, 0, none⟩)) ∧ (w.setCell ⟨P.fb, 4, none⟩ v).drew.cell? ⟨g, 1, none⟩ = some (.string r1)) := fun v => ⟨(World.cell?_setCell_far w ⟨P.fb, _, none⟩ _ v (unhide HNE)).trans d0, (World.cell?_setCell_far w ⟨P.fb, _, none⟩ _ v (unhide HNG)).trans q1⟩
    go_enter Tryz.func73, Tryz.ntmps73
    go_wp2_with fail
    go_region_held2 (fun w' => (w'.cell? ⟨rb, 0, none⟩ = some (.pointer (some ⟨P.fb, 0, none⟩)) ∧ w'.cell? ⟨g, 1, none⟩ = some (.string r1))) (first | (with_reducible exact s6 _) | (with_reducible exact sA)) (first | (go_at_call 96; refine calls_nof (.int .u16 0) (by (repeat (first | exact Below.refl _ _ | refine Below.drew ?_ | refine Below.alloc ?_ (by first | (simp; done) | (simp; omega)) _ | refine Below.setCell ?_ (by first | (simp; done) | (simp; omega)) _))) (unhide HNN) (fun w4 b4 => ⟨rfl, Res.no (unhide HX) (Kt.of_below b4 (unhide HH).base)⟩) ?_; intro HF))
    all_goals exact (unhide HF).elim
  | ok x =>
    have HX := hide (doSpecial_ok (i := 1) hn)
    have HNN := hide (fun W b => okOf (unhide HN W b) hn)
    unfold flgV at HNN
    obtain ⟨x1, x2, -, -⟩ := newFlag_pos hn
    obtain ⟨s0, s1, s2, s3, s4, hsp⟩ := five h.file.ok.spec
    have HF := hide (fun w0 (b : Below w.heap.size w w0) => h.fset b (F' := { R.file with specials := R.file.specials.set 1 x }) 4 (.int .u16 x) (by simp [filC, hsp]) rfl rfl rfl rfl (spec_ok h.file.ok 1 x (by omega) x2))
    have HCC : Hid (∀ w0, Below w.heap.size w w0 → w0.cell? ⟨rb, 0, none⟩ = some (.pointer (some ⟨P.fb, 0, none⟩)) ∧ w0.cell? ⟨P.fb, 4, none⟩ = some (.int .u16 s1) ∧ P.fb < w0.heap.size ∧ ∀ j, w0.frozen? ⟨P.fb, j, none⟩ = false) := fun w0 b => by
      have h0 := h.below b
      have := h0.file.fil
      refine ⟨h0.cells.1, by simp [World.cell?, this, filC, hsp], h0.file.lt, fun j => by simp [World.frozen?, this]⟩
    clear HN hn h hl x1 x2 hsp
    generalize Fld.str (fld hd 1) = r1 at *
    have sA : (w.drew.cell? ⟨rb, 0, none⟩ = some (.pointer (some ⟨P.fb, 0, none⟩)) ∧ w.drew.cell? ⟨g, 1, none⟩ = some (.string r1)) := ⟨d0, q1⟩
    go_enter Tryz.func73, Tryz.ntmps73
    go_wp2_with fail
    go_region_held2 (fun w' => (w'.cell? ⟨rb, 0, none⟩ = some (.pointer (some ⟨P.fb, 0, none⟩)) ∧ w'.cell? ⟨g, 1, none⟩ = some (.string r1))) (first | (with_reducible exact s6) | (with_reducible exact s5) | (with_reducible exact sA)) (first | (go_at_call 96; refine (unhide HNN _ (by (repeat (first | exact Below.refl _ _ | refine Below.drew ?_ | refine Below.alloc ?_ (by first | (simp; done) | (simp; omega)) _ | refine Below.setCell ?_ (by first | (simp; done) | (simp; omega)) _)))).mono ?_; rintro e w5 ⟨rfl, b5⟩; have HB5 := hide (btr ((Below.refl _ w).drew) b5); obtain ⟨n1, n2, n3, n4⟩ := unhide HCC _ (unhide HB5); have s5 : (w5.cell? ⟨rb, 0, none⟩ = some (.pointer (some ⟨P.fb, 0, none⟩)) ∧ w5.cell? ⟨g, 1, none⟩ = some (.string r1)) := ⟨n1, ((unhide HB5).cell (p := ⟨g, 1, none⟩) hg).trans q1⟩; have s6 : ((w5.setCell ⟨P.fb, 4, none⟩ (.int .u16 x)).cell? ⟨rb, 0, none⟩ = some (.pointer (some ⟨P.fb, 0, none⟩)) ∧ (w5.setCell ⟨P.fb, 4, none⟩ (.int .u16 x)).cell? ⟨g, 1, none⟩ = some (.string r1)) := ⟨(World.cell?_setCell_far _ _ _ _ (unhide HNE)).trans s5.1, (World.cell?_setCell_far _ _ _ _ (unhide HNG)).trans s5.2⟩; clear b5 n1))
    go_wp2
    go_end0
    exact Res.yes (unhide HX) (unhide HF _ (unhide HB5)).2 (unhide HF _ (unhide HB5)).1 rfl rfl rfl
set_option maxHeartbeats 1000000 in
theorem readSpecial_2 {B rb : Nat} {R : Rdr} {P : Pts} {w : World} (h : RAt B w rb R P) (hd : List Bs) (hv : Value) (hrow : StrRow B w hv (hd.map Fld.str)) (hlen : hd.length = 2) (hf : ∀ f ∈ hd, f.length ≤ 65536) :
    Calls Tryz.prog 73 #[ptr rb, hv, .int .i64 2] w (Res B rb P w (doSpecial 2 R (fld hd 1))) := by
  obtain ⟨d0, -, hl, -, -, -, -⟩ := h.cells
  have hb := h.lt
  have hfb := h.file.lt
  have HH := hide h
  obtain ⟨g, cap, rfl, hg, h1, h2, ⟨gcur, hgc⟩, hcl⟩ := str_cells hrow
  have HNG : Hid (P.fb ≠ g) := fun e => by
    rw [← e, h.file.fil] at hgc
    injection hgc with hgc
    injection hgc with _ hgc _
    exact absurd hgc (by decide)
  clear hgc
  have HNE : Hid (P.fb ≠ rb) := fun e => h.ne e.symm
  unfold maxLen at h2
  have q1 := hcl 1 _ (fld_get (by omega))
  have hf1 := hf _ (List.mem_of_getElem? (fld_get (row := hd) (i := 1) (by omega)))
  have HN := hide (fun W (b : Below w.heap.size w W) => newFlag_all (h.below b) (Fld.str (fld hd 1)) (by rw [fstr_wd, Wd.str_size]; omega))
  have e1 : (Fld.str (fld hd 1)).data.toList = fld hd 1 := by simp [Fld.str]
  rw [e1] at HN
  rw [hlen] at h1 ⊢
  clear hcl hf hrow hlen hf1 e1
  cases hn : newFlag R (fld hd 1) with
  | error er =>
    have HX := hide (doSpecial_no (i := 2) hn)
    have HNN := hide (fun W b => noOf (unhide HN W b) hn)
    obtain ⟨k5, kz⟩ : (∃ u, w.cell? ⟨P.fb, 5, none⟩ = some u) ∧ ∀ j, w.frozen? ⟨P.fb, j, none⟩ = false := by
      have := h.file.fil
      exact ⟨⟨_, by simp [World.cell?, this, filC]; rfl⟩, fun j => by simp [World.frozen?, this]⟩
    obtain ⟨u, ku⟩ := k5
    clear HN hn h hl
    generalize Fld.str (fld hd 1) = r1 at *
    have sA : (w.drew.cell? ⟨rb, 0, none⟩ = some (.pointer (some ⟨P.fb, 0, none⟩)) ∧ w.drew.cell? ⟨g, 1, none⟩ = some (.string r1)) := ⟨d0, q1⟩
    have s6 : ∀ v, ((w.setCell ⟨P.fb, 5, none⟩ v).drew.cell? ⟨rb, 0, none⟩ = some (.pointer (some ⟨P.fb, 0, none⟩)) ∧ (w.setCell ⟨P.fb, 5, none⟩ v).drew.cell? ⟨g, 1, none⟩ = some (.string r1)) := fun v => ⟨(World.cell?_setCell_far w ⟨P.fb, _, none⟩ _ v (unhide HNE)).trans d0, (World.cell?_setCell_far w ⟨P.fb, _, none⟩ _ v (unhide HNG)).trans q1⟩
    go_enter Tryz.func73, Tryz.ntmps73
    go_wp2_with fail
    go_region_held2 (fun w' => (w'.cell? ⟨rb, 0, none⟩ = some (.pointer (some ⟨P.fb, 0, none⟩)) ∧ w'.cell? ⟨g, 1, none⟩ = some (.string r1))) (first | (with_reducible exact s6 _) | (with_reducible exact sA)) (first | (go_at_call 96; refine calls_nof (.int .u16 0) (by (repeat (first | exact Below.refl _ _ | refine Below.drew ?_ | refine Below.alloc ?_ (by first | (simp; done) | (simp; omega)) _ | refine Below.setCell ?_ (by first | (simp; done) | (simp; omega)) _))) (unhide HNN) (fun w4 b4 => ⟨rfl, Res.no (unhide HX) (Kt.of_below b4 (unhide HH).base)⟩) ?_; intro HF))
    all_goals exact (unhide HF).elim
  | ok x =>
    have HX := hide (doSpecial_ok (i := 2) hn)
    have HNN := hide (fun W b => okOf (unhide HN W b) hn)
    unfold flgV at HNN
    obtain ⟨x1, x2, -, -⟩ := newFlag_pos hn
    obtain ⟨s0, s1, s2, s3, s4, hsp⟩ := five h.file.ok.spec
    have HF := hide (fun w0 (b : Below w.heap.size w w0) => h.fset b (F' := { R.file with specials := R.file.specials.set 2 x }) 5 (.int .u16 x) (by simp [filC, hsp]) rfl rfl rfl rfl (spec_ok h.file.ok 2 x (by omega) x2))
    have HCC : Hid (∀ w0, Below w.heap.size w w0 → w0.cell? ⟨rb, 0, none⟩ = some (.pointer (some ⟨P.fb, 0, none⟩)) ∧ w0.cell? ⟨P.fb, 5, none⟩ = some (.int .u16 s2) ∧ P.fb < w0.heap.size ∧ ∀ j, w0.frozen? ⟨P.fb, j, none⟩ = false) := fun w0 b => by
      have h0 := h.below b
      have := h0.file.fil
      refine ⟨h0.cells.1, by simp [World.cell?, this, filC, hsp], h0.file.lt, fun j => by simp [World.frozen?, this]⟩
    clear HN hn h hl x1 x2 hsp
    generalize Fld.str (fld hd 1) = r1 at *
    have sA : (w.drew.cell? ⟨rb, 0, none⟩ = some (.pointer (some ⟨P.fb, 0, none⟩)) ∧ w.drew.cell? ⟨g, 1, none⟩ = some (.string r1)) := ⟨d0, q1⟩
    go_enter Tryz.func73, Tryz.ntmps73
    go_wp2_with fail
    go_region_held2 (fun w' => (w'.cell? ⟨rb, 0, none⟩ = some (.pointer (some ⟨P.fb, 0, none⟩)) ∧ w'.cell? ⟨g, 1, none⟩ = some (.string r1))) (first | (with_reducible exact s6) | (with_reducible exact s5) | (with_reducible exact sA)) (first | (go_at_call 96; refine (unhide HNN _ (by (repeat (first | exact Below.refl _ _ | refine Below.drew ?_ | refine Below.alloc ?_ (by first | (simp; done) | (simp; omega)) _ | refine Below.setCell ?_ (by first | (simp; done) | (simp; omega)) _)))).mono ?_; rintro e w5 ⟨rfl, b5⟩; have HB5 := hide (btr ((Below.refl _ w).drew) b5); obtain ⟨n1, n2, n3, n4⟩ := unhide HCC _ (unhide HB5); have s5 : (w5.cell? ⟨rb, 0, none⟩ = some (.pointer (some ⟨P.fb, 0, none⟩)) ∧ w5.cell? ⟨g, 1, none⟩ = some (.string r1)) := ⟨n1, ((unhide HB5).cell (p := ⟨g, 1, none⟩) hg).trans q1⟩; have s6 : ((w5.setCell ⟨P.fb, 5, none⟩ (.int .u16 x)).cell? ⟨rb, 0, none⟩ = some (.pointer (some ⟨P.fb, 0, none⟩)) ∧ (w5.setCell ⟨P.fb, 5, none⟩ (.int .u16 x)).cell? ⟨g, 1, none⟩ = some (.string r1)) := ⟨(World.cell?_setCell_far _ _ _ _ (unhide HNE)).trans s5.1, (World.cell?_setCell_far _ _ _ _ (unhide HNG)).trans s5.2⟩; clear b5 n1))
    go_wp2
    go_end0
    exact Res.yes (unhide HX) (unhide HF _ (unhide HB5)).2 (unhide HF _ (unhide HB5)).1 rfl rfl rfl
set_option maxHeartbeats 1000000 in
theorem readSpecial_3 {B rb : Nat} {R : Rdr} {P : Pts} {w : World} (h : RAt B w rb R P) (hd : List Bs) (hv : Value) (hrow : StrRow B w hv (hd.map Fld.str)) (hlen : hd.length = 2) (hf : ∀ f ∈ hd, f.length ≤ 65536) :
    Calls Tryz.prog 73 #[ptr rb, hv, .int .i64 3] w (Res B rb P w (doSpecial 3 R (fld hd 1))) := by
  obtain ⟨d0, -, hl, -, -, -, -⟩ := h.cells
  have hb := h.lt
  have hfb := h.file.lt
  have HH := hide h
  obtain ⟨g, cap, rfl, hg, h1, h2, ⟨gcur, hgc⟩, hcl⟩ := str_cells hrow
  have HNG : Hid (P.fb ≠ g) := fun e => by
    rw [← e, h.file.fil] at hgc
    injection hgc with hgc
    injection hgc with _ hgc _
    exact absurd hgc (by decide)
  clear hgc
  have HNE : Hid (P.fb ≠ rb) := fun e => h.ne e.symm
  unfold maxLen at h2
  have q1 := hcl 1 _ (fld_get (by omega))
  have hf1 := hf _ (List.mem_of_getElem? (fld_get (row := hd) (i := 1) (by omega)))
  have HN := hide (fun W (b : Below w.heap.size w W) => newFlag_all (h.below b) (Fld.str (fld hd 1)) (by rw [fstr_wd, Wd.str_size]; omega))
  have e1 : (Fld.str (fld hd 1)).data.toList = fld hd 1 := by simp [Fld.str]
  rw [e1] at HN
  rw [hlen] at h1 ⊢
  clear hcl hf hrow hlen hf1 e1
  cases hn : newFlag R (fld hd 1) with
  | error er =>
    have HX := hide (doSpecial_no (i := 3) hn)
    have HNN := hide (fun W b => noOf (unhide HN W b) hn)
    obtain ⟨k6, kz⟩ : (∃ u, w.cell? ⟨P.fb, 6, none⟩ = some u) ∧ ∀ j, w.frozen? ⟨P.fb, j, none⟩ = false := by
      have := h.file.fil
      exact ⟨⟨_, by simp [World.cell?, this, filC]; rfl⟩, fun j => by simp [World.frozen?, this]⟩
    obtain ⟨u, ku⟩ := k6
    clear HN hn h hl
    generalize Fld.str (fld hd 1) = r1 at *
    have sA : (w.drew.cell? ⟨rb, 0, none⟩ = some (.pointer (some ⟨P.fb, 0, none⟩)) ∧ w.drew.cell? ⟨g, 1, none⟩ = some (.string r1)) := ⟨d0, q1⟩
    have s6 : ∀ v, ((w.setCell ⟨P.fb, 6, none⟩ v).drew.cell? ⟨rb, 0, none⟩ = some (.pointer (some ⟨P.fb, 0, none⟩)) ∧ (w.setCell ⟨P.fb, 6, none⟩ v).drew.cell? ⟨g, 1, none⟩ = some (.string r1)) := fun v => ⟨(World.cell?_setCell_far w ⟨P.fb, _, none⟩ _ v (unhide HNE)).trans d0, (World.cell?_setCell_far w ⟨P.fb, _, none⟩ _ v (unhide HNG)).trans q1⟩
    go_enter Tryz.func73, Tryz.ntmps73
    go_wp2_with fail
    go_region_held2 (fun w' => (w'.cell? ⟨rb, 0, none⟩ = some (.pointer (some ⟨P.fb, 0, none⟩)) ∧ w'.cell? ⟨g, 1, none⟩ = some (.string r1))) (first | (with_reducible exact s6 _) | (with_reducible exact sA)) (first | (go_at_call 96; refine calls_nof (.int .u16 0) (by (repeat (first | exact Below.refl _ _ | refine Below.drew ?_ | refine Below.alloc ?_ (by first | (simp; done) | (simp; omega)) _ | refine Below.setCell ?_ (by first | (simp; done) | (simp; omega)) _))) (unhide HNN) (fun w4 b4 => ⟨rfl, Res.no (unhide HX) (Kt.of_below b4 (unhide HH).base)⟩) ?_; intro HF))
    all_goals exact (unhide HF).elim
  | ok x =>
    have HX := hide (doSpecial_ok (i := 3) hn)
    have HNN := hide (fun W b => okOf (unhide HN W b) hn)
    unfold flgV at HNN
    obtain ⟨x1, x2, -, -⟩ := newFlag_pos hn
    obtain ⟨s0, s1, s2, s3, s4, hsp⟩ := five h.file.ok.spec
    have HF := hide (fun w0 (b : Below w.heap.size w w0) => h.fset b (F' := { R.file with specials := R.file.specials.set 3 x }) 6 (.int .u16 x) (by simp [filC, hsp]) rfl rfl rfl rfl (spec_ok h.file.ok 3 x (by omega) x2))
    have HCC : Hid (∀ w0, Below w.heap.size w w0 → w0.cell? ⟨rb, 0, none⟩ = some (.pointer (some ⟨P.fb, 0, none⟩)) ∧ w0.cell? ⟨P.fb, 6, none⟩ = some (.int .u16 s3) ∧ P.fb < w0.heap.size ∧ ∀ j, w0.frozen? ⟨P.fb, j, none⟩ = false) := fun w0 b => by
      have h0 := h.below b
      have := h0.file.fil
      refine ⟨h0.cells.1, by simp [World.cell?, this, filC, hsp], h0.file.lt, fun j => by simp [World.frozen?, this]⟩
    clear HN hn h hl x1 x2 hsp
    generalize Fld.str (fld hd 1) = r1 at *
    have sA : (w.drew.cell? ⟨rb, 0, none⟩ = some (.pointer (some ⟨P.fb, 0, none⟩)) ∧ w.drew.cell? ⟨g, 1, none⟩ = some (.string r1)) := ⟨d0, q1⟩
    go_enter Tryz.func73, Tryz.ntmps73
    go_wp2_with fail
    go_region_held2 (fun w' => (w'.cell? ⟨rb, 0, none⟩ = some (.pointer (some ⟨P.fb, 0, none⟩)) ∧ w'.cell? ⟨g, 1, none⟩ = some (.string r1))) (first | (with_reducible exact s6) | (with_reducible exact s5) | (with_reducible exact sA)) (first | (go_at_call 96; refine (unhide HNN _ (by (repeat (first | exact Below.refl _ _ | refine Below.drew ?_ | refine Below.alloc ?_ (by first | (simp; done) | (simp; omega)) _ | refine Below.setCell ?_ (by first | (simp; done) | (simp; omega)) _)))).mono ?_; rintro e w5 ⟨rfl, b5⟩; have HB5 := hide (btr ((Below.refl _ w).drew) b5); obtain ⟨n1, n2, n3, n4⟩ := unhide HCC _ (unhide HB5); have s5 : (w5.cell? ⟨rb, 0, none⟩ = some (.pointer (some ⟨P.fb, 0, none⟩)) ∧ w5.cell? ⟨g, 1, none⟩ = some (.string r1)) := ⟨n1, ((unhide HB5).cell (p := ⟨g, 1, none⟩) hg).trans q1⟩; have s6 : ((w5.setCell ⟨P.fb, 6, none⟩ (.int .u16 x)).cell? ⟨rb, 0, none⟩ = some (.pointer (some ⟨P.fb, 0, none⟩)) ∧ (w5.setCell ⟨P.fb, 6, none⟩ (.int .u16 x)).cell? ⟨g, 1, none⟩ = some (.string r1)) := ⟨(World.cell?_setCell_far _ _ _ _ (unhide HNE)).trans s5.1, (World.cell?_setCell_far _ _ _ _ (unhide HNG)).trans s5.2⟩; clear b5 n1))
    go_wp2
    go_end0
    exact Res.yes (unhide HX) (unhide HF _ (unhide HB5)).2 (unhide HF _ (unhide HB5)).1 rfl rfl rfl
set_option maxHeartbeats 1000000 in
theorem readSpecial_4 {B rb : Nat} {R : Rdr} {P : Pts} {w : World} (h : RAt B w rb R P) (hd : List Bs) (hv : Value) (hrow : StrRow B w hv (hd.map Fld.str)) (hlen : hd.length = 2) (hf : ∀ f ∈ hd, f.length ≤ 65536) :
    Calls Tryz.prog 73 #[ptr rb, hv, .int .i64 4] w (Res B rb P w (doSpecial 4 R (fld hd 1))) := by
  obtain ⟨d0, -, hl, -, -, -, -⟩ := h.cells
  have hb := h.lt
  have hfb := h.file.lt
  have HH := hide h
  obtain ⟨g, cap, rfl, hg, h1, h2, ⟨gcur, hgc⟩, hcl⟩ := str_cells hrow
  have HNG : Hid (P.fb ≠ g) := fun e => by
    rw [← e, h.file.fil] at hgc
    injection hgc with hgc
    injection hgc with _ hgc _
    exact absurd hgc (by decide)
  clear hgc
  have HNE : Hid (P.fb ≠ rb) := fun e => h.ne e.symm
  unfold maxLen at h2
  have q1 := hcl 1 _ (fld_get (by omega))
  have hf1 := hf _ (List.mem_of_getElem? (fld_get (row := hd) (i := 1) (by omega)))
  have HN := hide (fun W (b : Below w.heap.size w W) => newFlag_all (h.below b) (Fld.str (fld hd 1)) (by rw [fstr_wd, Wd.str_size]; omega))
  have e1 : (Fld.str (fld hd 1)).data.toList = fld hd 1 := by simp [Fld.str]
  rw [e1] at HN
  rw [hlen] at h1 ⊢
  clear hcl hf hrow hlen hf1 e1
  cases hn : newFlag R (fld hd 1) with
  | error er =>
    have HX := hide (doSpecial_no (i := 4) hn)
    have HNN := hide (fun W b => noOf (unhide HN W b) hn)
    obtain ⟨k7, kz⟩ : (∃ u, w.cell? ⟨P.fb, 7, none⟩ = some u) ∧ ∀ j, w.frozen? ⟨P.fb, j, none⟩ = false := by
      have := h.file.fil
      exact ⟨⟨_, by simp [World.cell?, this, filC]; rfl⟩, fun j => by simp [World.frozen?, this]⟩
    obtain ⟨u, ku⟩ := k7
    clear HN hn h hl
    generalize Fld.str (fld hd 1) = r1 at *
    have sA : (w.drew.cell? ⟨rb, 0, none⟩ = some (.pointer (some ⟨P.fb, 0, none⟩)) ∧ w.drew.cell? ⟨g, 1, none⟩ = some (.string r1)) := ⟨d0, q1⟩
    have s6 : ∀ v, ((w.setCell ⟨P.fb, 7, none⟩ v).drew.cell? ⟨rb, 0, none⟩ = some (.pointer (some ⟨P.fb, 0, none⟩)) ∧ (w.setCell ⟨P.fb, 7, none⟩ v).drew.cell? ⟨g, 1, none⟩ = some (.string r1)) := fun v => ⟨(World.cell?_setCell_far w ⟨P.fb, _, none⟩ _ v (unhide HNE)).trans d0, (World.cell?_setCell_far w ⟨P.fb, _, none⟩ _ v (unhide HNG)).trans q1⟩
    go_enter Tryz.func73, Tryz.ntmps73
    go_wp2_with fail
    go_region_held2 (fun w' => (w'.cell? ⟨rb, 0, none⟩ = some (.pointer (some ⟨P.fb, 0, none⟩)) ∧ w'.cell? ⟨g, 1, none⟩ = some (.string r1))) (first | (with_reducible exact s6 _) | (with_reducible exact sA)) (first | (go_at_call 96; refine calls_nof (.int .u16 0) (by (repeat (first | exact Below.refl _ _ | refine Below.drew ?_ | refine Below.alloc ?_ (by first | (simp; done) | (simp; omega)) _ | refine Below.setCell ?_ (by first | (simp; done) | (simp; omega)) _))) (unhide HNN) (fun w4 b4 => ⟨rfl, Res.no (unhide HX) (Kt.of_below b4 (unhide HH).base)⟩) ?_; intro HF))
    all_goals exact (unhide HF).elim
  | ok x =>
    have HX := hide (doSpecial_ok (i := 4) hn)
    have HNN := hide (fun W b => okOf (unhide HN W b) hn)
    unfold flgV at HNN
    obtain ⟨x1, x2, -, -⟩ := newFlag_pos hn
    obtain ⟨s0, s1, s2, s3, s4, hsp⟩ := five h.file.ok.spec
    have HF := hide (fun w0 (b : Below w.heap.size w w0) => h.fset b (F' := { R.file with specials := R.file.specials.set 4 x }) 7 (.int .u16 x) (by simp [filC, hsp]) rfl rfl rfl rfl (spec_ok h.file.ok 4 x (by omega) x2))
    have HCC : Hid (∀ w0, Below w.heap.size w w0 → w0.cell? ⟨rb, 0, none⟩ = some (.pointer (some ⟨P.fb, 0, none⟩)) ∧ w0.cell? ⟨P.fb, 7, none⟩ = some (.int .u16 s4) ∧ P.fb < w0.heap.size ∧ ∀ j, w0.frozen? ⟨P.fb, j, none⟩ = false) := fun w0 b => by
      have h0 := h.below b
      have := h0.file.fil
      refine ⟨h0.cells.1, by simp [World.cell?, this, filC, hsp], h0.file.lt, fun j => by simp [World.frozen?, this]⟩
    clear HN hn h hl x1 x2 hsp
    generalize Fld.str (fld hd 1) = r1 at *
    have sA : (w.drew.cell? ⟨rb, 0, none⟩ = some (.pointer (some ⟨P.fb, 0, none⟩)) ∧ w.drew.cell? ⟨g, 1, none⟩ = some (.string r1)) := ⟨d0, q1⟩
    go_enter Tryz.func73, Tryz.ntmps73
    go_wp2_with fail
    go_region_held2 (fun w' => (w'.cell? ⟨rb, 0, none⟩ = some (.pointer (some ⟨P.fb, 0, none⟩)) ∧ w'.cell? ⟨g, 1, none⟩ = some (.string r1))) (first | (with_reducible exact s6) | (with_reducible exact s5) | (with_reducible exact sA)) (first | (go_at_call 96; refine (unhide HNN _ (by (repeat (first | exact Below.refl _ _ | refine Below.drew ?_ | refine Below.alloc ?_ (by first | (simp; done) | (simp; omega)) _ | refine Below.setCell ?_ (by first | (simp; done) | (simp; omega)) _)))).mono ?_; rintro e w5 ⟨rfl, b5⟩; have HB5 := hide (btr ((Below.refl _ w).drew) b5); obtain ⟨n1, n2, n3, n4⟩ := unhide HCC _ (unhide HB5); have s5 : (w5.cell? ⟨rb, 0, none⟩ = some (.pointer (some ⟨P.fb, 0, none⟩)) ∧ w5.cell? ⟨g, 1, none⟩ = some (.string r1)) := ⟨n1, ((unhide HB5).cell (p := ⟨g, 1, none⟩) hg).trans q1⟩; have s6 : ((w5.setCell ⟨P.fb, 7, none⟩ (.int .u16 x)).cell? ⟨rb, 0, none⟩ = some (.pointer (some ⟨P.fb, 0, none⟩)) ∧ (w5.setCell ⟨P.fb, 7, none⟩ (.int .u16 x)).cell? ⟨g, 1, none⟩ = some (.string r1)) := ⟨(World.cell?_setCell_far _ _ _ _ (unhide HNE)).trans s5.1, (World.cell?_setCell_far _ _ _ _ (unhide HNG)).trans s5.2⟩; clear b5 n1))
    go_wp2
    go_end0
    exact Res.yes (unhide HX) (unhide HF _ (unhide HB5)).2 (unhide HF _ (unhide HB5)).1 rfl rfl rfl
end Af
end Go.Proofs.YtlajdmjpobckhaaGreatDoor
/- The reader: the replacements. -/
namespace Go.Proofs.YtlajdmjpobckhaaGreatDoor
open Go.RowKit
namespace Af
open RowB
theorem calls_no2 {g : FuncId} {args : Array Value} {w W : World} {er : Er} {Q : Ending → World → Prop} (r : Value) (b : Below w.heap.size w W) (h : ∀ W, Below w.heap.size w W → Calls Tryz.prog g args W fun e w' => e = .panicked (chn er) ∧ Below W.heap.size W w') (k : ∀ w', Below w.heap.size w w' → Q (.panicked (chn er)) w') (_d : Hid False → Q (.returned r) W) : Calls Tryz.prog g args W Q :=
  (h W b).mono fun e w' q => by rw [q.1]; exact k w' (b.trans (q.2.mono b.size))
/-- the state of the loop -/
def RS (B rb : Nat) (w W : World) (R : Rdr) (P : Pts) (hv : Value) (hd : List Bs) (j : Nat) : Prop :=
  ∃ Rj Pj, LP B rb w W Rj Pj P hv hd ∧ times (repStep (fld hd 0)) j R = .ok Rj ∧ Rj.file.reps.length = j
set_option maxRecDepth 100000 in
set_option maxHeartbeats 4000000 in
theorem readReps_any {B rb : Nat} {R : Rdr} {P : Pts} {w : World} (h : RAt B w rb R P) (k : Value) (hd : List Bs) (hv : Value) (hrow : StrRow B w hv (hd.map Fld.str)) (hlen : hd.length = 2) (hf : ∀ f ∈ hd, f.length ≤ 65536) (h0 : R.file.reps = []) :
    Calls Tryz.prog 75 #[ptr rb, hv, k] w (Res B rb P w (doReps R hd)) := by
  have HS := hide (LP.start h hrow)
  have HLN := hide hlen
  have HZ := hide h0
  obtain ⟨g, cap, rfl, hg, h1, h2, -, hcl⟩ := str_cells hrow
  unfold maxLen at h2
  have q1 := hcl 1 _ (fld_get (by omega))
  have hf1 := hf _ (List.mem_of_getElem? (fld_get (row := hd) (i := 1) (by omega)))
  have HN := hide (number_any rb R.line (Fld.str (fld hd 1)) 256 w (by rw [fstr_wd, Wd.str_size]; omega) (by decide) h.cells.2.2.1)
  have e1 : (Fld.str (fld hd 1)).data.toList = fld hd 1 := by simp [Fld.str]
  rw [e1] at HN
  rw [hlen] at h1 HS ⊢
  clear hcl hf hf1 e1 hrow hlen h0 h
  generalize Fld.str (fld hd 1) = r1 at *
  cases hn : numb R.line (fld hd 1) 256 with
  | error er =>
    have HX := hide (doReps_n hn)
    have HNN := hide (noOf (unhide HN) hn)
    clear HN hn
    go_enter Tryz.func75, Tryz.ntmps75
    go_wp2_with (go_at_call 97; refine (unhide HNN).mono ?_; rintro e w4 ⟨rfl, rfl⟩)
    exact ⟨rfl, Res.no (unhide HX) (Kt.refl _ _ _ _)⟩
  | ok n =>
    have HX := hide (doReps_t hn)
    have hnm : n ≤ 256 := numb_le hn
    have HNN := hide (okOf (unhide HN) hn)
    clear HN hn
    go_enter Tryz.func75, Tryz.ntmps75
    go_wp2_with (go_at_call 97; refine (unhide HNN).mono ?_; rintro e w4 ⟨rfl, rfl⟩)
    go_loopw [13] (fun s13 wr => ∃ j : Nat, s13 = .int .i64 j ∧ j ≤ n ∧ Hid (RS B rb w4 wr R P (.slice (some ⟨g, 0, none⟩) 2 cap) hd j)) (fun s13 _ => n - (intOf s13).toNat)
    case atStart => exact ⟨0, rfl, Nat.zero_le _, ⟨R, P, unhide HS, rfl, by rw [unhide HZ]; rfl⟩⟩
    case round =>
      obtain ⟨j, rfl, hj, HR⟩ := hrel
      by_cases hlt : j < n
      · obtain ⟨Rj, Pj, hL, ht, hjl⟩ := unhide HR
        have HT := hide ht
        have HJL := hide hjl
        have HL := hide hL
        have hltz : (j : Int) < (n : Int) := by omega
        obtain ⟨hg', -, hcc⟩ := str_at hL.row
        have q0 := hcc 0 _ (fld_get (by rw [unhide HLN]; decide))
        clear HR ht hjl hcc hg h1 q1 HS HNN
        have HA := hide (hL.below ((Below.refl _ wr).alloc (Nat.le_refl _) (.cells #[.string (Fld.str (fld hd 0))] 9)))
        have HG := hide (groupRow_any (unhide HA).at_ [fld hd 0] (.slice (some ⟨wr.heap.size, 0, none⟩) 1 1) (str_new wr [fld hd 0] (by simp) (by simp)) (by simp))
        generalize Fld.str (fld hd 0) = r0 at *
        clear hL
        cases hgr : grow Rj [fld hd 0] with
        | error er =>
          have HE := hide (times_err (unhide HT) (repStep_g hgr) hlt)
          have HGN := hide (gNo (unhide HG) hgr)
          clear HG hgr
          go_wp2_with (go_at_call 98; refine (unhide HGN).mono ?_; rintro e w2 ⟨rfl, k2, l2⟩)
          exact ⟨rfl, (unhide HA).no2 k2 l2 ((unhide HX).trans (unhide HE))⟩
        | ok p =>
          obtain ⟨row, R1⟩ := p
          have HGR := hide hgr
          have HGO := hide (gOk (unhide HG) hgr)
          obtain ⟨lq, tq, hrq, hr1, hr2, hr3, hr4, hr5⟩ := grow_rows hgr
          have HFL := hide (grow_len (unhide HL).at_.rok hgr)
          have HJ1 : Hid (R1.file.reps.length = j) := by rw [Hid, hr3]; exact unhide HJL
          clear HG hgr hrq hr1 hr2 hr3 hr4 hr5
          go_wp2_with (go_at_call 98; refine (unhide HGO).mono ?_; rintro e w2 ⟨fv, rv, rfl, s2, r2, k2, l2⟩; have HL2 := hide ((unhide HA).grow k2 l2 r2); have HS2 := hide s2; obtain ⟨g2, cap2, rfl, hg2, x1, x2, -, hc2⟩ := str_cells s2; have HC2 := hide hc2; clear s2 r2 k2 l2 hc2)
          unfold maxLen at x2
          by_cases h3 : row.length = 3
          · rw [h3] at x1 HS2 ⊢
            have y1 := unhide HC2 1 _ (fld_get (by omega))
            have y2 := unhide HC2 2 _ (fld_get (by omega))
            have y3 := (unhide HFL).2 _ (List.mem_of_getElem? (fld_get (row := row) (i := 1) (by omega)))
            have y4 := (unhide HFL).2 _ (List.mem_of_getElem? (fld_get (row := row) (i := 2) (by omega)))
            have HP := hide (piece_any rb R1.line (Fld.str (fld row 1)) w2 (by rw [fstr_wd, Wd.str_size]; omega) (unhide HL2).at_.lt (unhide HL2).at_.cells.2.2.1)
            have HQ := hide (fun W (b : Below w2.heap.size w2 W) => piece0_any rb R1.line (Fld.str (fld row 2)) W (by rw [fstr_wd, Wd.str_size]; omega) ((unhide HL2).below b).at_.lt ((unhide HL2).below b).at_.cells.2.2.1)
            have e1 : (Fld.str (fld row 1)).data.toList = fld row 1 := by simp [Fld.str]
            have e2 : (Fld.str (fld row 2)).data.toList = fld row 2 := by simp [Fld.str]
            rw [e1] at HP
            rw [e2] at HQ
            have HH3 := hide h3
            clear e1 e2 y3 y4 h3 HC2 hg'
            generalize Fld.str (fld row 1) = r1 at *
            generalize Fld.str (fld row 2) = r2 at *
            cases hp : piece R1.line (fld row 1) with
            | error er =>
              have HE := hide (times_err (unhide HT) (repStep_r (unhide HGR) (repRow_p (unhide HH3) hp)) hlt)
              have HPN := hide (noOf (unhide HP) hp)
              clear HP HQ hp
              go_wp2_with (first | (go_at_call 79; refine (leaveIf_f _ _ _ _ rfl).mono ?_; rintro e w3 ⟨rfl, hw3⟩; subst w3) | (go_at_call 99; refine (unhide HPN).mono ?_; rintro e w3 ⟨rfl, b3⟩))
              exact ⟨rfl, (unhide HL2).no b3 ((unhide HX).trans (unhide HE))⟩
            | ok a =>
              have HPO := hide (okOf (unhide HP) hp)
              have HPP := hide hp
              unfold strV at HPO
              clear HP hp
              go_wp2_with (first | (go_at_call 79; refine (leaveIf_f _ _ _ _ rfl).mono ?_; rintro e w3 ⟨rfl, hw3⟩; subst w3) | (go_at_call 99; refine (unhide HPO).mono ?_; rintro e w3 ⟨rfl, b3⟩))
              have HB3 := hide b3
              have z2 := (b3.cell (p := ⟨g2, 2, none⟩) hg2).trans y2
              have hL3 := (unhide HL2).below b3
              obtain ⟨d0, -, -, -, -, -, -⟩ := hL3.at_.cells
              obtain ⟨-, k9, -, -, -, -, -⟩ := hL3.at_.file.cells
              have ho9 := hL3.at_.file.reps
              rw [unhide HJ1] at ho9
              obtain ⟨av, cv, ev, -, -⟩ := own_len ho9
              replace k9 : w3.cell? ⟨Pj.fb, 9, none⟩ = some (.slice av j cv) := k9.trans (by rw [ev])
              replace d0 : w3.cell? ⟨rb, 0, none⟩ = some (.pointer (some ⟨Pj.fb, 0, none⟩)) := d0
              have hrb3 := hL3.at_.lt
              have hfb3 : Pj.fb < w3.heap.size := hL3.at_.file.lt
              have hg3 : g2 < w3.heap.size := Nat.lt_of_lt_of_le hg2 b3.size
              have HL3 := hide hL3
              have HEV := hide ev
              have HS3 := hide (str_kept (unhide HS2) (below_kept b3))
              clear b3 y1 y2 ev hL3 hg2 HS2 HA HGO HPO ho9
              cases hq : piece0 R1.line (fld row 2) with
              | error er =>
                have HE := hide (times_err (unhide HT) (repStep_r (unhide HGR) (repRow_q (unhide HH3) (unhide HPP) hq)) hlt)
                have HQN := hide (fun W (b : Below w3.heap.size w3 W) => noOf (unhide HQ W ((unhide HB3).trans (b.mono (unhide HB3).size))) hq)
                clear HQ hq
                go_wp2_with fail
                refine Lst.region_last (ops1 := ?ops1) (o := ?op1) (S := fun w' => w'.cell? ⟨rb, 0, none⟩ = some (.pointer (some ⟨Pj.fb, 0, none⟩)) ∧ w'.cell? ⟨Pj.fb, 9, none⟩ = some (.slice av j cv) ∧ w'.cell? ⟨g2, 2, none⟩ = some (.string r2)) (by kernel_rfl) ?hp1 ?hb1 ?hk1 (by exact ⟨d0, k9, z2⟩) ?hn1
                case hp1 => (simp only [List.pop_toArray, List.dropLast_cons_cons, List.dropLast_singleton]; rfl)
                case hb1 => (simp only [List.back?_toArray, List.getLast?_cons_cons, List.getLast?_singleton]; rfl)
                case hk1 => kernel_rfl
                intro hHeld
                refine wpAnyH_take (i := 0) (v := ?v2) (by simp only [List.getElem?_toArray, List.getElem?_cons_zero]; rfl) (by kernel_rfl) (by kernel_rfl) (by kernel_rfl) (by exact fun _ _ _ h => h) (Or.inl ⟨by rfl, ?hy2⟩) (by assumption) ?_
                case hy2 => (intro w hSw; (try dsimp only at hSw); go_simp; first | done | (with_reducible rfl))
                (try simp only [Act.put, List.setIfInBounds_toArray, List.set_cons_zero, List.set_cons_succ])
                refine wpAnyH_take (i := 1) (v := ?v3) (by simp only [List.getElem?_toArray, List.getElem?_cons_succ, List.getElem?_cons_zero]; rfl) (by kernel_rfl) (by kernel_rfl) (by kernel_rfl) (by exact fun _ _ _ h => h) (Or.inl ⟨by rfl, ?hy3⟩) (by assumption) ?_
                case hy3 => (intro w hSw; (try dsimp only at hSw); go_simp; first | done | (with_reducible rfl))
                (try simp only [Act.put, List.setIfInBounds_toArray, List.set_cons_zero, List.set_cons_succ])
                refine wpAnyH_take (i := 2) (v := ?v4) (by simp only [List.getElem?_toArray, List.getElem?_cons_succ, List.getElem?_cons_zero]; rfl) (by kernel_rfl) (by kernel_rfl) (by kernel_rfl) (by exact fun _ _ _ h => h) (Or.inl ⟨by rfl, ?hy4⟩) (by assumption) ?_
                case hy4 => (intro w hSw; (try dsimp only at hSw); go_simp; first | done | (with_reducible rfl))
                (try simp only [Act.put, List.setIfInBounds_toArray, List.set_cons_zero, List.set_cons_succ])
                refine wpAnyH_take (i := 3) (v := ?v5) (by simp only [List.getElem?_toArray, List.getElem?_cons_succ, List.getElem?_cons_zero]; rfl) (by kernel_rfl) (by kernel_rfl) (by kernel_rfl) (by exact fun _ _ _ h => h) (Or.inl ⟨by rfl, ?hy5⟩) (by assumption) ?_
                case hy5 => (intro w hSw; (try dsimp only at hSw); go_simp; first | done | (with_reducible rfl))
                (try simp only [Act.put, List.setIfInBounds_toArray, List.set_cons_zero, List.set_cons_succ])
                refine wpAnyH_take (i := 4) (v := ?v6) (by simp only [List.getElem?_toArray, List.getElem?_cons_succ, List.getElem?_cons_zero]; rfl) (by kernel_rfl) (by kernel_rfl) (by kernel_rfl) (by exact fun _ _ _ h => h) (Or.inl ⟨by rfl, ?hy6⟩) (by assumption) ?_
                case hy6 => (intro w hSw; (try dsimp only at hSw); go_simp; first | done | (with_reducible rfl))
                (try simp only [Act.put, List.setIfInBounds_toArray, List.set_cons_zero, List.set_cons_succ])
                refine wpAnyH_take (i := 5) (v := ?v7) (by simp only [List.getElem?_toArray, List.getElem?_cons_succ, List.getElem?_cons_zero]; rfl) (by kernel_rfl) (by kernel_rfl) (by kernel_rfl) (by exact fun _ _ _ h => h) (Or.inl ⟨by rfl, ?hy7⟩) (by assumption) ?_
                case hy7 => (intro w hSw; (try dsimp only at hSw); go_simp; first | done | (with_reducible rfl))
                (try simp only [Act.put, List.setIfInBounds_toArray, List.set_cons_zero, List.set_cons_succ])
                refine wpAnyH_take (i := 6) (v := ?v8) (by simp only [List.getElem?_toArray, List.getElem?_cons_succ, List.getElem?_cons_zero]; rfl) (by kernel_rfl) (by kernel_rfl) (by kernel_rfl) (by exact fun _ _ _ h => h) (Or.inl ⟨by rfl, ?hy8⟩) (by assumption) ?_
                case hy8 => (intro w hSw; (try dsimp only at hSw); go_simp; first | done | (with_reducible rfl))
                (try simp only [Act.put, List.setIfInBounds_toArray, List.set_cons_zero, List.set_cons_succ])
                refine wpAnyH_take (i := 7) (v := ?v9) (by simp only [List.getElem?_toArray, List.getElem?_cons_succ, List.getElem?_cons_zero]; rfl) (by kernel_rfl) (by kernel_rfl) (by kernel_rfl) (by exact fun _ _ _ h => h) (Or.inl ⟨by rfl, ?hy9⟩) (by assumption) ?_
                case hy9 => (intro w hSw; (try dsimp only at hSw); go_simp; first | done | (with_reducible rfl))
                (try simp only [Act.put, List.setIfInBounds_toArray, List.set_cons_zero, List.set_cons_succ])
                refine wpAnyH_take (i := 8) (v := ?v10) (by simp only [List.getElem?_toArray, List.getElem?_cons_succ, List.getElem?_cons_zero]; rfl) (by kernel_rfl) (by kernel_rfl) (by kernel_rfl) (by exact fun _ _ _ h => h) (Or.inl ⟨by rfl, ?hy10⟩) (by assumption) ?_
                case hy10 => (intro w hSw; (try dsimp only at hSw); go_simp; first | done | (with_reducible rfl))
                (try simp only [Act.put, List.setIfInBounds_toArray, List.set_cons_zero, List.set_cons_succ])
                refine wpAnyH_take (i := 9) (v := ?v11) (by simp only [List.getElem?_toArray, List.getElem?_cons_succ, List.getElem?_cons_zero]; rfl) (by kernel_rfl) (by kernel_rfl) (by kernel_rfl) (by exact fun _ _ _ h => h) (Or.inl ⟨by rfl, ?hy11⟩) (by assumption) ?_
                case hy11 => (intro w hSw; (try dsimp only at hSw); go_simp; first | done | (with_reducible rfl))
                (try simp only [Act.put, List.setIfInBounds_toArray, List.set_cons_zero, List.set_cons_succ])
                refine wpAnyH_take (i := 10) (v := ?v12) (by simp only [List.getElem?_toArray, List.getElem?_cons_succ, List.getElem?_cons_zero]; rfl) (by kernel_rfl) (by kernel_rfl) (by kernel_rfl) (by exact fun _ _ _ h => h) (Or.inl ⟨by rfl, ?hy12⟩) (by assumption) ?_
                case hy12 => (intro w hSw; (try dsimp only at hSw); go_simp; first | done | (with_reducible rfl))
                (try simp only [Act.put, List.setIfInBounds_toArray, List.set_cons_zero, List.set_cons_succ])
                refine wpAnyH_take (i := 11) (v := ?v13) (by simp only [List.getElem?_toArray, List.getElem?_cons_succ, List.getElem?_cons_zero]; rfl) (by kernel_rfl) (by kernel_rfl) (by kernel_rfl) (by exact fun _ _ _ h => h) (Or.inl ⟨by rfl, ?hy13⟩) (by assumption) ?_
                case hy13 => (intro w hSw; (try dsimp only at hSw); go_simp; first | done | (with_reducible rfl))
                (try simp only [Act.put, List.setIfInBounds_toArray, List.set_cons_zero, List.set_cons_succ])
                refine wpAnyH_take (i := 12) (v := ?v14) (by simp only [List.getElem?_toArray, List.getElem?_cons_succ, List.getElem?_cons_zero]; rfl) (by kernel_rfl) (by kernel_rfl) (by kernel_rfl) (by exact fun _ _ _ h => h) (Or.inl ⟨by rfl, ?hy14⟩) (by assumption) ?_
                case hy14 => (intro w hSw; (try dsimp only at hSw); go_simp; first | done | (with_reducible rfl))
                (try simp only [Act.put, List.setIfInBounds_toArray, List.set_cons_zero, List.set_cons_succ])
                refine wpAnyH_take (i := 13) (v := ?v15) (by simp only [List.getElem?_toArray, List.getElem?_cons_succ, List.getElem?_cons_zero]; rfl) (by kernel_rfl) (by kernel_rfl) (by kernel_rfl) (by exact fun _ _ _ h => h) (Or.inl ⟨by rfl, ?hy15⟩) (by assumption) ?_
                case hy15 => (intro w hSw; (try dsimp only at hSw); go_simp; first | done | (with_reducible rfl))
                (try simp only [Act.put, List.setIfInBounds_toArray, List.set_cons_zero, List.set_cons_succ])
                refine wpAnyH_take (i := 14) (v := ?v16) (by simp only [List.getElem?_toArray, List.getElem?_cons_succ, List.getElem?_cons_zero]; rfl) (by kernel_rfl) (by kernel_rfl) (by kernel_rfl) (by exact fun _ _ _ h => h) (Or.inl ⟨by rfl, ?hy16⟩) (by assumption) ?_
                case hy16 => (intro w hSw; (try dsimp only at hSw); go_simp; first | done | (with_reducible rfl))
                (try simp only [Act.put, List.setIfInBounds_toArray, List.set_cons_zero, List.set_cons_succ])
                refine wpAnyH_take (i := 15) (v := ?v17) (by simp only [List.getElem?_toArray, List.getElem?_cons_succ, List.getElem?_cons_zero]; rfl) (by kernel_rfl) (by kernel_rfl) (by kernel_rfl) (by exact fun _ _ _ h => h) (Or.inl ⟨by rfl, ?hy17⟩) (by assumption) ?_
                case hy17 => (intro w hSw; (try dsimp only at hSw); go_simp; first | done | (with_reducible rfl))
                (try simp only [Act.put, List.setIfInBounds_toArray, List.set_cons_zero, List.set_cons_succ])
                refine wpAnyH_take (i := 16) (v := ?v18) (by simp only [List.getElem?_toArray, List.getElem?_cons_succ, List.getElem?_cons_zero]; rfl) (by kernel_rfl) (by kernel_rfl) (by kernel_rfl) (by exact fun _ _ _ h => h) (Or.inl ⟨by rfl, ?hy18⟩) (by assumption) ?_
                case hy18 => (intro w hSw; (try dsimp only at hSw); go_simp; first | done | (with_reducible rfl))
                (try simp only [Act.put, List.setIfInBounds_toArray, List.set_cons_zero, List.set_cons_succ])
                refine wpAnyH_ready (rs := [17]) (by kernel_rfl) (by simp) ?_
                refine AllReadyH.cons (by simp only [List.getElem?_toArray, List.getElem?_cons_succ, List.getElem?_cons_zero]; rfl) (fun K hK => ?_) AllReadyH.nil
                go_simp
                go_wp2_with (go_at_call 100; refine (unhide HQN _ ((Below.refl w3.heap.size w3).drew)).mono ?_; rintro e w5 ⟨rfl, b5⟩)
                exact ⟨rfl, (unhide HL3).no (((Below.refl w3.heap.size w3).drew).trans b5) ((unhide HX).trans (unhide HE))⟩
              | ok b =>
                have HQO := hide (okOf (unhide HQ _ ((unhide HB3).drew)) hq)
                have HQQ := hide hq
                unfold strV at HQO
                clear HQ hq
                go_wp2_with fail
                rename_i K0 hK0
                have HK0 := hide hK0
                clear hK0
                refine Lst.region_last (ops1 := ?ops19) (o := ?op19) (S := fun w' => w'.cell? ⟨rb, 0, none⟩ = some (.pointer (some ⟨Pj.fb, 0, none⟩)) ∧ w'.cell? ⟨Pj.fb, 9, none⟩ = some (.slice av j cv) ∧ w'.cell? ⟨g2, 2, none⟩ = some (.string r2)) (by kernel_rfl) ?hp19 ?hb19 ?hk19 (by exact ⟨d0, k9, z2⟩) ?hn19
                case hp19 => (simp only [List.pop_toArray, List.dropLast_cons_cons, List.dropLast_singleton]; rfl)
                case hb19 => (simp only [List.back?_toArray, List.getLast?_cons_cons, List.getLast?_singleton]; rfl)
                case hk19 => kernel_rfl
                intro hHeld
                refine wpAnyH_take (i := 0) (v := ?v20) (by simp only [List.getElem?_toArray, List.getElem?_cons_zero]; rfl) (by kernel_rfl) (by kernel_rfl) (by kernel_rfl) (by exact fun _ _ _ h => h) (Or.inl ⟨by rfl, ?hy20⟩) (by assumption) ?_
                case hy20 => (intro w hSw; (try dsimp only at hSw); go_simp; first | done | (with_reducible rfl))
                (try simp only [Act.put, List.setIfInBounds_toArray, List.set_cons_zero, List.set_cons_succ])
                refine wpAnyH_take (i := 1) (v := ?v21) (by simp only [List.getElem?_toArray, List.getElem?_cons_succ, List.getElem?_cons_zero]; rfl) (by kernel_rfl) (by kernel_rfl) (by kernel_rfl) (by exact fun _ _ _ h => h) (Or.inl ⟨by rfl, ?hy21⟩) (by assumption) ?_
                case hy21 => (intro w hSw; (try dsimp only at hSw); go_simp; first | done | (with_reducible rfl))
                (try simp only [Act.put, List.setIfInBounds_toArray, List.set_cons_zero, List.set_cons_succ])
                refine wpAnyH_take (i := 2) (v := ?v22) (by simp only [List.getElem?_toArray, List.getElem?_cons_succ, List.getElem?_cons_zero]; rfl) (by kernel_rfl) (by kernel_rfl) (by kernel_rfl) (by exact fun _ _ _ h => h) (Or.inl ⟨by rfl, ?hy22⟩) (by assumption) ?_
                case hy22 => (intro w hSw; (try dsimp only at hSw); go_simp; first | done | (with_reducible rfl))
                (try simp only [Act.put, List.setIfInBounds_toArray, List.set_cons_zero, List.set_cons_succ])
                refine wpAnyH_take (i := 3) (v := ?v23) (by simp only [List.getElem?_toArray, List.getElem?_cons_succ, List.getElem?_cons_zero]; rfl) (by kernel_rfl) (by kernel_rfl) (by kernel_rfl) (by exact fun _ _ _ h => h) (Or.inl ⟨by rfl, ?hy23⟩) (by assumption) ?_
                case hy23 => (intro w hSw; (try dsimp only at hSw); go_simp; first | done | (with_reducible rfl))
                (try simp only [Act.put, List.setIfInBounds_toArray, List.set_cons_zero, List.set_cons_succ])
                refine wpAnyH_take (i := 4) (v := ?v24) (by simp only [List.getElem?_toArray, List.getElem?_cons_succ, List.getElem?_cons_zero]; rfl) (by kernel_rfl) (by kernel_rfl) (by kernel_rfl) (by exact fun _ _ _ h => h) (Or.inl ⟨by rfl, ?hy24⟩) (by assumption) ?_
                case hy24 => (intro w hSw; (try dsimp only at hSw); go_simp; first | done | (with_reducible rfl))
                (try simp only [Act.put, List.setIfInBounds_toArray, List.set_cons_zero, List.set_cons_succ])
                refine wpAnyH_take (i := 5) (v := ?v25) (by simp only [List.getElem?_toArray, List.getElem?_cons_succ, List.getElem?_cons_zero]; rfl) (by kernel_rfl) (by kernel_rfl) (by kernel_rfl) (by exact fun _ _ _ h => h) (Or.inl ⟨by rfl, ?hy25⟩) (by assumption) ?_
                case hy25 => (intro w hSw; (try dsimp only at hSw); go_simp; first | done | (with_reducible rfl))
                (try simp only [Act.put, List.setIfInBounds_toArray, List.set_cons_zero, List.set_cons_succ])
                refine wpAnyH_take (i := 6) (v := ?v26) (by simp only [List.getElem?_toArray, List.getElem?_cons_succ, List.getElem?_cons_zero]; rfl) (by kernel_rfl) (by kernel_rfl) (by kernel_rfl) (by exact fun _ _ _ h => h) (Or.inl ⟨by rfl, ?hy26⟩) (by assumption) ?_
                case hy26 => (intro w hSw; (try dsimp only at hSw); go_simp; first | done | (with_reducible rfl))
                (try simp only [Act.put, List.setIfInBounds_toArray, List.set_cons_zero, List.set_cons_succ])
                refine wpAnyH_take (i := 7) (v := ?v27) (by simp only [List.getElem?_toArray, List.getElem?_cons_succ, List.getElem?_cons_zero]; rfl) (by kernel_rfl) (by kernel_rfl) (by kernel_rfl) (by exact fun _ _ _ h => h) (Or.inl ⟨by rfl, ?hy27⟩) (by assumption) ?_
                case hy27 => (intro w hSw; (try dsimp only at hSw); go_simp; first | done | (with_reducible rfl))
                (try simp only [Act.put, List.setIfInBounds_toArray, List.set_cons_zero, List.set_cons_succ])
                refine wpAnyH_take (i := 8) (v := ?v28) (by simp only [List.getElem?_toArray, List.getElem?_cons_succ, List.getElem?_cons_zero]; rfl) (by kernel_rfl) (by kernel_rfl) (by kernel_rfl) (by exact fun _ _ _ h => h) (Or.inl ⟨by rfl, ?hy28⟩) (by assumption) ?_
                case hy28 => (intro w hSw; (try dsimp only at hSw); go_simp; first | done | (with_reducible rfl))
                (try simp only [Act.put, List.setIfInBounds_toArray, List.set_cons_zero, List.set_cons_succ])
                refine wpAnyH_take (i := 9) (v := ?v29) (by simp only [List.getElem?_toArray, List.getElem?_cons_succ, List.getElem?_cons_zero]; rfl) (by kernel_rfl) (by kernel_rfl) (by kernel_rfl) (by exact fun _ _ _ h => h) (Or.inl ⟨by rfl, ?hy29⟩) (by assumption) ?_
                case hy29 => (intro w hSw; (try dsimp only at hSw); go_simp; first | done | (with_reducible rfl))
                (try simp only [Act.put, List.setIfInBounds_toArray, List.set_cons_zero, List.set_cons_succ])
                refine wpAnyH_take (i := 10) (v := ?v30) (by simp only [List.getElem?_toArray, List.getElem?_cons_succ, List.getElem?_cons_zero]; rfl) (by kernel_rfl) (by kernel_rfl) (by kernel_rfl) (by exact fun _ _ _ h => h) (Or.inl ⟨by rfl, ?hy30⟩) (by assumption) ?_
                case hy30 => (intro w hSw; (try dsimp only at hSw); go_simp; first | done | (with_reducible rfl))
                (try simp only [Act.put, List.setIfInBounds_toArray, List.set_cons_zero, List.set_cons_succ])
                refine wpAnyH_take (i := 11) (v := ?v31) (by simp only [List.getElem?_toArray, List.getElem?_cons_succ, List.getElem?_cons_zero]; rfl) (by kernel_rfl) (by kernel_rfl) (by kernel_rfl) (by exact fun _ _ _ h => h) (Or.inl ⟨by rfl, ?hy31⟩) (by assumption) ?_
                case hy31 => (intro w hSw; (try dsimp only at hSw); go_simp; first | done | (with_reducible rfl))
                (try simp only [Act.put, List.setIfInBounds_toArray, List.set_cons_zero, List.set_cons_succ])
                refine wpAnyH_take (i := 12) (v := ?v32) (by simp only [List.getElem?_toArray, List.getElem?_cons_succ, List.getElem?_cons_zero]; rfl) (by kernel_rfl) (by kernel_rfl) (by kernel_rfl) (by exact fun _ _ _ h => h) (Or.inl ⟨by rfl, ?hy32⟩) (by assumption) ?_
                case hy32 => (intro w hSw; (try dsimp only at hSw); go_simp; first | done | (with_reducible rfl))
                (try simp only [Act.put, List.setIfInBounds_toArray, List.set_cons_zero, List.set_cons_succ])
                refine wpAnyH_take (i := 13) (v := ?v33) (by simp only [List.getElem?_toArray, List.getElem?_cons_succ, List.getElem?_cons_zero]; rfl) (by kernel_rfl) (by kernel_rfl) (by kernel_rfl) (by exact fun _ _ _ h => h) (Or.inl ⟨by rfl, ?hy33⟩) (by assumption) ?_
                case hy33 => (intro w hSw; (try dsimp only at hSw); go_simp; first | done | (with_reducible rfl))
                (try simp only [Act.put, List.setIfInBounds_toArray, List.set_cons_zero, List.set_cons_succ])
                refine wpAnyH_take (i := 14) (v := ?v34) (by simp only [List.getElem?_toArray, List.getElem?_cons_succ, List.getElem?_cons_zero]; rfl) (by kernel_rfl) (by kernel_rfl) (by kernel_rfl) (by exact fun _ _ _ h => h) (Or.inl ⟨by rfl, ?hy34⟩) (by assumption) ?_
                case hy34 => (intro w hSw; (try dsimp only at hSw); go_simp; first | done | (with_reducible rfl))
                (try simp only [Act.put, List.setIfInBounds_toArray, List.set_cons_zero, List.set_cons_succ])
                refine wpAnyH_take (i := 15) (v := ?v35) (by simp only [List.getElem?_toArray, List.getElem?_cons_succ, List.getElem?_cons_zero]; rfl) (by kernel_rfl) (by kernel_rfl) (by kernel_rfl) (by exact fun _ _ _ h => h) (Or.inl ⟨by rfl, ?hy35⟩) (by assumption) ?_
                case hy35 => (intro w hSw; (try dsimp only at hSw); go_simp; first | done | (with_reducible rfl))
                (try simp only [Act.put, List.setIfInBounds_toArray, List.set_cons_zero, List.set_cons_succ])
                refine wpAnyH_take (i := 16) (v := ?v36) (by simp only [List.getElem?_toArray, List.getElem?_cons_succ, List.getElem?_cons_zero]; rfl) (by kernel_rfl) (by kernel_rfl) (by kernel_rfl) (by exact fun _ _ _ h => h) (Or.inl ⟨by rfl, ?hy36⟩) (by assumption) ?_
                case hy36 => (intro w hSw; (try dsimp only at hSw); go_simp; first | done | (with_reducible rfl))
                (try simp only [Act.put, List.setIfInBounds_toArray, List.set_cons_zero, List.set_cons_succ])
                refine wpAnyH_ready (rs := [17]) (by kernel_rfl) (by simp) ?_
                refine AllReadyH.cons (by simp only [List.getElem?_toArray, List.getElem?_cons_succ, List.getElem?_cons_zero]; rfl) (fun K hK => ?_) AllReadyH.nil
                go_simp
                go_wp2_with (go_at_call 100; refine (unhide HQO).mono ?_; rintro e w5 ⟨rfl, b5⟩; have HB5 := hide (((Below.refl w3.heap.size w3).drew).trans b5); have d05 := (b5.cell (p := ⟨rb, 0, none⟩) hrb3).trans d0; have k95 := (b5.cell (p := ⟨Pj.fb, 9, none⟩) hfb3).trans k9; have z25 := (b5.cell (p := ⟨g2, 2, none⟩) hg3).trans z2; clear b5)
                refine hK.out _ _ (⟨d05, k95, z25⟩) (fun hh1 => ?_)
                clear hK K
                (try simp only [Act.put, List.setIfInBounds_toArray, List.set_cons_zero, List.set_cons_succ])
                have HL5 := hide ((unhide HL3).below (unhide HB5))
                have ho := (unhide HL5).at_.file.reps
                rw [unhide HJ1] at ho
                obtain ⟨av6, cv6, w6, hap, o6, k6, l6, b6⟩ := push1 (B := B) (w := w5) (X := w5.alloc (.cells #[.string (Wd.str a), .string (Wd.str b)] 114)) (t := 63) (v := Pj.vr) Tryz.underlying63 infoR rfl (by decide) ho (unhide HL5).at_.base ((Below.refl _ _).alloc (Nat.le_refl _) _) (alloc_new w5 _) rfl (by intro u hu; simp at hu; rcases hu with rfl | rfl <;> rfl) (by omega) (by decide) 63
                rw [unhide HEV] at hap
                have HAP := hide hap
                have n256 : R1.file.reps.length < 256 := by rw [unhide HJ1]; omega
                have HADD := hide ((unhide HL5).at_.addRep (a, b) n256 (Below.refl _ _) k6 l6 (by rw [unhide HJ1]; exact o6))
                have d06 : w6.cell? ⟨rb, 0, none⟩ = some (.pointer (some ⟨Pj.fb, 0, none⟩)) := (World.cell?_of_block (a := ⟨rb, 0, none⟩) (k6.cells _ _ _ _ (unhide HL5).at_.rdr (by decide))).trans d05
                have k96 : w6.cell? ⟨Pj.fb, 9, none⟩ = some (.slice av j cv) := (World.cell?_of_block (a := ⟨Pj.fb, 9, none⟩) (k6.cells _ _ _ _ (unhide HL5).at_.file.fil (by decide))).trans k95
                have z26 : w6.cell? ⟨g2, 2, none⟩ = some (.string r2) := by
                  obtain ⟨g', cap', cur, e, -, hh, -⟩ := str_kept (unhide HS3) (below_kept (unhide HB5))
                  injection e with e _ _
                  injection e with e
                  injection e with e _ _
                  subst e
                  exact (World.cell?_of_block (a := ⟨g2, 2, none⟩) (k6.cells _ _ _ _ hh (by decide))).trans z25
                have f6 : w6.frozen? ⟨Pj.fb, 9, none⟩ = false := by
                  have := (k6.cells _ _ _ _ (unhide HL5).at_.file.fil (by decide)).trans (unhide HL5).at_.file.fil
                  simp [World.frozen?, this]
                have hfb6 : Pj.fb < w6.heap.size := World.block_lt_of_cell? w6 ⟨Pj.fb, 9, none⟩ k96
                have bb := fun q i (hb : q < w5.heap.size) => ((Below.refl w5.heap.size w5).alloc (Nat.le_refl _) (.cells #[.string (Wd.str a), .string (Wd.str b)] 114)).cell (p := ⟨q, i, none⟩) hb
                have d0a := (bb rb 0 (World.block_lt_of_cell? w5 ⟨rb, 0, none⟩ d05)).trans d05
                have k9a := (bb Pj.fb 9 (World.block_lt_of_cell? w5 ⟨Pj.fb, 9, none⟩ k95)).trans k95
                have z2a := (bb g2 2 (World.block_lt_of_cell? w5 ⟨g2, 2, none⟩ z25)).trans z25
                clear ho hap o6 k6 l6 b6 bb n256
                refine wpAnyH_take (i := 18) (v := ?v37) (by simp only [List.getElem?_toArray, List.getElem?_cons_succ, List.getElem?_cons_zero]; rfl) (by kernel_rfl) (by kernel_rfl) (by kernel_rfl) (by exact fun _ _ _ h => h) (Or.inl ⟨by rfl, ?hy37⟩) (by assumption) ?_
                case hy37 => (intro w hSw; (try dsimp only at hSw); go_simp; first | done | (with_reducible rfl))
                (try simp only [Act.put, List.setIfInBounds_toArray, List.set_cons_zero, List.set_cons_succ])
                refine wpAnyH_ready (rs := [19]) (by kernel_rfl) (by simp) ?_
                refine AllReadyH.cons (by simp only [List.getElem?_toArray, List.getElem?_cons_succ, List.getElem?_cons_zero]; rfl) (fun K hK => ?_) AllReadyH.nil
                go_simp
                refine hK.out _ _ (⟨d0a, k9a, z2a⟩) (fun hh2 => ?_)
                clear hK K
                (try simp only [Act.put, List.setIfInBounds_toArray, List.set_cons_zero, List.set_cons_succ])
                refine wpAnyH_ready (rs := [20]) (by kernel_rfl) (by simp) ?_
                refine AllReadyH.cons (by simp only [List.getElem?_toArray, List.getElem?_cons_succ, List.getElem?_cons_zero]; rfl) (fun K hK => ?_) AllReadyH.nil
                refine step_app (by rfl) _ _ _ (by rfl) _ _ _ _ (by rfl) (by rfl) (by exact unhide HAP) ?_
                refine hK.out _ _ (⟨d06, k96, z26⟩) (fun hh3 => ?_)
                clear hK K
                (try simp only [Act.put, List.setIfInBounds_toArray, List.set_cons_zero, List.set_cons_succ])
                refine wpAnyH_take (i := 21) (v := ?v38) (by simp only [List.getElem?_toArray, List.getElem?_cons_succ, List.getElem?_cons_zero]; rfl) (by kernel_rfl) (by kernel_rfl) (by kernel_rfl) (by exact fun _ _ _ h => h) (Or.inl ⟨by rfl, ?hy38⟩) (by assumption) ?_
                case hy38 => (intro w hSw; (try dsimp only at hSw); go_simp; first | done | (with_reducible rfl))
                (try simp only [Act.put, List.setIfInBounds_toArray, List.set_cons_zero, List.set_cons_succ])
                refine wpAnyH_take (i := 22) (v := ?v39) (by simp only [List.getElem?_toArray, List.getElem?_cons_succ, List.getElem?_cons_zero]; rfl) (by kernel_rfl) (by kernel_rfl) (by kernel_rfl) (by exact fun _ _ _ h => h) (Or.inl ⟨by rfl, ?hy39⟩) (by assumption) ?_
                case hy39 => (intro w hSw; (try dsimp only at hSw); go_simp; first | done | (with_reducible rfl))
                (try simp only [Act.put, List.setIfInBounds_toArray, List.set_cons_zero, List.set_cons_succ])
                refine wpAnyH_take (i := 23) (v := ?v40) (by simp only [List.getElem?_toArray, List.getElem?_cons_succ, List.getElem?_cons_zero]; rfl) (by kernel_rfl) (by kernel_rfl) (by kernel_rfl) (by exact fun _ _ _ h => h) (Or.inl ⟨by rfl, ?hy40⟩) (by assumption) ?_
                case hy40 => (intro w hSw; (try dsimp only at hSw); go_simp; first | done | (with_reducible rfl))
                (try simp only [Act.put, List.setIfInBounds_toArray, List.set_cons_zero, List.set_cons_succ])
                refine wpAnyH_done (by kernel_rfl) ?_ _
                show Oper.wp _ _ _ _ _ _
                go_simp
                apply unhide HK0
                go_wp2
                go_roundw
                case rel => exact ⟨j + 1, by go_num, by omega, ⟨_, _, (unhide HL5).turn (unhide HADD) ⟨rfl, rfl, rfl⟩, times_ok (unhide HT) (repStep_ok (unhide HGR) (repRow_ok (unhide HH3) (unhide HPP) (unhide HQQ))), by simp [unhide HJ1]⟩⟩
                case measure => simp [intOf]; omega
          · have HE := hide (times_err (unhide HT) (repStep_r (unhide HGR) (repRow_n h3)) hlt)
            have h3i : ((row.length : Int) != 3) = true := by simp; omega
            have HV := hide (leaveIf_t rb R1.line ((row.length : Int) != 3) 111 w2 h3i (by decide) (by decide) (unhide HL2).at_.cells.2.2.1)
            clear h3 HC2 h3i
            generalize row.length = m at *
            go_wp2_with (go_at_call 79; refine (unhide HV).mono ?_; rintro e w3 ⟨rfl, hw3⟩; subst w3)
            exact ⟨rfl, (unhide HL2).no (Below.refl _ _) ((unhide HX).trans (unhide HE))⟩
      · obtain rfl : j = n := by omega
        have hltz : ¬ (j : Int) < (j : Int) := by omega
        obtain ⟨Rj, Pj, hL, ht, hjl⟩ := unhide HR
        have HL := hide hL
        have HXX := hide ((unhide HX).trans ht)
        clear HR hL ht hjl
        go_wp2
        go_end0
        exact (unhide HL).yes (unhide HXX)
end Af
end Go.Proofs.YtlajdmjpobckhaaGreatDoor
