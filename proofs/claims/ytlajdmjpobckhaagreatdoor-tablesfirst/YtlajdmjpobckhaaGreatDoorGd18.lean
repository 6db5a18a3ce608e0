/- The reader: a rule. -/
import Derived.Test.YtlajdmjpobckhaaGreatDoorGd17
import Derived.Deep.RegionLaw
import Derived.Deep.RegionHeld3
import Derived.Laws.AppendOwn
namespace Go.Proofs.YtlajdmjpobckhaaGreatDoor
open Go.RowKit
namespace Af
open RowB
theorem gen_call {P : Program} {g : FuncId} {args : Array Value} {W : World} {Q : Ending → World → Prop} (h : ∀ V, V = W → Calls P g args V Q) : Calls P g args W Q := h W rfl
theorem gen_world {P : Program} {c : Code} {Q : Exit → Act → World → Prop} {a : Act} {W : World} (h : ∀ V, V = W → Code.wp P c Q a V) : Code.wp P c Q a W := h W rfl
theorem gen_then {K : Act → World → Prop} {Q : Exit → Act → World → Prop} {a : Act} {W : World} (h : ∀ V, V = W → Exit.then K Q .normal a V) : Exit.then K Q .normal a W := h W rfl
/-- a call that panics, as a step of a region that draws -/
theorem step_no2 {P : Program} {ops : Array Oper} {o : Oper} {a : Act} {w : World} {K : Act → World → Prop} {Q : Exit → Act → World → Prop} {E : Prop}
    (hg : o.guard = none) (f : FuncId) (x0 x1 : Operand) (ts : Array TypeId) (hop : o.op = Op.call { callee := Callee.value (Operand.func f), args := #[x0, x1], argTypes := ts })
    (u0 u1 : Value) (h0 : a.eval x0 = u0) (h1 : a.eval x1 = u1) (hent : ∀ W : World, Sem.run P (callFunc f #[u0, u1]) W = .ok (.enter f #[u0, u1]) W) (r : Value) (hc : Calls P f #[u0, u1] w fun e w' => ∃ ch, e = .panicked ch ∧ Q (.panic ch) a w') (_hK : Hid False → K (a.put o.dst r) w) :
    if Region.wanted o (yielded ops a.tmps) = true then Oper.wp P o a w K Q else E := by
  have hw : Region.wanted o (yielded ops a.tmps) = true := by simp [Region.wanted, hg]
  rw [if_pos hw]
  unfold Oper.wp
  have e : (execOp a.eval o).run P w = .ok (.enter f #[u0, u1]) w := by
    simp [execOp, hop, resolve, invoke, BigFrame.eval_func, Deferred.ofValue, h0, h1, hent]
  rw [e]
  unfold Oper.upon
  refine hc.mono ?_
  rintro e w' ⟨ch, rfl, h⟩
  exact h
/-- a call that panics, as a step of a region that draws -/
theorem step_no3 {P : Program} {ops : Array Oper} {o : Oper} {a : Act} {w : World} {K : Act → World → Prop} {Q : Exit → Act → World → Prop} {E : Prop}
    (hg : o.guard = none) (f : FuncId) (x0 x1 x2 : Operand) (ts : Array TypeId) (hop : o.op = Op.call { callee := Callee.value (Operand.func f), args := #[x0, x1, x2], argTypes := ts })
    (u0 u1 u2 : Value) (h0 : a.eval x0 = u0) (h1 : a.eval x1 = u1) (h2 : a.eval x2 = u2) (hent : ∀ W : World, Sem.run P (callFunc f #[u0, u1, u2]) W = .ok (.enter f #[u0, u1, u2]) W) (r : Value) (hc : Calls P f #[u0, u1, u2] w fun e w' => ∃ ch, e = .panicked ch ∧ Q (.panic ch) a w') (_hK : Hid False → K (a.put o.dst r) w) :
    if Region.wanted o (yielded ops a.tmps) = true then Oper.wp P o a w K Q else E := by
  have hw : Region.wanted o (yielded ops a.tmps) = true := by simp [Region.wanted, hg]
  rw [if_pos hw]
  unfold Oper.wp
  have e : (execOp a.eval o).run P w = .ok (.enter f #[u0, u1, u2]) w := by
    simp [execOp, hop, resolve, invoke, BigFrame.eval_func, Deferred.ofValue, h0, h1, h2, hent]
  rw [e]
  unfold Oper.upon
  refine hc.mono ?_
  rintro e w' ⟨ch, rfl, h⟩
  exact h
theorem ent_added (x y z : Value) (W : World) : Sem.run Tryz.prog (callFunc 132 #[x, y, z]) W = .ok (.enter 132 #[x, y, z]) W := by kernel_rfl
/-- how a rule is answered -/
def URes (w : World) (X : Except Er Rul) (e : Ending) (w' : World) : Prop :=
  Below w.heap.size w w' ∧ match X with
  | .ok r => ∃ u, e = .returned (.agg (rulC r u).toArray) ∧ FNx w.heap.size w' u r.next
  | .error er => e = .panicked (chn er)
theorem URes.no {w w' : World} {X : Except Er Rul} {er : Er} (hX : X = .error er) (k : Below w.heap.size w w') : URes w X (.panicked (chn er)) w' := by
  subst hX
  exact ⟨k, rfl⟩
theorem URes.yes {w w' : World} {X : Except Er Rul} {r : Rul} {u : Value} (hX : X = .ok r) (k : Below w.heap.size w w') (h : FNx w.heap.size w' u r.next) : URes w X (.returned (.agg (rulC r u).toArray)) w' := by
  subst hX
  exact ⟨k, u, rfl, h⟩
theorem uOk {w : World} {X : Except Er Rul} {r : Rul} {g : FuncId} {args : Array Value} (h : Calls Tryz.prog g args w (URes w X)) (hX : X = .ok r) : Calls Tryz.prog g args w fun e w' => ∃ u, e = .returned (.agg (rulC r u).toArray) ∧ FNx w.heap.size w' u r.next ∧ Below w.heap.size w w' := by
  subst hX
  exact h.mono fun e w' ⟨k, u, q1, q2⟩ => ⟨u, q1, q2, k⟩
theorem uNo {w : World} {X : Except Er Rul} {er : Er} {g : FuncId} {args : Array Value} (h : Calls Tryz.prog g args w (URes w X)) (hX : X = .error er) : Calls Tryz.prog g args w fun e w' => e = .panicked (chn er) ∧ Below w.heap.size w w' := by
  subst hX
  exact h.mono fun e w' ⟨k, q⟩ => ⟨q, k⟩
theorem alloc_new (w : World) (o : Obj) : (w.alloc o).heap[w.heap.size]? = some o := by show (w.heap.push o)[w.heap.size]? = some o; exact Array.getElem?_push_size
/-- the blocks of a call of rule -/
structure RL (w W : World) (c : Cls) (rc : Array Value) : Prop where
  b : Below w.heap.size w W
  cb : W.heap[w.heap.size]? = some (.cells (clsC c).toArray 117 (0, 0))
  ob : W.heap[w.heap.size + 1]? = some (.cells #[.int .i64 0, .int .u16 0, .bool false, .string ⟨#[]⟩, .string ⟨#[]⟩, .string ⟨#[]⟩, .slice none 0 0] 78 (0, 0))
  rv : W.heap[w.heap.size + 2]? = some (.cells rc 78 (0, 0))
theorem RL.start (w : World) (c : Cls) : RL w (((w.alloc (.cells (clsC c).toArray 117)).alloc (.cells #[.int .i64 0, .int .u16 0, .bool false, .string ⟨#[]⟩, .string ⟨#[]⟩, .string ⟨#[]⟩, .slice none 0 0] 78)).alloc (.cells #[.int .i64 c.kind, .int .u16 c.flag, .bool c.cross, .string ⟨#[]⟩, .string ⟨#[]⟩, .string ⟨#[46]⟩, .slice none 0 0] 78)) c #[.int .i64 c.kind, .int .u16 c.flag, .bool c.cross, .string ⟨#[]⟩, .string ⟨#[]⟩, .string ⟨#[46]⟩, .slice none 0 0] := by
  refine ⟨(((Below.refl _ w).alloc (Nat.le_refl _) _).alloc (by simp) _).alloc (by simp; omega) _, ?_, ?_, ?_⟩
  · rw [Below.heap_alloc _ _ _ (by simp; omega), Below.heap_alloc _ _ _ (by simp)]
    exact alloc_new w _
  · rw [Below.heap_alloc _ _ _ (by simp)]
    have := alloc_new (w.alloc (.cells (clsC c).toArray 117)) (.cells #[.int .i64 0, .int .u16 0, .bool false, .string ⟨#[]⟩, .string ⟨#[]⟩, .string ⟨#[]⟩, .slice none 0 0] 78)
    rwa [World.size_alloc] at this
  · have := alloc_new ((w.alloc (.cells (clsC c).toArray 117)).alloc (.cells #[.int .i64 0, .int .u16 0, .bool false, .string ⟨#[]⟩, .string ⟨#[]⟩, .string ⟨#[]⟩, .slice none 0 0] 78)) (.cells #[.int .i64 c.kind, .int .u16 c.flag, .bool c.cross, .string ⟨#[]⟩, .string ⟨#[]⟩, .string ⟨#[46]⟩, .slice none 0 0] 78)
    rwa [World.size_alloc, World.size_alloc] at this
theorem RL.below {w W W' : World} {c : Cls} {rc : Array Value} (h : RL w W c rc) (k : Below W.heap.size W W') : RL w W' c rc :=
  ⟨h.b.trans (k.mono h.b.size), (k.block _ (lt_some h.cb)).trans h.cb, (k.block _ (lt_some h.ob)).trans h.ob, (k.block _ (lt_some h.rv)).trans h.rv⟩
theorem RL.drew {w W : World} {c : Cls} {rc : Array Value} (h : RL w W c rc) : RL w W.drew c rc := h.below ((Below.refl _ _).drew)
theorem RL.set {w W : World} {c : Cls} {rc : Array Value} (h : RL w W c rc) (k : Nat) (v : Value) : RL w (W.setCell ⟨w.heap.size + 2, k, none⟩ v) c (rc.setIfInBounds k v) :=
  ⟨h.b.setCell (p := ⟨w.heap.size + 2, k, none⟩) (by simp) v, (Below.heap_setCell W _ v _ (by simp)).trans h.cb, (Below.heap_setCell W _ v _ (by simp)).trans h.ob, set_heap1 h.rv v⟩
theorem RL.sz {w W : World} {c : Cls} {rc : Array Value} (h : RL w W c rc) : w.heap.size + 2 < W.heap.size := lt_some h.rv
theorem RL.cells {w W : World} {c : Cls} {a0 a1 a2 a3 a4 a5 a6 : Value} (h : RL w W c #[a0, a1, a2, a3, a4, a5, a6]) : W.cell? ⟨w.heap.size + 2, 0, none⟩ = some a0 ∧ W.cell? ⟨w.heap.size + 2, 1, none⟩ = some a1 ∧ W.cell? ⟨w.heap.size + 2, 2, none⟩ = some a2 ∧ W.cell? ⟨w.heap.size + 2, 3, none⟩ = some a3 ∧ W.cell? ⟨w.heap.size + 2, 4, none⟩ = some a4 ∧ W.cell? ⟨w.heap.size + 2, 5, none⟩ = some a5 ∧ W.cell? ⟨w.heap.size + 2, 6, none⟩ = some a6 := by
  simp [World.cell?, h.rv]
theorem RL.kind {w W : World} {c : Cls} {rc : Array Value} (h : RL w W c rc) : W.cell? ⟨w.heap.size, 1, none⟩ = some (.int .i64 c.kind) := by simp [World.cell?, h.cb, clsC]
theorem RL.cell {w W : World} {c : Cls} {rc : Array Value} (h : RL w W c rc) (k : Nat) : W.cell? ⟨w.heap.size + 2, k, none⟩ = rc[k]? := by simp [World.cell?, h.rv]
theorem RL.fz {w W : World} {c : Cls} {rc : Array Value} (h : RL w W c rc) (k : Nat) : W.frozen? ⟨w.heap.size + 2, k, none⟩ = false := by simp [World.frozen?, h.rv]
theorem RL.ocell {w W : World} {c : Cls} {rc : Array Value} (h : RL w W c rc) : (W.cell? ⟨w.heap.size + 1, 0, none⟩ = some (.int .i64 0) ∧ W.cell? ⟨w.heap.size + 1, 1, none⟩ = some (.int .u16 0) ∧ W.cell? ⟨w.heap.size + 1, 2, none⟩ = some (.bool false) ∧ W.cell? ⟨w.heap.size + 1, 3, none⟩ = some (.string ⟨#[]⟩) ∧ W.cell? ⟨w.heap.size + 1, 4, none⟩ = some (.string ⟨#[]⟩) ∧ W.cell? ⟨w.heap.size + 1, 5, none⟩ = some (.string ⟨#[]⟩) ∧ W.cell? ⟨w.heap.size + 1, 6, none⟩ = some (.slice none 0 0)) ∧ ∀ k, W.frozen? ⟨w.heap.size + 1, k, none⟩ = false := by
  simp [World.cell?, World.frozen?, h.ob]
theorem set7 {w W : World} (h : Below w.heap.size w W) (a b c d e f g : Value) : Below w.heap.size w (((((((W.setCell ⟨w.heap.size + 1, 0, none⟩ a).setCell ⟨w.heap.size + 1, 1, none⟩ b).setCell ⟨w.heap.size + 1, 2, none⟩ c).setCell ⟨w.heap.size + 1, 3, none⟩ d).setCell ⟨w.heap.size + 1, 4, none⟩ e).setCell ⟨w.heap.size + 1, 5, none⟩ f).setCell ⟨w.heap.size + 1, 6, none⟩ g) := by
  exact ((((((h.setCell (p := ⟨w.heap.size + 1, 0, none⟩) (by simp) _).setCell (p := ⟨w.heap.size + 1, 1, none⟩) (by simp) _).setCell (p := ⟨w.heap.size + 1, 2, none⟩) (by simp) _).setCell (p := ⟨w.heap.size + 1, 3, none⟩) (by simp) _).setCell (p := ⟨w.heap.size + 1, 4, none⟩) (by simp) _).setCell (p := ⟨w.heap.size + 1, 5, none⟩) (by simp) _).setCell (p := ⟨w.heap.size + 1, 6, none⟩) (by simp) _
theorem fnx_set7 {w W : World} {v : Value} {l : List Int} {C : Array Value} (h : FNx w.heap.size W v l) (hb : W.heap[w.heap.size + 1]? = some (.cells C 78 (0, 0))) (x0 x1 x2 x3 x4 x5 x6 : Value) : FNx w.heap.size (((((((W.setCell ⟨w.heap.size + 1, 0, none⟩ x0).setCell ⟨w.heap.size + 1, 1, none⟩ x1).setCell ⟨w.heap.size + 1, 2, none⟩ x2).setCell ⟨w.heap.size + 1, 3, none⟩ x3).setCell ⟨w.heap.size + 1, 4, none⟩ x4).setCell ⟨w.heap.size + 1, 5, none⟩ x5).setCell ⟨w.heap.size + 1, 6, none⟩ x6) v l := by
  refine fnx_kept h fun gg cur hgg => ?_
  have hne : gg ≠ w.heap.size + 1 := by
    rintro rfl
    rw [hb] at hgg
    injection hgg with hgg
    injection hgg with _ hgg _
    exact absurd hgg (by decide)
  rw [Below.heap_setCell _ _ _ _ hne, Below.heap_setCell _ _ _ _ hne, Below.heap_setCell _ _ _ _ hne, Below.heap_setCell _ _ _ _ hne, Below.heap_setCell _ _ _ _ hne, Below.heap_setCell _ _ _ _ hne, Below.heap_setCell _ _ _ _ hne]
theorem rule_len {F : Fil} {l : Nat} {c : Cls} {row : List Bs} (h : row.length ≠ 4 ∧ row.length ≠ 5) : rule F l c row = .error (l, 111) := by unfold rule; rw [if_pos h]
theorem rule_p {F : Fil} {l : Nat} {c : Cls} {row : List Bs} {e : Er} (h : ¬ (row.length ≠ 4 ∧ row.length ≠ 5)) (hp : piece0 l (fld row 2) = .error e) : rule F l c row = .error e := by unfold rule; rw [if_neg h, hp]
theorem rule_a {F : Fil} {l : Nat} {c : Cls} {row : List Bs} {e : Er} {s : Bs} (h : ¬ (row.length ≠ 4 ∧ row.length ≠ 5)) (hp : piece0 l (fld row 2) = .ok s) (ha : added F l c.kind (fld row 3) = .error e) : rule F l c row = .error e := by unfold rule; rw [if_neg h, hp]; simp [ha]
theorem rule_4 {F : Fil} {l : Nat} {c : Cls} {row : List Bs} {s : Bs} {p : Bs × List Int} (h : row.length = 4) (hp : piece0 l (fld row 2) = .ok s) (ha : added F l c.kind (fld row 3) = .ok p) : rule F l c row = .ok ⟨c.kind, c.flag, c.cross, s, p.1, [46], p.2, l⟩ := by unfold rule; rw [if_neg (by omega), hp]; simp [ha, h]
theorem rule_c {F : Fil} {l : Nat} {c : Cls} {row : List Bs} {s : Bs} {p : Bs × List Int} {e : Er} (h : row.length = 5) (hp : piece0 l (fld row 2) = .ok s) (ha : added F l c.kind (fld row 3) = .ok p) (hc : condn l (fld row 4) = .error e) : rule F l c row = .error e := by unfold rule; rw [if_neg (by omega), hp]; simp [ha, h, hc]
theorem rule_5 {F : Fil} {l : Nat} {c : Cls} {row : List Bs} {s k : Bs} {p : Bs × List Int} (h : row.length = 5) (hp : piece0 l (fld row 2) = .ok s) (ha : added F l c.kind (fld row 3) = .ok p) (hc : condn l (fld row 4) = .ok k) : rule F l c row = .ok ⟨c.kind, c.flag, c.cross, s, p.1, k, p.2, l⟩ := by unfold rule; rw [if_neg (by omega), hp]; simp [ha, h, hc]
theorem fld_get {row : List Bs} {i : Nat} (h : i < row.length) : row[i]? = some (fld row i) := by unfold fld; rw [List.getElem?_eq_getElem h]; rfl
set_option maxHeartbeats 4000000 in
theorem rule_bad {B rb n : Nat} {R : Rdr} {P : Pts} {w : World} (h : RAt B w rb R P) (c : Cls) (row : List Bs) (fv : Value) (hrow : StrRow n w fv (row.map Fld.str)) (hlen : row.length ≠ 4 ∧ row.length ≠ 5) :
    Calls Tryz.prog 102 #[ptr rb, clsV c, fv] w (URes w (rule R.file R.line c row)) := by
  obtain ⟨d0, -, hl, -, -, -, -⟩ := h.cells
  have hb := h.lt
  obtain ⟨g, cap, rfl, hg, h1, h2, -, hcl⟩ := str_cells hrow
  unfold maxLen at h2
  unfold clsV
  have n4 : ¬ ((row.length : Int) = 4) := by omega
  have n5 : ¬ ((row.length : Int) = 5) := by omega
  have HX := hide (rule_len (F := R.file) (l := R.line) (c := c) hlen)
  have HL := hide hl
  clear hlen h hrow hcl hl
  generalize row.length = N at *
  go_enter Tryz.func102, Tryz.ntmps102
  go_wp2_with fail
  refine gen_call ?_
  intro W hW
  have hbw : Below w.heap.size w W := by rw [hW]; (repeat (first | exact Below.refl _ _ | refine Below.drew ?_ | refine Below.alloc ?_ (by first | (simp; done) | (simp; omega)) _ | refine Below.setCell ?_ (by first | (simp; done) | (simp; omega)) _))
  refine (leaveIf_t rb R.line _ 111 W (by simp [n4, n5]) (by decide) (by decide) (lineB (unhide HL) hb hbw)).mono ?_
  rintro e w2 ⟨rfl, rfl⟩
  exact ⟨rfl, URes.no (unhide HX) hbw⟩
set_option maxRecDepth 100000 in
set_option maxHeartbeats 4000000 in
theorem rule_go4 {B rb n : Nat} {R : Rdr} {P : Pts} {w : World} (h : RAt B w rb R P) (hM : Mx B w) (c : Cls) (row : List Bs) (fv : Value) (hrow : StrRow n w fv (row.map Fld.str)) (hf : ∀ f ∈ row, f.length ≤ 65536) (hN : row.length = 4) :
    Calls Tryz.prog 102 #[ptr rb, clsV c, fv] w (URes w (rule R.file R.line c row)) := by
  obtain ⟨d0, -, hl, -, -, -, -⟩ := h.cells
  have hb := h.lt
  obtain ⟨g, cap, rfl, hg, h1, h2, -, hcl⟩ := str_cells hrow
  unfold maxLen at h2
  unfold clsV
  have hlen : ¬ (row.length ≠ 4 ∧ row.length ≠ 5) := by omega
  have q2 := hcl 2 _ (fld_get (by omega))
  have q3 := hcl 3 _ (fld_get (by omega))
  have hf2 := hf _ (List.mem_of_getElem? (fld_get (row := row) (i := 2) (by omega)))
  have hf3 := hf _ (List.mem_of_getElem? (fld_get (row := row) (i := 3) (by omega)))
  have HP := hide (fun W (b : Below w.heap.size w W) => piece0_any rb R.line (Fld.str (fld row 2)) W (by rw [fstr_wd, Wd.str_size]; omega) (Nat.lt_of_lt_of_le hb b.size) (lineB hl hb b))
  have HA := hide (fun W (b : Below w.heap.size w W) => added_all (h.below b) (hM.low (b.mono h.base)) c.kind (Fld.str (fld row 3)) (by rw [fstr_wd, Wd.str_size]; omega))
  have e2 : (Fld.str (fld row 2)).data.toList = fld row 2 := by simp [Fld.str]
  have e3 : (Fld.str (fld row 3)).data.toList = fld row 3 := by simp [Fld.str]
  rw [e2] at HP
  rw [e3] at HA
  have qa : ∀ a b d : Obj, (((w.alloc a).alloc b).alloc d).cell? ⟨g, 2, none⟩ = some (.string (Fld.str (fld row 2))) := fun a b d => ((((Below.refl _ w).alloc (Nat.le_refl _) a).alloc (by simp) b).alloc (by simp; omega) d).cell (p := ⟨g, 2, none⟩) hg |>.trans q2
  clear e2 e3 hf2 hf3 hf h hM hrow hcl hl
  generalize Fld.str (fld row 2) = r2 at *
  generalize Fld.str (fld row 3) = r3 at *
  cases hp : piece0 R.line (fld row 2) with
  | error er =>
    have HX := hide (rule_p (F := R.file) (c := c) hlen hp)
    have HPP := hide (fun W b => noOf (unhide HP W b) hp)
    clear HP HA hp q3 d0
    clear hlen 
    have HNN := hide hN
    rw [hN] at h1 ⊢
    clear hN
    go_enter Tryz.func102, Tryz.ntmps102
    go_wp2_with (go_at_call 79; refine (leaveIf_f _ _ _ _ rfl).mono ?_; rintro e w2 ⟨rfl, rfl⟩)
    refine gen_call ?_
    intro W hW
    have HRL : Hid (RL w W c #[.int .i64 c.kind, .int .u16 c.flag, .bool c.cross, .string ⟨#[]⟩, .string ⟨#[]⟩, .string ⟨#[46]⟩, .slice none 0 0]) := by
      rw [hW]
      exact RL.start w c
    clear hW
    refine (unhide HPP W (unhide HRL).b).mono ?_
    rintro e w2 ⟨rfl, b2⟩
    exact ⟨rfl, URes.no (unhide HX) (btr (unhide HRL).b b2)⟩
  | ok s =>
    have HPP := hide (fun W b => okOf (unhide HP W b) hp)
    cases ha : added R.file R.line c.kind (fld row 3) with
    | error er =>
      have HX := hide (rule_a (F := R.file) (c := c) hlen hp ha)
      have HAA := hide (fun W b => aNo (unhide HA W b) ha)
      clear HP HA hp ha d0
      clear hlen 
      have HNN := hide hN
      rw [hN] at h1 ⊢
      clear hN
      go_enter Tryz.func102, Tryz.ntmps102
      go_wp2_with (go_at_call 79; refine (leaveIf_f _ _ _ _ rfl).mono ?_; rintro e w2 ⟨rfl, rfl⟩)
      refine gen_call ?_
      intro W hW
      have HRL : Hid (RL w W c #[.int .i64 c.kind, .int .u16 c.flag, .bool c.cross, .string ⟨#[]⟩, .string ⟨#[]⟩, .string ⟨#[46]⟩, .slice none 0 0]) := by
        rw [hW]
        exact RL.start w c
      clear hW
      refine (unhide HPP W (unhide HRL).b).mono ?_
      rintro e w2 ⟨rfl, b2⟩
      unfold strV
      have HR2 := hide ((unhide HRL).below b2)
      clear HRL b2 HPP
      have z := (unhide HR2).sz
      have hcl3 := (unhide HR2).cell 3
      have hz3 := (unhide HR2).fz 3
      simp at hcl3
      go_wp2_with fail
      refine gen_world ?_
      intro W2 hW2
      have HR3 : Hid (RL w W2 c #[.int .i64 c.kind, .int .u16 c.flag, .bool c.cross, .string (Wd.str s), .string ⟨#[]⟩, .string ⟨#[46]⟩, .slice none 0 0]) := by
        rw [hW2]
        exact (unhide HR2).set 3 _
      have k1 := (unhide HR3).kind
      have k3 : W2.cell? ⟨g, 3, none⟩ = some (.string r3) := ((unhide HR3).b.cell (p := ⟨g, 3, none⟩) hg).trans q3
      clear hW2 hcl3 hz3 HR2 z
      have HAW := hide (unhide HAA W2.drew (unhide HR3).b.drew)
      have HRD := hide (unhide HR3).drew
      have v4 := (unhide HR3).cell 4
      have v6 := (unhide HR3).cell 6
      have x4 := (unhide HR3).fz 4
      have x6 := (unhide HR3).fz 6
      simp at v4 v6
      go_region_law (refine step_no3 (by rfl) 132 _ _ _ _ (by rfl) (ptr rb) (.int .i64 c.kind) (.string r3) (by rfl) (by rfl) (by rfl) (ent_added _ _ _) (.tuple #[.string ⟨#[]⟩, .slice none 0 0]) ((unhide HAW).mono fun e w4 h4 => ⟨_, h4.1, rfl, URes.no (unhide HX) ((unhide HRD).b.trans (h4.2.mono (unhide HRD).b.size))⟩) ?_; intro HF)
      all_goals exact (unhide HF).elim
    | ok p =>
      have HAA := hide (fun W b => aOk (unhide HA W b) ha)
      clear HP HA d0
      have HPO := hide hp
      have HAO := hide ha
      clear hp ha
      clear hlen 
      have HNN := hide hN
      rw [hN] at h1 ⊢
      clear hN
      go_enter Tryz.func102, Tryz.ntmps102
      go_wp2_with (go_at_call 79; refine (leaveIf_f _ _ _ _ rfl).mono ?_; rintro e w2 ⟨rfl, rfl⟩)
      refine gen_call ?_
      intro W hW
      have HRL : Hid (RL w W c #[.int .i64 c.kind, .int .u16 c.flag, .bool c.cross, .string ⟨#[]⟩, .string ⟨#[]⟩, .string ⟨#[46]⟩, .slice none 0 0]) := by
        rw [hW]
        exact RL.start w c
      clear hW
      refine (unhide HPP W (unhide HRL).b).mono ?_
      rintro e w2 ⟨rfl, b2⟩
      unfold strV
      have HR2 := hide ((unhide HRL).below b2)
      clear HRL b2 HPP
      have z := (unhide HR2).sz
      have hcl3 := (unhide HR2).cell 3
      have hz3 := (unhide HR2).fz 3
      simp at hcl3
      go_wp2_with fail
      refine gen_world ?_
      intro W2 hW2
      have HR3 : Hid (RL w W2 c #[.int .i64 c.kind, .int .u16 c.flag, .bool c.cross, .string (Wd.str s), .string ⟨#[]⟩, .string ⟨#[46]⟩, .slice none 0 0]) := by
        rw [hW2]
        exact (unhide HR2).set 3 _
      have k1 := (unhide HR3).kind
      have k3 : W2.cell? ⟨g, 3, none⟩ = some (.string r3) := ((unhide HR3).b.cell (p := ⟨g, 3, none⟩) hg).trans q3
      clear hW2 hcl3 hz3 HR2 z
      have HAW := hide (unhide HAA W2.drew (unhide HR3).b.drew)
      have HRD := hide (unhide HR3).drew
      have v4 := (unhide HR3).cell 4
      have v6 := (unhide HR3).cell 6
      have x4 := (unhide HR3).fz 4
      have x6 := (unhide HR3).fz 6
      simp at v4 v6
      go_region_with (go_at_call 132; refine (unhide HAW).mono ?_; rintro e w4 ⟨u, rfl, f4, b4⟩; obtain ⟨ao, cp, rfl, -⟩ := f4.arg; have HR4 := hide ((unhide HRD).below b4); have y4 := (unhide HR4).cell 4; have y6 := (unhide HR4).cell 6; have z4 := (unhide HR4).fz 4; have z6 := (unhide HR4).fz 6; simp at y4 y6; have F4 := hide f4; have B4 := hide b4; clear f4 b4)
      
      all_goals
        refine gen_then ?_
        intro V hV
        have HR5 : Hid (RL w V c #[.int .i64 c.kind, .int .u16 c.flag, .bool c.cross, .string (Wd.str s), .string (Wd.str p.1), .string ⟨#[46]⟩, .slice ao p.2.length cp]) := by
          rw [hV]
          first | exact ((unhide HR4).set 4 _).set 6 _ | exact ((unhide HR4).set 6 _).set 4 _
        have F5 : Hid (FNx w.heap.size V (.slice ao p.2.length cp) p.2) := by
          refine fnx_kept ((unhide F4).low (unhide HRD).b.size) fun gg cur hgg => ?_
          rw [hV]
          have hne : gg ≠ w.heap.size + 2 := by
            rintro rfl
            rw [(unhide HR4).rv] at hgg
            injection hgg with hgg
            injection hgg with _ hgg _
            exact absurd hgg (by decide)
          first | rw [Below.heap_setCell _ _ _ _ hne, Below.heap_setCell _ _ _ _ hne]
        clear hV HR4 F4 B4 HRD HR3 y4 y6 z4 z6 v4 v6 x4 x6 k1 k3 HAW HAA
        have HX := hide (rule_4 (F := R.file) (c := c) (unhide HNN) (unhide HPO) (unhide HAO))
        obtain ⟨p0, p1, p2, p3, p4, p5, p6⟩ := (unhide HR5).cells
        obtain ⟨⟨o0, o1, o2, o3, o4, o5, o6⟩, oz⟩ := (unhide HR5).ocell
        have sz := (unhide HR5).sz
        have HBE := hide (unhide HR5).b
        have HFE := hide (unhide F5)
        have HOB := hide (unhide HR5).ob
        clear HR5 F5
        go_wp2
        refine bodyPost_ret (v := .agg #[.int .i64 c.kind, .int .u16 c.flag, .bool c.cross, .string (Wd.str s), .string (Wd.str p.1), .string (Wd.str [46]), .slice ao p.2.length cp]) (by simp [results, Tryz.results102, go_sem, o0, o1, o2, o3, o4, o5, o6] <;> rfl) rfl ?_
        refine URes.yes (u := .slice ao p.2.length cp) (unhide HX) ?_ (fnx_set7 (unhide HFE) (unhide HOB) _ _ _ _ _ _ _)
        exact set7 (unhide HBE) _ _ _ _ _ _ _
set_option maxRecDepth 100000 in
set_option maxHeartbeats 4000000 in
theorem rule_go5 {B rb n : Nat} {R : Rdr} {P : Pts} {w : World} (h : RAt B w rb R P) (hM : Mx B w) (c : Cls) (row : List Bs) (fv : Value) (hrow : StrRow n w fv (row.map Fld.str)) (hf : ∀ f ∈ row, f.length ≤ 65536) (hN : row.length = 5) :
    Calls Tryz.prog 102 #[ptr rb, clsV c, fv] w (URes w (rule R.file R.line c row)) := by
  obtain ⟨d0, -, hl, -, -, -, -⟩ := h.cells
  have hb := h.lt
  obtain ⟨g, cap, rfl, hg, h1, h2, -, hcl⟩ := str_cells hrow
  unfold maxLen at h2
  unfold clsV
  have hlen : ¬ (row.length ≠ 4 ∧ row.length ≠ 5) := by omega
  have q2 := hcl 2 _ (fld_get (by omega))
  have q3 := hcl 3 _ (fld_get (by omega))
  have hf2 := hf _ (List.mem_of_getElem? (fld_get (row := row) (i := 2) (by omega)))
  have hf3 := hf _ (List.mem_of_getElem? (fld_get (row := row) (i := 3) (by omega)))
  have HP := hide (fun W (b : Below w.heap.size w W) => piece0_any rb R.line (Fld.str (fld row 2)) W (by rw [fstr_wd, Wd.str_size]; omega) (Nat.lt_of_lt_of_le hb b.size) (lineB hl hb b))
  have HA := hide (fun W (b : Below w.heap.size w W) => added_all (h.below b) (hM.low (b.mono h.base)) c.kind (Fld.str (fld row 3)) (by rw [fstr_wd, Wd.str_size]; omega))
  have e2 : (Fld.str (fld row 2)).data.toList = fld row 2 := by simp [Fld.str]
  have e3 : (Fld.str (fld row 3)).data.toList = fld row 3 := by simp [Fld.str]
  rw [e2] at HP
  rw [e3] at HA
  have q4 := hcl 4 _ (fld_get (by omega))
  have hf4 := hf _ (List.mem_of_getElem? (fld_get (row := row) (i := 4) (by omega)))
  have HC := hide (fun W (b : Below w.heap.size w W) => condition_any rb R.line (Fld.str (fld row 4)) W (by rw [fstr_wd, Wd.str_size]; omega) (Nat.lt_of_lt_of_le hb b.size) (lineB hl hb b))
  have e4 : (Fld.str (fld row 4)).data.toList = fld row 4 := by simp [Fld.str]
  rw [e4] at HC
  clear e4 hf4
  have qa : ∀ a b d : Obj, (((w.alloc a).alloc b).alloc d).cell? ⟨g, 2, none⟩ = some (.string (Fld.str (fld row 2))) := fun a b d => ((((Below.refl _ w).alloc (Nat.le_refl _) a).alloc (by simp) b).alloc (by simp; omega) d).cell (p := ⟨g, 2, none⟩) hg |>.trans q2
  clear e2 e3 hf2 hf3 hf h hM hrow hcl hl
  generalize Fld.str (fld row 2) = r2 at *
  generalize Fld.str (fld row 3) = r3 at *
  generalize Fld.str (fld row 4) = r4 at *
  cases hp : piece0 R.line (fld row 2) with
  | error er =>
    have HX := hide (rule_p (F := R.file) (c := c) hlen hp)
    have HPP := hide (fun W b => noOf (unhide HP W b) hp)
    clear HP HA hp q3 d0 HC q4
    clear hlen 
    have HNN := hide hN
    rw [hN] at h1 ⊢
    clear hN
    go_enter Tryz.func102, Tryz.ntmps102
    go_wp2_with (go_at_call 79; refine (leaveIf_f _ _ _ _ rfl).mono ?_; rintro e w2 ⟨rfl, rfl⟩)
    refine gen_call ?_
    intro W hW
    have HRL : Hid (RL w W c #[.int .i64 c.kind, .int .u16 c.flag, .bool c.cross, .string ⟨#[]⟩, .string ⟨#[]⟩, .string ⟨#[46]⟩, .slice none 0 0]) := by
      rw [hW]
      exact RL.start w c
    clear hW
    refine (unhide HPP W (unhide HRL).b).mono ?_
    rintro e w2 ⟨rfl, b2⟩
    exact ⟨rfl, URes.no (unhide HX) (btr (unhide HRL).b b2)⟩
  | ok s =>
    have HPP := hide (fun W b => okOf (unhide HP W b) hp)
    cases ha : added R.file R.line c.kind (fld row 3) with
    | error er =>
      have HX := hide (rule_a (F := R.file) (c := c) hlen hp ha)
      have HAA := hide (fun W b => aNo (unhide HA W b) ha)
      clear HP HA hp ha d0 HC q4
      clear hlen 
      have HNN := hide hN
      rw [hN] at h1 ⊢
      clear hN
      go_enter Tryz.func102, Tryz.ntmps102
      go_wp2_with (go_at_call 79; refine (leaveIf_f _ _ _ _ rfl).mono ?_; rintro e w2 ⟨rfl, rfl⟩)
      refine gen_call ?_
      intro W hW
      have HRL : Hid (RL w W c #[.int .i64 c.kind, .int .u16 c.flag, .bool c.cross, .string ⟨#[]⟩, .string ⟨#[]⟩, .string ⟨#[46]⟩, .slice none 0 0]) := by
        rw [hW]
        exact RL.start w c
      clear hW
      refine (unhide HPP W (unhide HRL).b).mono ?_
      rintro e w2 ⟨rfl, b2⟩
      unfold strV
      have HR2 := hide ((unhide HRL).below b2)
      clear HRL b2 HPP
      have z := (unhide HR2).sz
      have hcl3 := (unhide HR2).cell 3
      have hz3 := (unhide HR2).fz 3
      simp at hcl3
      go_wp2_with fail
      refine gen_world ?_
      intro W2 hW2
      have HR3 : Hid (RL w W2 c #[.int .i64 c.kind, .int .u16 c.flag, .bool c.cross, .string (Wd.str s), .string ⟨#[]⟩, .string ⟨#[46]⟩, .slice none 0 0]) := by
        rw [hW2]
        exact (unhide HR2).set 3 _
      have k1 := (unhide HR3).kind
      have k3 : W2.cell? ⟨g, 3, none⟩ = some (.string r3) := ((unhide HR3).b.cell (p := ⟨g, 3, none⟩) hg).trans q3
      clear hW2 hcl3 hz3 HR2 z
      have HAW := hide (unhide HAA W2.drew (unhide HR3).b.drew)
      have HRD := hide (unhide HR3).drew
      have v4 := (unhide HR3).cell 4
      have v6 := (unhide HR3).cell 6
      have x4 := (unhide HR3).fz 4
      have x6 := (unhide HR3).fz 6
      simp at v4 v6
      go_region_law (refine step_no3 (by rfl) 132 _ _ _ _ (by rfl) (ptr rb) (.int .i64 c.kind) (.string r3) (by rfl) (by rfl) (by rfl) (ent_added _ _ _) (.tuple #[.string ⟨#[]⟩, .slice none 0 0]) ((unhide HAW).mono fun e w4 h4 => ⟨_, h4.1, rfl, URes.no (unhide HX) ((unhide HRD).b.trans (h4.2.mono (unhide HRD).b.size))⟩) ?_; intro HF)
      all_goals exact (unhide HF).elim
    | ok p =>
      have HAA := hide (fun W b => aOk (unhide HA W b) ha)
      clear HP HA d0
      have HPO := hide hp
      have HAO := hide ha
      clear hp ha
      clear hlen 
      have HNN := hide hN
      rw [hN] at h1 ⊢
      clear hN
      go_enter Tryz.func102, Tryz.ntmps102
      go_wp2_with (go_at_call 79; refine (leaveIf_f _ _ _ _ rfl).mono ?_; rintro e w2 ⟨rfl, rfl⟩)
      refine gen_call ?_
      intro W hW
      have HRL : Hid (RL w W c #[.int .i64 c.kind, .int .u16 c.flag, .bool c.cross, .string ⟨#[]⟩, .string ⟨#[]⟩, .string ⟨#[46]⟩, .slice none 0 0]) := by
        rw [hW]
        exact RL.start w c
      clear hW
      refine (unhide HPP W (unhide HRL).b).mono ?_
      rintro e w2 ⟨rfl, b2⟩
      unfold strV
      have HR2 := hide ((unhide HRL).below b2)
      clear HRL b2 HPP
      have z := (unhide HR2).sz
      have hcl3 := (unhide HR2).cell 3
      have hz3 := (unhide HR2).fz 3
      simp at hcl3
      go_wp2_with fail
      refine gen_world ?_
      intro W2 hW2
      have HR3 : Hid (RL w W2 c #[.int .i64 c.kind, .int .u16 c.flag, .bool c.cross, .string (Wd.str s), .string ⟨#[]⟩, .string ⟨#[46]⟩, .slice none 0 0]) := by
        rw [hW2]
        exact (unhide HR2).set 3 _
      have k1 := (unhide HR3).kind
      have k3 : W2.cell? ⟨g, 3, none⟩ = some (.string r3) := ((unhide HR3).b.cell (p := ⟨g, 3, none⟩) hg).trans q3
      clear hW2 hcl3 hz3 HR2 z
      have HAW := hide (unhide HAA W2.drew (unhide HR3).b.drew)
      have HRD := hide (unhide HR3).drew
      have v4 := (unhide HR3).cell 4
      have v6 := (unhide HR3).cell 6
      have x4 := (unhide HR3).fz 4
      have x6 := (unhide HR3).fz 6
      simp at v4 v6
      go_region_with (go_at_call 132; refine (unhide HAW).mono ?_; rintro e w4 ⟨u, rfl, f4, b4⟩; obtain ⟨ao, cp, rfl, -⟩ := f4.arg; have HR4 := hide ((unhide HRD).below b4); have y4 := (unhide HR4).cell 4; have y6 := (unhide HR4).cell 6; have z4 := (unhide HR4).fz 4; have z6 := (unhide HR4).fz 6; simp at y4 y6; have F4 := hide f4; have B4 := hide b4; clear f4 b4)
      
      all_goals
        refine gen_then ?_
        intro V hV
        have HR5 : Hid (RL w V c #[.int .i64 c.kind, .int .u16 c.flag, .bool c.cross, .string (Wd.str s), .string (Wd.str p.1), .string ⟨#[46]⟩, .slice ao p.2.length cp]) := by
          rw [hV]
          first | exact ((unhide HR4).set 4 _).set 6 _ | exact ((unhide HR4).set 6 _).set 4 _
        have F5 : Hid (FNx w.heap.size V (.slice ao p.2.length cp) p.2) := by
          refine fnx_kept ((unhide F4).low (unhide HRD).b.size) fun gg cur hgg => ?_
          rw [hV]
          have hne : gg ≠ w.heap.size + 2 := by
            rintro rfl
            rw [(unhide HR4).rv] at hgg
            injection hgg with hgg
            injection hgg with _ hgg _
            exact absurd hgg (by decide)
          first | rw [Below.heap_setCell _ _ _ _ hne, Below.heap_setCell _ _ _ _ hne]
        clear hV HR4 F4 B4 HRD HR3 y4 y6 z4 z6 v4 v6 x4 x6 k1 k3 HAW HAA
        have m4 : V.cell? ⟨g, 4, none⟩ = some (.string r4) := ((unhide HR5).b.cell (p := ⟨g, 4, none⟩) hg).trans q4
        cases hc : condn R.line (fld row 4) with
        | error er =>
          have HX := hide (rule_c (F := R.file) (c := c) (unhide HNN) (unhide HPO) (unhide HAO) hc)
          have HCC := hide (noOf (unhide HC V (unhide HR5).b) hc)
          clear HC hc
          go_wp2_with (go_at_call 133; refine (unhide HCC).mono ?_; rintro e w6 ⟨rfl, b6⟩)
          exact ⟨rfl, URes.no (unhide HX) (btr (unhide HR5).b b6)⟩
        | ok cn =>
          have HX := hide (rule_5 (F := R.file) (c := c) (unhide HNN) (unhide HPO) (unhide HAO) hc)
          have HCC := hide (okOf (unhide HC V (unhide HR5).b) hc)
          clear HC hc
          unfold strV at HCC
          go_wp2_with (go_at_call 133; refine (unhide HCC).mono ?_; rintro e w6 ⟨rfl, b6⟩; have HR6 := hide ((unhide HR5).below b6); have F6 := hide (fnx_kept (unhide F5) (below_kept b6)); have tz := (unhide HR6).fz 5; obtain ⟨p0, p1, p2, p3, p4, p5, p6⟩ := (unhide HR6).cells; obtain ⟨⟨o0, o1, o2, o3, o4, o5, o6⟩, oz⟩ := (unhide HR6).ocell; have sz := (unhide HR6).sz; clear b6 HR5 F5)
          have HR7 := (unhide HR6).set 5 (.string (Wd.str cn))
          have F7 : FNx w.heap.size (w6.setCell ⟨w.heap.size + 2, 5, none⟩ (.string (Wd.str cn))) (.slice ao p.2.length cp) p.2 := by
            refine fnx_kept (unhide F6) fun gg cur hgg => Below.heap_setCell _ _ _ _ ?_
            rintro rfl
            rw [(unhide HR6).rv] at hgg
            injection hgg with hgg
            injection hgg with _ hgg _
            exact absurd hgg (by decide)
          refine bodyPost_ret (v := .agg #[.int .i64 c.kind, .int .u16 c.flag, .bool c.cross, .string (Wd.str s), .string (Wd.str p.1), .string (Wd.str cn), .slice ao p.2.length cp]) (by simp [results, Tryz.results102, go_sem, o0, o1, o2, o3, o4, o5, o6]) rfl ?_
          exact URes.yes (u := .slice ao p.2.length cp) (unhide HX) (set7 HR7.b _ _ _ _ _ _ _) (fnx_set7 F7 HR7.ob _ _ _ _ _ _ _)
theorem rule_any {B rb n : Nat} {R : Rdr} {P : Pts} {w : World} (h : RAt B w rb R P) (hM : Mx B w) (c : Cls) (row : List Bs) (fv : Value) (hrow : StrRow n w fv (row.map Fld.str)) (hf : ∀ f ∈ row, f.length ≤ 65536) :
    Calls Tryz.prog 102 #[ptr rb, clsV c, fv] w (URes w (rule R.file R.line c row)) := by
  by_cases h4 : row.length = 4
  · exact rule_go4 h hM c row fv hrow hf h4
  · by_cases h5 : row.length = 5
    · exact rule_go5 h hM c row fv hrow hf h5
    · exact rule_bad h c row fv hrow ⟨h4, h5⟩
end Af
end Go.Proofs.YtlajdmjpobckhaaGreatDoor
/- The reader in memory: lists that grow; what stays by the types of blocks. No walk. -/
namespace Go.Proofs.YtlajdmjpobckhaaGreatDoor
open Go.RowKit
namespace Af
open RowB
/-- all blocks stay but those of these types, and these maps -/
structure Kq (T : List TypeId) (M : Nat → Prop) (w w' : World) : Prop where
  size : w.heap.size ≤ w'.heap.size
  cells : ∀ (g : Nat) (cur : Array Value) (t : TypeId) (fz : Nat × Nat), w.heap[g]? = some (.cells cur t fz) → t ∉ T → w'.heap[g]? = w.heap[g]?
  maps : ∀ (g : Nat) es c, w.heap[g]? = some (.map es c) → ¬ M g → w'.heap[g]? = w.heap[g]?
def noM : Nat → Prop := fun _ => False
theorem Kq.refl (T : List TypeId) (M : Nat → Prop) (w : World) : Kq T M w w := ⟨Nat.le_refl _, fun _ _ _ _ _ _ => rfl, fun _ _ _ _ _ => rfl⟩
theorem Kq.trans {T : List TypeId} {M : Nat → Prop} {a b c : World} (h : Kq T M a b) (k : Kq T M b c) : Kq T M a c :=
  ⟨Nat.le_trans h.size k.size, fun g cur t fz e n => (k.cells g cur t fz ((h.cells g cur t fz e n).trans e) n).trans (h.cells g cur t fz e n), fun g es c e n => (k.maps g es c ((h.maps g es c e n).trans e) n).trans (h.maps g es c e n)⟩
theorem Kq.wide {T T' : List TypeId} {M M' : Nat → Prop} {a b : World} (h : Kq T M a b) (ht : ∀ t ∈ T, t ∈ T') (hm : ∀ g, M g → M' g) : Kq T' M' a b :=
  ⟨h.size, fun g cur t fz e n => h.cells g cur t fz e (fun x => n (ht t x)), fun g es c e n => h.maps g es c e (fun x => n (hm g x))⟩
theorem Kq.below {T : List TypeId} {M : Nat → Prop} {a b : World} (h : Below a.heap.size a b) : Kq T M a b := ⟨h.size, fun g _ _ _ e _ => h.block g (lt_some e), fun g _ _ e _ => h.block g (lt_some e)⟩
theorem Kq.kp {T : List TypeId} {M : Nat → Prop} {a b : World} {g0 : Nat} {cs : Array Value} {t : TypeId} {fz : Nat × Nat} (h : Kp g0 a b) (h0 : a.heap[g0]? = some (.cells cs t fz)) (ht : t ∈ T) : Kq T M a b :=
  ⟨h.1, fun g cur t' fz' e n => h.2 g (lt_some e) (by rintro rfl; rw [h0] at e; injection e with e; injection e with _ e _; subst e; exact n ht), fun g es c e _ => h.2 g (lt_some e) (by rintro rfl; rw [h0] at e; cases e)⟩
theorem Kq.kpm {T : List TypeId} {M : Nat → Prop} {a b : World} {g0 : Nat} {es : _} {c : _} (h : Kp g0 a b) (h0 : a.heap[g0]? = some (.map es c)) (hm : M g0) : Kq T M a b :=
  ⟨h.1, fun g cur t' fz' e n => h.2 g (lt_some e) (by rintro rfl; rw [h0] at e; cases e), fun g es c e n => h.2 g (lt_some e) (by rintro rfl; exact n hm)⟩
theorem Kq.grown {T : List TypeId} {M : Nat → Prop} {a b : World} {B : Nat} {e : TypeId} {size n : Nat} {v : Value} {xs : List Value} (h : a.grownBy b v.ownBlock) (ho : a.ownsRow B e size v n xs) (ht : e ∈ T) : Kq T M a b := by
  have key : ∀ (g : Nat) (o : Obj), a.heap[g]? = some o → (∀ cur, o ≠ .cells cur e (0, 0)) → b.heap[g]? = a.heap[g]? := by
    intro g o hg hn
    refine h.block g (lt_some hg) ?_
    intro q
    obtain ⟨hl, ⟨e1, e2⟩ | ⟨g', cap, cur, e1, h1, hg', r⟩⟩ := ho
    · subst e1; cases q
    · subst e1
      injection q with q
      subst q
      rw [hg'] at hg
      exact hn cur (Option.some.inj hg).symm
  refine ⟨h.size, fun g cur t fz eg n => key g _ eg ?_, fun g es c eg _ => key g _ eg (fun cur q => by cases q)⟩
  intro cur' q
  injection q with _ q _
  subst q
  exact n ht
theorem own_kq {T : List TypeId} {M : Nat → Prop} {w w' : World} {B : Nat} {e : TypeId} {size n : Nat} {v : Value} {xs : List Value} (h : w.ownsRow B e size v n xs) (k : Kq T M w w') (ht : e ∉ T) : w'.ownsRow B e size v n xs := own_kept h fun g cur q => k.cells g cur e (0, 0) q ht
theorem fnx_kq {T : List TypeId} {M : Nat → Prop} {w w' : World} {B : Nat} {v : Value} {l : List Int} (h : FNx B w v l) (k : Kq T M w w') (ht : 61 ∉ T) : FNx B w' v l := fnx_kept h fun g cur q => k.cells g cur _ (0, 0) q ht
theorem MapF.kq {T : List TypeId} {M : Nat → Prop} {w w' : World} {k : TypeId} {b n : Nat} {f : Lit → Option Value} (h : MapF w k b n f) (q : Kq T M w w') (hm : ¬ M b) : MapF w' k b n f := by
  obtain ⟨es, c, e⟩ := h.isMap
  exact h.kept (q.maps b es c e hm)
theorem Kq.kt {T : List TypeId} {M : Nat → Prop} {w w' : World} {B pm hm : Nat} (k : Kq T M w w') (l : Below B w w') (ht : ∀ t ∈ T, t ∈ WT) (hM : ∀ g, M g → g = pm ∨ g = hm) : Kt B pm hm w w' :=
  ⟨l, fun g cur t fz e n => k.cells g cur t fz e (fun x => n (ht t x)), fun g es c e n1 n2 => k.maps g es c e (fun x => (hM g x).elim n1 n2)⟩
theorem addr0 (g j : Nat) : (⟨g, 0, none⟩ : Addr).add j = ⟨g, j, none⟩ := by
  unfold Addr.add
  split
  · next h => subst h; rfl
  · simp
/-- one element behind a list of one's own, made new -/
theorem push1 {w X : World} {B : Nat} {t e : TypeId} {size bytes : Nat} {z : Value} {v : Value} {n : Nat} {xs news : List Value} (ht : Tryz.prog.underlying t = some (.slice e)) (hi : (Tryz.prog.info? e).map (fun i => (i.zero, i.size, i.bytes)) = some (some z, size, bytes)) (hzs : z.cells.size = size) (hsz : 0 < size)
    (h : w.ownsRow B e size v n xs) (hB : B ≤ w.heap.size) (hX : Below w.heap.size w X) (hX0 : X.heap[w.heap.size]? = some (.cells news.toArray e (0, 0))) (hl : news.length = size) (h1 : ∀ u ∈ news, u.oneCell' = true) (hn : n ≤ 1048576) (hb : bytes ≤ 4096) (ty : TypeId) :
    ∃ a c W5, (Builtin.append_ #[t, t] ty #[v, .slice (some ⟨w.heap.size, 0, none⟩) 1 1]).run Tryz.prog X = .ok (.slice a (n + 1) c) W5 ∧ W5.ownsRow B e size (.slice a (n + 1) c) (n + 1) (xs ++ news) ∧ Kq [e] noM w W5 ∧ Below B w W5 ∧ ∀ b, b < w.heap.size → v.ownBlock ≠ some b → W5.heap[b]? = w.heap[b]? := by
  obtain ⟨i, hi, hz'⟩ := Option.map_eq_some_iff.1 hi
  simp only [Prod.mk.injEq] at hz'
  obtain ⟨hz0, hz1, hz2⟩ := hz'
  have hown := own_kept h (below_kept hX)
  have hBX : B ≤ X.heap.size := Nat.le_trans hB hX.size
  have hby : (n + 1) * bytes ≤ 140737488355328 := by
    have : (n + 1) * bytes ≤ 1048577 * 4096 := Nat.mul_le_mul (by omega) hb
    omega
  obtain ⟨v', W', hr, h2, h3, h4⟩ := run_append_own (P := Tryz.prog) X B t ty e i z size bytes ht hi hz0 hz1 hz2 hzs hsz v n xs hown ⟨w.heap.size, 0, none⟩ 1 1 news (by omega) (fun j u hj => by
    rw [addr0]
    simp [World.cell?, hX0, hj]) h1 (by unfold maxLen; omega) hby hBX
  obtain ⟨a, c, rfl, -, -⟩ := own_len h2
  refine ⟨a, c, W', hr, h2, (Kq.below hX).trans (Kq.grown h3 hown (by simp)), ?_⟩
  refine ⟨(hX.mono hB).trans ((Below.refl _ _).grown h3 hBX fun k hk => (hown.lt k hk).1), fun b hb hne => ?_⟩
  exact (h3.block b (Nat.lt_of_lt_of_le hb hX.size) (fun q => hne q.symm)).trans (hX.block b hb)

/-! a file, turned -/
theorem FAt.kq {T : List TypeId} {M : Nat → Prop} {B : Nat} {w w' : World} {F F' : Fil} {P P' : Pts} (h : FAt B w F P) (k : Kq T M w w') (e1 : P'.fb = P.fb) (e2 : P'.pm = P.pm)
    (hfil : w'.heap[P'.fb]? = some (.cells (filC F' P') 111 (0, 0))) (hplc : (∃ n, n ≤ F'.classes.length ∧ MapF w' 61 P'.pm n (Af.plc F'.classes)) ∨ (F'.classes = F.classes ∧ ¬ M P.pm))
    (hreps : w'.ownsRow B 114 2 P'.vr F'.reps.length (F'.reps.flatMap repC) ∨ (F'.reps = F.reps ∧ P'.vr = P.vr ∧ 114 ∉ T))
    (halis : (w'.ownsRow B 39 1 P'.va F'.aliases.length P'.av ∧ P'.av.length = F'.aliases.length ∧ ∀ (i : Nat) v a, P'.av[i]? = some v → F'.aliases[i]? = some a → FNx B w' v a) ∨ (F'.aliases = F.aliases ∧ P'.va = P.va ∧ P'.av = P.av ∧ 39 ∉ T))
    (hcls : w'.ownsRow B 117 5 P'.vc F'.classes.length (F'.classes.flatMap clsC) ∨ (F'.classes = F.classes ∧ P'.vc = P.vc ∧ 117 ∉ T))
    (hrul : (w'.ownsRow B 78 7 P'.vu F'.rules.length ((F'.rules.zip P'.nv).flatMap fun p => rulC p.1 p.2) ∧ P'.nv.length = F'.rules.length ∧ ∀ (i : Nat) v r, P'.nv[i]? = some v → F'.rules[i]? = some r → FNx B w' v r.next) ∨ (F'.rules = F.rules ∧ P'.vu = P.vu ∧ P'.nv = P.nv ∧ 78 ∉ T))
    (hT : 61 ∉ T) (ok : FilOk F') : FAt B w' F' P' := by
  refine ⟨by rw [e1]; exact h.fbB, by rw [e2]; exact h.pmB, hfil, ?_, ?_, ?_, ?_, ?_, ?_, ?_, ok⟩
  · rcases hplc with q | ⟨q, m⟩
    · exact q
    · obtain ⟨n, hn, hm⟩ := h.plc
      rw [q, e2]
      exact ⟨n, hn, hm.kq k m⟩
  · rcases hreps with q | ⟨q1, q2, q3⟩
    · exact q
    · rw [q1, q2]; exact own_kq h.reps k q3
  · rcases halis with q | ⟨q1, q2, q3, q4⟩
    · exact q.1
    · rw [q1, q2, q3]; exact own_kq h.alis k q4
  · rcases halis with q | ⟨q1, q2, q3, q4⟩
    · exact q.2
    · rw [q1, q3]; exact ⟨h.aliF.1, fun i v a x1 x2 => fnx_kq (h.aliF.2 i v a x1 x2) k hT⟩
  · rcases hcls with q | ⟨q1, q2, q3⟩
    · exact q
    · rw [q1, q2]; exact own_kq h.clss k q3
  · rcases hrul with q | ⟨q1, q2, q3, q4⟩
    · exact q.1
    · rw [q1, q2, q3]; exact own_kq h.ruls k q4
  · rcases hrul with q | ⟨q1, q2, q3, q4⟩
    · exact q.2
    · rw [q1, q3]; exact ⟨h.rulF.1, fun i v a x1 x2 => fnx_kq (h.rulF.2 i v a x1 x2) k hT⟩
/-- a reader whose file was turned -/
theorem RAt.kq {T : List TypeId} {M : Nat → Prop} {B rb : Nat} {w w' : World} {R R' : Rdr} {P P' : Pts} (h : RAt B w rb R P) (k : Kq T M w w') (hF : FAt B w' R'.file P') (e1 : P'.pm = P.pm) (e2 : P'.hm = P.hm) (e3 : P'.rv = P.rv)
    (hrd : w'.heap[rb]? = some (.cells (rdrC R' P') 95 (0, 0))) (hl : w'.ownsRow B 3 1 P'.vl R'.file.rules.length (R'.file.rules.map linC)) (r1 : R'.rows = R.rows) (r2 : R'.heads = R.heads) (r3 : R'.behind = R.behind) (r4 : R'.line = R.line)
    (t2 : 131 ∉ T) (t3 : 9 ∉ T) (m1 : ¬ M P.hm) : RAt B w' rb R' P' := by
  obtain ⟨n, hn, hm⟩ := h.hds
  refine ⟨h.rbB, by rw [e2]; exact h.hmB, hrd, ?_, ⟨n, by rw [r2]; exact hn, by rw [r2, e2]; exact hm.kq k m1⟩, by rw [e1, e2]; exact h.hne, hl, hF, by rw [r2, r3, r4]; exact h.few, by rw [r1]; exact h.rok⟩
  rw [r1, e3]
  exact rows_kept h.rows (fun g cur q => k.cells g cur _ (0, 0) q t2) (fun g cur q => k.cells g cur _ (0, 0) q t3)
theorem RAt.ne {B rb : Nat} {R : Rdr} {P : Pts} {w : World} (h : RAt B w rb R P) : rb ≠ P.fb := by
  intro e
  have := h.rdr
  rw [e, h.file.fil] at this
  injection this with this
  injection this with _ this _
  exact absurd this (by decide)
/-- one cell of the file was set -/
theorem RAt.fset {B rb : Nat} {R : Rdr} {P : Pts} {w w0 : World} (h : RAt B w rb R P) (hb : Below w.heap.size w w0) {F' : Fil} (i : Nat) (v : Value) (hc : (filC R.file P).setIfInBounds i v = filC F' P) (q1 : F'.reps = R.file.reps) (q2 : F'.aliases = R.file.aliases) (q3 : F'.classes = R.file.classes) (q4 : F'.rules = R.file.rules) (ok : FilOk F') :
    RAt B (w0.setCell ⟨P.fb, i, none⟩ v) rb { R with file := F' } P ∧ Kt B P.pm P.hm w (w0.setCell ⟨P.fb, i, none⟩ v) := by
  have h' := h.below hb
  have k : Kq [111] noM w0 (w0.setCell ⟨P.fb, i, none⟩ v) := .kp (kp_set w0 P.fb i v) h'.file.fil (by simp)
  have k0 : Kq [111] noM w (w0.setCell ⟨P.fb, i, none⟩ v) := (Kq.below hb).trans k
  have hf : FAt B (w0.setCell ⟨P.fb, i, none⟩ v) F' P := h'.file.kq k rfl rfl (by rw [← hc]; exact set_heap1 h'.file.fil v) (.inr ⟨q3, fun x => x⟩) (.inr ⟨q1, rfl, by decide⟩) (.inr ⟨q2, rfl, rfl, by decide⟩) (.inr ⟨q3, rfl, by decide⟩) (.inr ⟨q4, rfl, rfl, by decide⟩) (by decide) ok
  refine ⟨h'.kq k hf rfl rfl rfl ((k.cells _ _ _ _ h'.rdr (by decide)).trans h'.rdr) ?_ rfl rfl rfl rfl (by decide) (by decide) (fun x => x), k0.kt ?_ (by decide) (fun g x => x.elim)⟩
  · show World.ownsRow _ _ _ _ _ F'.rules.length (F'.rules.map linC)
    rw [q4]
    exact own_kq h'.lns k (by decide)
  · exact (hb.mono h.base).setCell (p := ⟨P.fb, i, none⟩) h.file.fbB v
end Af
end Go.Proofs.YtlajdmjpobckhaaGreatDoor
/- The reader: a flag that is not defined yet, or is. -/
namespace Go.Proofs.YtlajdmjpobckhaaGreatDoor
open Go.RowKit
namespace Af
open RowB
theorem oneF_bounds (k : Int) (l : Bs) : 0 ≤ One.oneF k l ∧ One.oneF k l ≤ 65535 := by
  unfold One.oneF
  split
  · exact One.val_bounds k l
  · omega
theorem newFlag_cls {R : Rdr} {f : Bs} {i : Nat} (h : One.oneE R.file.kind f = 0) (h2 : findC R.file.classes (One.oneF R.file.kind f) = some i) : newFlag R f = .error (R.line, 115) := by
  unfold newFlag
  rw [if_neg (fun e => e h), if_pos (.inl (by rw [h2]; rfl))]
theorem newFlag_pos {R : Rdr} {f : Bs} {x : Int} (h : newFlag R f = .ok x) : 1 ≤ x ∧ x ≤ 65535 ∧ findC R.file.classes x = none ∧ x ∉ R.file.specials := by
  unfold newFlag at h
  split at h
  · cases h
  · rename_i he
    split at h
    · cases h
    · rename_i hc
      injection h with h
      have hb := oneF_bounds R.file.kind f
      have h0 : One.oneF R.file.kind f ≠ 0 := by
        intro e
        apply he
        unfold One.oneE
        unfold One.oneF at e
        split at e
        · rename_i hk
          rw [if_pos hk, if_pos e]; decide
        · rename_i hk
          rw [if_neg hk]; decide
      rw [h] at hb h0 hc
      rw [not_or] at hc
      refine ⟨by omega, hb.2, ?_, hc.2⟩
      cases hq : findC R.file.classes x with
      | none => rfl
      | some i => rw [hq] at hc; exact absurd rfl hc.1
set_option maxHeartbeats 2000000 in
theorem newFlag_all {B rb : Nat} {R : Rdr} {P : Pts} {w : World} (h : RAt B w rb R P) (s : ByteArray) (hs : s.size ≤ 65536) :
    Calls Tryz.prog 96 #[ptr rb, .string s] w fun e w' => e = endX flgV (newFlag R s.data.toList) ∧ Below w.heap.size w w' := by
  obtain ⟨hb0, hb1⟩ := oneF_bounds R.file.kind s.data.toList
  cases hf : findC R.file.classes (One.oneF R.file.kind s.data.toList) with
  | none => exact newFlag_any h s hs hf hb0 hb1
  | some i =>
    by_cases he : One.oneE R.file.kind s.data.toList = 0
    · obtain ⟨d0, -, dl, -, -, -, -⟩ := h.cells
      obtain ⟨k0, -, -, -, -, -, kz⟩ := h.file.cells
      have hlt := h.lt
      have hfl := h.file.lt
      obtain ⟨c, hc, -⟩ := findC_get hf
      have HO := hide (One.one_any R.file.kind s w (by unfold maxLen; omega))
      rw [he] at HO
      have HL := hide (fun W => leave_ok (ptr rb) W)
      have HC := hide (fun m => class_some (h.file.below (w' := w.drewN m) (below_drewN _ w m)) _ hb0 hb1 hf hc)
      rw [newFlag_cls he hf]
      have HV := hide (fun W (b : Below w.heap.size w W) => leaveIf_no rb R.line 115 W (by decide) (by decide) (lineB dl hlt b))
      clear h hf hb0 hb1 he hs hc kz dl
      generalize One.oneF R.file.kind s.data.toList = x at *
      unfold clsV at HC
      go_enter Tryz.func96, Tryz.ntmps96
      go_wp2_with (first | (go_at_call 126; refine (unhide HO).mono ?_; rintro e w2 ⟨rfl, m, rfl⟩) | (go_at_call 69; refine (unhide HL _).mono ?_; rintro e w3 ⟨rfl, rfl⟩))
      refine (unhide HC m).mono ?_
      rintro e w3 ⟨rfl, b3⟩
      have b4 : Below w.heap.size w w3 := (below_drewN w.heap.size w m).trans b3
      have e0 := (b4.cell (p := ⟨rb, 0, none⟩) hlt).trans d0
      have hsz := b4.size
      have hlt3 : rb < w3.heap.size := by omega
      have HB4 := hide b4
      clear b3 b4 d0 k0
      go_wp2_with fail
      have b5 := (unhide HB4).alloc hsz (.cells #[.int .u16 c.flag, .int .i64 c.kind, .bool c.cross, .int .i64 (c.first : Nat), .int .i64 (c.count : Nat)] 117)
      refine (unhide HV _ b5).mono ?_
      rintro e w6 ⟨rfl, rfl⟩
      exact ⟨rfl, rfl, b5⟩
    · obtain ⟨d0, -, dl, -, -, -, -⟩ := h.cells
      obtain ⟨k0, -, -, -, -, -, kz⟩ := h.file.cells
      have hlt := h.lt
      have HO := hide (One.one_any R.file.kind s w (by unfold maxLen; omega))
      rw [newFlag_bad he]
      have HV := hide (fun m => leave_no rb R.line _ (w.drewN m) he (oneE_pos _ _) (lineB dl hlt (below_drewN _ w m)))
      clear h hf hb0 hb1 he hs kz
      generalize One.oneE R.file.kind s.data.toList = cd at *
      go_enter Tryz.func96, Tryz.ntmps96
      go_wp2_with (first | (go_at_call 126; refine (unhide HO).mono ?_; rintro e w2 ⟨rfl, m, rfl⟩) | (go_at_call 69; refine (unhide HV _).mono ?_; rintro e w3 ⟨rfl, rfl⟩))
      exact ⟨rfl, rfl, below_drewN _ w m⟩
end Af
end Go.Proofs.YtlajdmjpobckhaaGreatDoor
/- The reader: a class and its rules in memory; groups, plain. No walk. -/
namespace Go.Proofs.YtlajdmjpobckhaaGreatDoor
open Go.RowKit
namespace Af
open RowB
/-! groups -/
theorem times_err {f : Rdr → Except Er Rdr} {e : Er} : ∀ {j n : Nat} {R Rj : Rdr}, times f j R = .ok Rj → f Rj = .error e → j < n → times f n R = .error e
  | 0, n, R, Rj, h, he, hn => by
    obtain ⟨m, rfl⟩ : ∃ m, n = m + 1 := ⟨n - 1, by omega⟩
    simp only [times, Except.ok.injEq] at h
    subst h
    simp [times, he]
  | j + 1, n, R, Rj, h, he, hn => by
    obtain ⟨m, rfl⟩ : ∃ m, n = m + 1 := ⟨n - 1, by omega⟩
    simp only [times] at h ⊢
    cases hf : f R with
    | error e' => rw [hf] at h; cases h
    | ok R1 => rw [hf] at h; exact times_err h he (by omega)
theorem times_ok {f : Rdr → Except Er Rdr} : ∀ {j : Nat} {R Rj R' : Rdr}, times f j R = .ok Rj → f Rj = .ok R' → times f (j + 1) R = .ok R'
  | 0, R, Rj, R', h, he => by
    simp only [times, Except.ok.injEq] at h
    subst h
    simp [times, he]
  | j + 1, R, Rj, R', h, he => by
    rw [times] at h ⊢
    cases hf : f R with
    | error e' => rw [hf] at h; cases h
    | ok R1 => rw [hf] at h; exact times_ok h he
theorem grow_fld {R : Rdr} {beg row : List Bs} {R1 : Rdr} (h : grow R beg = .ok (row, R1)) : ∃ l t, R.rows = (l, row) :: t ∧ R1 = { R with rows := t, line := l } := by
  unfold grow at h
  split at h
  · cases h
  · rename_i l row' t hr
    split at h
    · injection h with h
      injection h with h1 h2
      subst h1
      exact ⟨l, t, hr, h2.symm⟩
    · cases h
theorem rulStep_g {R : Rdr} {beg : List Bs} {c : Cls} {e : Er} (h : grow R beg = .error e) : rulStep beg c R = .error e := by unfold rulStep; rw [h]
theorem rulStep_r {R R1 : Rdr} {beg row : List Bs} {c : Cls} {e : Er} (h : grow R beg = .ok (row, R1)) (hr : rule R1.file R1.line c row = .error e) : rulStep beg c R = .error e := by unfold rulStep; rw [h]; simp [hr]
theorem rulStep_ok {R R1 : Rdr} {beg row : List Bs} {c : Cls} {p : Rul} (h : grow R beg = .ok (row, R1)) (hr : rule R1.file R1.line c row = .ok p) : rulStep beg c R = .ok { R1 with file := { R1.file with rules := R1.file.rules ++ [p] } } := by unfold rulStep; rw [h]; simp [hr]
theorem rule_line {F : Fil} {l : Nat} {c : Cls} {row : List Bs} {r : Rul} (h : rule F l c row = .ok r) : r.line = l := by
  unfold rule at h
  split at h
  · cases h
  · split at h
    · cases h
    · split at h
      · cases h
      · split at h
        · split at h
          · cases h
          · injection h with h; rw [← h]
        · injection h with h; rw [← h]
/-! a class -/
theorem findC_snoc {C : List Cls} {c : Cls} (h : findC C c.flag = none) (x : Int) : findC (C ++ [c]) x = if x = c.flag then some C.length else findC C x := by
  induction C with
  | nil =>
    simp only [List.nil_append, findC, List.length_nil]
    by_cases e : c.flag = x
    · rw [if_pos e, if_pos e.symm]
    · rw [if_neg e, if_neg (fun q => e q.symm)]; rfl
  | cons a t ih =>
    simp only [findC] at h
    split at h
    · cases h
    · rename_i hne
      have ht : findC t c.flag = none := by
        cases hq : findC t c.flag with
        | none => rfl
        | some i => rw [hq] at h; cases h
      simp only [List.cons_append, findC, List.length_cons]
      rw [ih ht]
      by_cases e : x = c.flag
      · rw [if_pos e, if_pos e, if_neg (by rw [e]; exact hne)]; rfl
      · rw [if_neg e, if_neg e]
theorem infoC : (Tryz.prog.info? 117).map (fun i => (i.zero, i.size, i.bytes)) = some (some (.agg #[.int .u16 0, .int .i64 0, .bool false, .int .i64 0, .int .i64 0]), 5, 40) := by kernel_rfl
theorem infoU : (Tryz.prog.info? 78).map (fun i => (i.zero, i.size, i.bytes)) = some (some (.agg #[.int .i64 0, .int .u16 0, .bool false, .string ⟨#[]⟩, .string ⟨#[]⟩, .string ⟨#[]⟩, .slice none 0 0]), 7, 88) := by kernel_rfl
theorem infoI : (Tryz.prog.info? 3).map (fun i => (i.zero, i.size, i.bytes)) = some (some (.int .i64 0), 1, 8) := by kernel_rfl
theorem putClass {B : Nat} {V : World} {F : Fil} {P : Pts} (h : FAt B V F P) (c : Cls) (h1 : 1 ≤ c.flag) (h2 : c.flag ≤ 65535) (hf : findC F.classes c.flag = none) (hcn : F.classes.length ≤ 65536) :
    ∃ V3, (Instr.mapUpdate 109 (.map (some P.pm)) (.int .u16 c.flag) (.int .i64 (F.classes.length : Nat))).run Tryz.prog V.drew = .ok () V3 ∧ (∃ n, n ≤ F.classes.length + 1 ∧ MapF V3 61 P.pm n (plc (F.classes ++ [c]))) ∧ Kp P.pm V V3 ∧ Kq [] (· = P.pm) V V3 ∧ Below B V V3 := by
  obtain ⟨n0, hn0, hm0⟩ := h.plc
  obtain ⟨V3, hmu, hput, hgr⟩ := (MapF.kept (w' := V.drew) hm0 rfl).put (v := .int .i64 (F.classes.length : Nat)) lawF Tryz.underlying109 (by unfold maxLen; omega) (keyF (x := c.flag) (by omega) (by omega)) trivial
  have kp : Kp P.pm V V3 := Kp.of_grown (w := V.drew) hgr
  obtain ⟨es, cc, e⟩ := hm0.isMap
  refine ⟨V3, hmu, ⟨n0 + 1, by omega, hput _ ?_ ?_⟩, kp, Kq.kpm kp e rfl, ((Below.refl B V).drew).trans ((Below.refl B V.drew).grown hgr ?_ ?_)⟩
  · show (findC (F.classes ++ [c]) c.flag).map _ = _
    rw [findC_snoc hf, if_pos rfl]
    rfl
  · intro y hy
    match y with
    | .int .u16 z =>
      show (findC (F.classes ++ [c]) z).map _ = (findC F.classes z).map _
      rw [findC_snoc hf, if_neg (fun e => hy (by rw [e]))]
    | .int .u8 _ | .int .i8 _ | .int .i16 _ | .int .u32 _ | .int .i32 _ | .int .u64 _ | .int .i64 _ | .bool _ | .float _ _ | .string _ | .nil => rfl
  · exact Nat.le_of_lt (Nat.lt_of_le_of_lt h.pmB hm0.lt)
  · intro k hk
    injection hk with hk
    rw [← hk]
    exact h.pmB
theorem RAt.newClass {B rb : Nat} {w w1 w2 : World} {R : Rdr} {P : Pts} {v' : Value} (h : RAt B w rb R P) (c : Cls) (hc : 1 ≤ c.flag ∧ c.flag ≤ 65535) (k1 : Kq [] (· = P.pm) w w1) (l1 : Below B w w1) (m1 : ∃ n, n ≤ R.file.classes.length + 1 ∧ MapF w1 61 P.pm n (plc (R.file.classes ++ [c])))
    (k2 : Kq [117] noM w1 w2) (l2 : Below B w1 w2) (o2 : w2.ownsRow B 117 5 v' (R.file.classes.length + 1) (R.file.classes.flatMap clsC ++ clsC c)) :
    RAt B (w2.setCell ⟨P.fb, 11, none⟩ v') rb { R with file := { R.file with classes := R.file.classes ++ [c] } } { P with vc := v' } ∧ Kt B P.pm P.hm w (w2.setCell ⟨P.fb, 11, none⟩ v') := by
  have k12 : Kq [111, 117] (· = P.pm) w w2 := (k1.wide (by simp) (fun _ x => x)).trans (k2.wide (by simp) (fun _ x => x.elim))
  have hfil : w2.heap[P.fb]? = some (.cells (filC R.file P) 111 (0, 0)) :=
    ((k2.cells _ _ _ _ ((k1.cells _ _ _ _ h.file.fil (by simp)).trans h.file.fil) (by decide)).trans ((k1.cells _ _ _ _ h.file.fil (by simp)).trans h.file.fil))
  have k3 : Kq [111, 117] (· = P.pm) w2 (w2.setCell ⟨P.fb, 11, none⟩ v') := .kp (kp_set w2 P.fb 11 v') hfil (by simp)
  have kk := k12.trans k3
  obtain ⟨n, hn, hm⟩ := m1
  have ok := h.file.ok
  have hf : FAt B (w2.setCell ⟨P.fb, 11, none⟩ v') { R.file with classes := R.file.classes ++ [c] } { P with vc := v' } := by
    refine h.file.kq kk rfl rfl (set_heap1 hfil v') (.inl ⟨n, by simpa using hn, (hm.kq k2 (fun x => x)).kq (M := noM) (T := [111]) (.kp (kp_set w2 P.fb 11 v') hfil (by simp)) (fun x => x)⟩) (.inr ⟨rfl, rfl, by decide⟩) (.inr ⟨rfl, rfl, rfl, by decide⟩) (.inl ?_) (.inr ⟨rfl, rfl, rfl, by decide⟩) (by decide) ⟨ok.kind, ok.spec, ok.specB, ?_, ok.reps, ok.ali, ok.aliS, ok.rul, ok.len⟩
    · have := own_kq o2 (Kq.kp (T := [111]) (M := noM) (kp_set w2 P.fb 11 v') hfil (by simp)) (by decide)
      simpa using this
    · intro d hd
      rcases List.mem_append.1 hd with q | q
      · exact ok.cls d q
      · simp at q; subst q; exact hc
  refine ⟨h.kq kk hf rfl rfl rfl ((kk.cells _ _ _ _ h.rdr (by decide)).trans h.rdr) (own_kq h.lns kk (by decide)) rfl rfl rfl rfl (by decide) (by decide) h.hne, kk.kt ?_ (by decide) (fun g x => .inl x)⟩
  exact (l1.trans l2).setCell (p := ⟨P.fb, 11, none⟩) h.file.fbB v'
/-! a rule -/
theorem zip_snoc {a : List Rul} {b : List Value} (h : b.length = a.length) (r : Rul) (u : Value) : ((a ++ [r]).zip (b ++ [u])).flatMap (fun p => rulC p.1 p.2) = ((a.zip b).flatMap fun p => rulC p.1 p.2) ++ rulC r u := by
  rw [List.zip_append h.symm, List.flatMap_append]
  simp
theorem snoc_get {α : Type} {l : List α} {x y : α} {i : Nat} (h : (l ++ [x])[i]? = some y) : (i < l.length ∧ l[i]? = some y) ∨ (i = l.length ∧ y = x) := by
  by_cases hi : i < l.length
  · rw [List.getElem?_append_left hi] at h
    exact .inl ⟨hi, h⟩
  · rw [List.getElem?_append_right (by omega)] at h
    obtain ⟨q, q2⟩ := List.getElem?_eq_some_iff.1 h
    simp at q
    have : i = l.length := by omega
    subst this
    simp at q2
    exact .inr ⟨rfl, q2.symm⟩
theorem RAt.addRule {B rb : Nat} {w w4 w5 w7 : World} {R : Rdr} {P : Pts} {u v' l' : Value} (h : RAt B w rb R P) (r : Rul) (hr : r.line = R.line) (hn : R.file.rules.length < 1024) (k4 : Below w.heap.size w w4) (hu : FNx w.heap.size w4 u r.next)
    (k5 : Kq [78] noM w4 w5) (l5 : Below B w4 w5) (o5 : w5.ownsRow B 78 7 v' (R.file.rules.length + 1) (((R.file.rules.zip P.nv).flatMap fun p => rulC p.1 p.2) ++ rulC r u))
    (k7 : Kq [3] noM (w5.setCell ⟨P.fb, 12, none⟩ v') w7) (l7 : Below B (w5.setCell ⟨P.fb, 12, none⟩ v') w7) (o7 : w7.ownsRow B 3 1 l' (R.file.rules.length + 1) (R.file.rules.map linC ++ [.int .i64 (R.line : Nat)])) :
    RAt B (w7.setCell ⟨rb, 5, none⟩ l') rb { R with file := { R.file with rules := R.file.rules ++ [r] } } { P with vu := v', vl := l', nv := P.nv ++ [u] } ∧ Kt B P.pm P.hm w (w7.setCell ⟨rb, 5, none⟩ l') := by
  have hB := h.base
  have h4 := h.below k4
  have hfil : w5.heap[P.fb]? = some (.cells (filC R.file P) 111 (0, 0)) := (k5.cells _ _ _ _ h4.file.fil (by decide)).trans h4.file.fil
  have k6 : Kq [111] noM w5 (w5.setCell ⟨P.fb, 12, none⟩ v') := .kp (kp_set w5 P.fb 12 v') hfil (by simp)
  have hrd : w7.heap[rb]? = some (.cells (rdrC R P) 95 (0, 0)) := by
    have e1 := (k5.cells _ _ _ _ h4.rdr (by decide)).trans h4.rdr
    have e2 := (k6.cells _ _ _ _ e1 (by decide)).trans e1
    exact (k7.cells _ _ _ _ e2 (by decide)).trans e2
  have k8 : Kq [95] noM w7 (w7.setCell ⟨rb, 5, none⟩ l') := .kp (kp_set w7 rb 5 l') hrd (by simp)
  let T : List TypeId := [95, 111, 78, 3]
  have kk : Kq T noM w4 (w7.setCell ⟨rb, 5, none⟩ l') := (((k5.wide (by decide) (fun _ x => x)).trans (k6.wide (by decide) (fun _ x => x))).trans (k7.wide (by decide) (fun _ x => x))).trans (k8.wide (by decide) (fun _ x => x))
  have kw : Kq T noM w (w7.setCell ⟨rb, 5, none⟩ l') := (Kq.below k4).trans kk
  have hlow : Below B w (w7.setCell ⟨rb, 5, none⟩ l') := (((k4.mono hB).trans l5).trans (((Below.refl B w5).setCell (p := ⟨P.fb, 12, none⟩) h.file.fbB v').trans l7)).setCell (p := ⟨rb, 5, none⟩) h.rbB l'
  have ok := h.file.ok
  have hf : FAt B (w7.setCell ⟨rb, 5, none⟩ l') { R.file with rules := R.file.rules ++ [r] } { P with vu := v', vl := l', nv := P.nv ++ [u] } := by
    refine h4.file.kq kk rfl rfl ?_ (.inr ⟨rfl, fun x => x⟩) (.inr ⟨rfl, rfl, by decide⟩) (.inr ⟨rfl, rfl, rfl, by decide⟩) (.inr ⟨rfl, rfl, by decide⟩) (.inl ⟨?_, ?_, ?_⟩) (by decide) ⟨ok.kind, ok.spec, ok.specB, ok.cls, ok.reps, ok.ali, ok.aliS, ?_, ok.len⟩
    · have e1 := set_heap1 (k := 12) hfil v'
      have e2 := (k7.cells _ _ _ _ e1 (by decide)).trans e1
      exact (k8.cells _ _ _ _ e2 (by decide)).trans e2
    · have e1 := own_kq (own_kq (own_kq o5 k6 (by decide)) k7 (by decide)) k8 (by decide)
      show World.ownsRow _ _ _ _ _ (R.file.rules ++ [r]).length (((R.file.rules ++ [r]).zip (P.nv ++ [u])).flatMap fun p => rulC p.1 p.2)
      rw [zip_snoc h.file.rulF.1, List.length_append]
      exact e1
    · simp [h.file.rulF.1]
    · intro i v q hv hq
      rcases snoc_get hv with ⟨_, hv⟩ | ⟨hi, hv⟩
      · rcases snoc_get hq with ⟨_, hq⟩ | ⟨hi2, hq⟩
        · exact fnx_kq (h4.file.rulF.2 i v q hv hq) kk (by decide)
        · have := h.file.rulF.1; omega
      · rcases snoc_get hq with ⟨hi2, hq⟩ | ⟨hi2, hq⟩
        · have := h.file.rulF.1; omega
        · subst hv hq
          exact (fnx_kq hu kk (by decide)).low hB
    · simp; omega
  refine ⟨h.kq kw hf rfl rfl rfl ?_ ?_ rfl rfl rfl rfl (by decide) (by decide) (fun x => x), kw.kt hlow (by decide) (fun g x => x.elim)⟩
  · exact set_heap1 hrd l'
  · have e1 := own_kq o7 k8 (by decide)
    show World.ownsRow _ _ _ _ _ (R.file.rules ++ [r]).length ((R.file.rules ++ [r]).map linC)
    rw [List.length_append, List.map_append]
    simpa [linC, hr] using e1
end Af
end Go.Proofs.YtlajdmjpobckhaaGreatDoor
