import Derived.Test.YtidhbhdcoanfcaaGreatDoorGq23
import Derived.Deep.RegionHeld3
set_option maxHeartbeats 8000000
set_option maxRecDepth 100000
namespace Go.Proofs.YtidhbhdcoanfcaaGreatDoor
open Go.RowKit
namespace Af
open RowB
theorem gen_call {P : Program} {g : FuncId} {args : Array Value} {W : World} {Q : Ending → World → Prop} (h : ∀ V, V = W → Calls P g args V Q) : Calls P g args W Q := h W rfl
theorem gen_world {P : Program} {c : Code} {Q : Exit → Act → World → Prop} {a : Act} {W : World} (h : ∀ V, V = W → Code.wp P c Q a V) : Code.wp P c Q a W := h W rfl
theorem gen_then {K : Act → World → Prop} {Q : Exit → Act → World → Prop} {a : Act} {W : World} (h : ∀ V, V = W → Exit.then K Q .normal a V) : Exit.then K Q .normal a W := h W rfl
theorem step_no3 {P : Program} {ops : Array Oper} {o : Oper} {a : Act} {w : World} {K : Act → World → Prop} {Q : Exit → Act → World → Prop} {E : Prop}
  (hg : o.guard = none) (f : FuncId) (x0 x1 x2 : Operand) (ts : Array TypeId) (hop : o.op = Op.call { callee := Callee.value (Operand.func f), args := #[x0, x1, x2], argTypes := ts })
  (u0 u1 u2 : Value) (h0 : a.eval x0 = u0) (h1 : a.eval x1 = u1) (h2 : a.eval x2 = u2) (hent : ∀ W : World, Sem.run P (callFunc f #[u0, u1, u2]) W = .ok (.enter f #[u0, u1, u2]) W) (r : Value) (hc : Calls P f #[u0, u1, u2] w fun e w' => ∃ ch, e = .panicked ch ∧ Q (.panic ch) a w') (_hK : Hid False → K (a.put o.dst r) w) :
  if Region.wanted o (yielded ops a.tmps) = true then Oper.wp P o a w K Q else E := by
 have hw : Region.wanted o (yielded ops a.tmps) = true := by simp [Region.wanted, hg]
 rw [if_pos hw]
 unfold Oper.wp
 have e : (execOp a.eval o).run P w = .ok (.enter f #[u0, u1, u2]) w := by
  simp [execOp, hop, resolve, invoke, BigFrame.eval_func, Deferred.ofValue, h0, h1, h2, hent]
 rw [e]
 unfold Oper.upon
 refine hc.mono ?_
 rintro e w' ⟨ch, rfl, h⟩
 exact h
theorem ent_added (x y z : Value) (W : World) : Sem.run Tryz.prog (callFunc 136 #[x, y, z]) W = .ok (.enter 136 #[x, y, z]) W := by kernel_rfl
def URes (w : World) (X : Except Er Rul) (e : Ending) (w' : World) : Prop :=
 Below w.heap.size w w' ∧ match X with
 | .ok r => ∃ u, e = .returned (.agg (rulC r u).toArray) ∧ FNx w.heap.size w' u r.next
 | .error er => e = .panicked (chn er)
theorem URes.no {w w' : World} {X : Except Er Rul} {er : Er} (hX : X = .error er) (k : Below w.heap.size w w') : URes w X (.panicked (chn er)) w' := by
 subst hX
 exact ⟨k, rfl⟩
theorem URes.yes {w w' : World} {X : Except Er Rul} {r : Rul} {u : Value} (hX : X = .ok r) (k : Below w.heap.size w w') (h : FNx w.heap.size w' u r.next) : URes w X (.returned (.agg (rulC r u).toArray)) w' := by
 subst hX
 exact ⟨k, u, rfl, h⟩
theorem uOk {w : World} {X : Except Er Rul} {r : Rul} {g : FuncId} {args : Array Value} (h : Calls Tryz.prog g args w (URes w X)) (hX : X = .ok r) : Calls Tryz.prog g args w fun e w' => ∃ u, e = .returned (.agg (rulC r u).toArray) ∧ FNx w.heap.size w' u r.next ∧ Below w.heap.size w w' := by
 subst hX
 exact h.mono fun e w' ⟨k, u, q1, q2⟩ => ⟨u, q1, q2, k⟩
theorem uNo {w : World} {X : Except Er Rul} {er : Er} {g : FuncId} {args : Array Value} (h : Calls Tryz.prog g args w (URes w X)) (hX : X = .error er) : Calls Tryz.prog g args w fun e w' => e = .panicked (chn er) ∧ Below w.heap.size w w' := by
 subst hX
 exact h.mono fun e w' ⟨k, q⟩ => ⟨q, k⟩
theorem alloc_new (w : World) (o : Obj) : (w.alloc o).heap[w.heap.size]? = some o := by show (w.heap.push o)[w.heap.size]? = some o; exact Array.getElem?_push_size
structure RL (w W : World) (c : Cls) (rc : Array Value) : Prop where
 b : Below w.heap.size w W
 cb : W.heap[w.heap.size]? = some (.cells (clsC c).toArray 94 (0, 0))
 ob : W.heap[w.heap.size + 1]? = some (.cells #[.int .i64 0, .int .u16 0, .bool false, .string ⟨#[]⟩, .string ⟨#[]⟩, .string ⟨#[]⟩, .slice none 0 0] 79 (0, 0))
 rv : W.heap[w.heap.size + 2]? = some (.cells rc 79 (0, 0))
theorem RL.start (w : World) (c : Cls) : RL w (((w.alloc (.cells (clsC c).toArray 94)).alloc (.cells #[.int .i64 0, .int .u16 0, .bool false, .string ⟨#[]⟩, .string ⟨#[]⟩, .string ⟨#[]⟩, .slice none 0 0] 79)).alloc (.cells #[.int .i64 c.kind, .int .u16 c.flag, .bool c.cross, .string ⟨#[]⟩, .string ⟨#[]⟩, .string ⟨#[46]⟩, .slice none 0 0] 79)) c #[.int .i64 c.kind, .int .u16 c.flag, .bool c.cross, .string ⟨#[]⟩, .string ⟨#[]⟩, .string ⟨#[46]⟩, .slice none 0 0] := by
 refine ⟨(((Below.refl _ w).alloc (Nat.le_refl _) _).alloc (by simp) _).alloc (by simp; omega) _, ?_, ?_, ?_⟩
 ·rw [Below.heap_alloc _ _ _ (by simp; omega), Below.heap_alloc _ _ _ (by simp)]
  exact alloc_new w _
 ·rw [Below.heap_alloc _ _ _ (by simp)]
  have := alloc_new (w.alloc (.cells (clsC c).toArray 94)) (.cells #[.int .i64 0, .int .u16 0, .bool false, .string ⟨#[]⟩, .string ⟨#[]⟩, .string ⟨#[]⟩, .slice none 0 0] 79)
  rwa [World.size_alloc] at this
 ·have := alloc_new ((w.alloc (.cells (clsC c).toArray 94)).alloc (.cells #[.int .i64 0, .int .u16 0, .bool false, .string ⟨#[]⟩, .string ⟨#[]⟩, .string ⟨#[]⟩, .slice none 0 0] 79)) (.cells #[.int .i64 c.kind, .int .u16 c.flag, .bool c.cross, .string ⟨#[]⟩, .string ⟨#[]⟩, .string ⟨#[46]⟩, .slice none 0 0] 79)
  rwa [World.size_alloc, World.size_alloc] at this
theorem RL.below {w W W' : World} {c : Cls} {rc : Array Value} (h : RL w W c rc) (k : Below W.heap.size W W') : RL w W' c rc :=
 ⟨h.b.trans (k.mono h.b.size), (k.block _ (lt_some h.cb)).trans h.cb, (k.block _ (lt_some h.ob)).trans h.ob, (k.block _ (lt_some h.rv)).trans h.rv⟩
theorem RL.drew {w W : World} {c : Cls} {rc : Array Value} (h : RL w W c rc) : RL w W.drew c rc := h.below ((Below.refl _ _).drew)
theorem RL.set {w W : World} {c : Cls} {rc : Array Value} (h : RL w W c rc) (k : Nat) (v : Value) : RL w (W.setCell ⟨w.heap.size + 2, k, none⟩ v) c (rc.setIfInBounds k v) :=
 ⟨h.b.setCell (p := ⟨w.heap.size + 2, k, none⟩) (by simp) v, (Below.heap_setCell W _ v _ (by simp)).trans h.cb, (Below.heap_setCell W _ v _ (by simp)).trans h.ob, set_heap1 h.rv v⟩
theorem RL.sz {w W : World} {c : Cls} {rc : Array Value} (h : RL w W c rc) : w.heap.size + 2 < W.heap.size := lt_some h.rv
theorem RL.cells {w W : World} {c : Cls} {a0 a1 a2 a3 a4 a5 a6 : Value} (h : RL w W c #[a0, a1, a2, a3, a4, a5, a6]) : W.cell? ⟨w.heap.size + 2, 0, none⟩ = some a0 ∧ W.cell? ⟨w.heap.size + 2, 1, none⟩ = some a1 ∧ W.cell? ⟨w.heap.size + 2, 2, none⟩ = some a2 ∧ W.cell? ⟨w.heap.size + 2, 3, none⟩ = some a3 ∧ W.cell? ⟨w.heap.size + 2, 4, none⟩ = some a4 ∧ W.cell? ⟨w.heap.size + 2, 5, none⟩ = some a5 ∧ W.cell? ⟨w.heap.size + 2, 6, none⟩ = some a6 := by
 simp [World.cell?, h.rv]
theorem RL.kind {w W : World} {c : Cls} {rc : Array Value} (h : RL w W c rc) : W.cell? ⟨w.heap.size, 1, none⟩ = some (.int .i64 c.kind) := by simp [World.cell?, h.cb, clsC]
theorem RL.cell {w W : World} {c : Cls} {rc : Array Value} (h : RL w W c rc) (k : Nat) : W.cell? ⟨w.heap.size + 2, k, none⟩ = rc[k]? := by simp [World.cell?, h.rv]
theorem RL.fz {w W : World} {c : Cls} {rc : Array Value} (h : RL w W c rc) (k : Nat) : W.frozen? ⟨w.heap.size + 2, k, none⟩ = false := by simp [World.frozen?, h.rv]
theorem RL.ocell {w W : World} {c : Cls} {rc : Array Value} (h : RL w W c rc) : (W.cell? ⟨w.heap.size + 1, 0, none⟩ = some (.int .i64 0) ∧ W.cell? ⟨w.heap.size + 1, 1, none⟩ = some (.int .u16 0) ∧ W.cell? ⟨w.heap.size + 1, 2, none⟩ = some (.bool false) ∧ W.cell? ⟨w.heap.size + 1, 3, none⟩ = some (.string ⟨#[]⟩) ∧ W.cell? ⟨w.heap.size + 1, 4, none⟩ = some (.string ⟨#[]⟩) ∧ W.cell? ⟨w.heap.size + 1, 5, none⟩ = some (.string ⟨#[]⟩) ∧ W.cell? ⟨w.heap.size + 1, 6, none⟩ = some (.slice none 0 0)) ∧ ∀ k, W.frozen? ⟨w.heap.size + 1, k, none⟩ = false := by
 simp [World.cell?, World.frozen?, h.ob]
theorem set7 {w W : World} (h : Below w.heap.size w W) (a b c d e f g : Value) : Below w.heap.size w (((((((W.setCell ⟨w.heap.size + 1, 0, none⟩ a).setCell ⟨w.heap.size + 1, 1, none⟩ b).setCell ⟨w.heap.size + 1, 2, none⟩ c).setCell ⟨w.heap.size + 1, 3, none⟩ d).setCell ⟨w.heap.size + 1, 4, none⟩ e).setCell ⟨w.heap.size + 1, 5, none⟩ f).setCell ⟨w.heap.size + 1, 6, none⟩ g) := by
 exact ((((((h.setCell (p := ⟨w.heap.size + 1, 0, none⟩) (by simp) _).setCell (p := ⟨w.heap.size + 1, 1, none⟩) (by simp) _).setCell (p := ⟨w.heap.size + 1, 2, none⟩) (by simp) _).setCell (p := ⟨w.heap.size + 1, 3, none⟩) (by simp) _).setCell (p := ⟨w.heap.size + 1, 4, none⟩) (by simp) _).setCell (p := ⟨w.heap.size + 1, 5, none⟩) (by simp) _).setCell (p := ⟨w.heap.size + 1, 6, none⟩) (by simp) _
theorem fnx_set7 {w W : World} {v : Value} {l : List Int} {C : Array Value} (h : FNx w.heap.size W v l) (hb : W.heap[w.heap.size + 1]? = some (.cells C 79 (0, 0))) (x0 x1 x2 x3 x4 x5 x6 : Value) : FNx w.heap.size (((((((W.setCell ⟨w.heap.size + 1, 0, none⟩ x0).setCell ⟨w.heap.size + 1, 1, none⟩ x1).setCell ⟨w.heap.size + 1, 2, none⟩ x2).setCell ⟨w.heap.size + 1, 3, none⟩ x3).setCell ⟨w.heap.size + 1, 4, none⟩ x4).setCell ⟨w.heap.size + 1, 5, none⟩ x5).setCell ⟨w.heap.size + 1, 6, none⟩ x6) v l := by
 refine fnx_kept h fun gg cur hgg => ?_
 have hne : gg ≠ w.heap.size + 1 := by
  rintro rfl
  rw [hb] at hgg
  injection hgg with hgg
  injection hgg with _ hgg _
  exact absurd hgg (by decide)
 rw [Below.heap_setCell _ _ _ _ hne, Below.heap_setCell _ _ _ _ hne, Below.heap_setCell _ _ _ _ hne, Below.heap_setCell _ _ _ _ hne, Below.heap_setCell _ _ _ _ hne, Below.heap_setCell _ _ _ _ hne, Below.heap_setCell _ _ _ _ hne]
theorem rule_len {F : Fil} {l : Nat} {c : Cls} {row : List Bs} (h : row.length ≠ 4 ∧ row.length ≠ 5) : rule F l c row = .error (l, 111) := by unfold rule; rw [if_pos h]
theorem rule_p {F : Fil} {l : Nat} {c : Cls} {row : List Bs} {e : Er} (h : ¬ (row.length ≠ 4 ∧ row.length ≠ 5)) (hp : piece0 l (fld row 2) = .error e) : rule F l c row = .error e := by unfold rule; rw [if_neg h, hp]
theorem rule_a {F : Fil} {l : Nat} {c : Cls} {row : List Bs} {e : Er} {s : Bs} (h : ¬ (row.length ≠ 4 ∧ row.length ≠ 5)) (hp : piece0 l (fld row 2) = .ok s) (ha : added F l c.kind (fld row 3) = .error e) : rule F l c row = .error e := by unfold rule; rw [if_neg h, hp]; simp [ha]
theorem rule_4 {F : Fil} {l : Nat} {c : Cls} {row : List Bs} {s : Bs} {p : Bs × List Int} (h : row.length = 4) (hp : piece0 l (fld row 2) = .ok s) (ha : added F l c.kind (fld row 3) = .ok p) : rule F l c row = .ok ⟨c.kind, c.flag, c.cross, s, p.1, [46], p.2, l⟩ := by unfold rule; rw [if_neg (by omega), hp]; simp [ha, h]
theorem rule_c {F : Fil} {l : Nat} {c : Cls} {row : List Bs} {s : Bs} {p : Bs × List Int} {e : Er} (h : row.length = 5) (hp : piece0 l (fld row 2) = .ok s) (ha : added F l c.kind (fld row 3) = .ok p) (hc : condn l (fld row 4) = .error e) : rule F l c row = .error e := by unfold rule; rw [if_neg (by omega), hp]; simp [ha, h, hc]
theorem rule_5 {F : Fil} {l : Nat} {c : Cls} {row : List Bs} {s k : Bs} {p : Bs × List Int} (h : row.length = 5) (hp : piece0 l (fld row 2) = .ok s) (ha : added F l c.kind (fld row 3) = .ok p) (hc : condn l (fld row 4) = .ok k) : rule F l c row = .ok ⟨c.kind, c.flag, c.cross, s, p.1, k, p.2, l⟩ := by unfold rule; rw [if_neg (by omega), hp]; simp [ha, h, hc]
theorem fld_get {row : List Bs} {i : Nat} (h : i < row.length) : row[i]? = some (fld row i) := by unfold fld; rw [List.getElem?_eq_getElem h]; rfl
theorem rule_bad {B rb n : Nat} {R : Rdr} {P : Pts} {w : World} (h : RAt B w rb R P) (c : Cls) (row : List Bs) (fv : Value) (hrow : StrRow n w fv (row.map Fld.str)) (hlen : row.length ≠ 4 ∧ row.length ≠ 5) :
  Calls Tryz.prog 106 #[ptr rb, clsV c, fv] w (URes w (rule R.file R.line c row)) := by
 obtain ⟨d0, -, hl, -, -, -, -⟩ := h.cells
 have hb := h.lt
 obtain ⟨g, cap, rfl, hg, h1, h2, -, hcl⟩ := str_cells hrow
 unfold maxLen at h2
 unfold clsV
 have n4 : ¬ ((row.length : Int) = 4) := by omega
 have n5 : ¬ ((row.length : Int) = 5) := by omega
 have HX := hide (rule_len (F := R.file) (l := R.line) (c := c) hlen)
 have HL := hide hl
 clear hlen h hrow hcl hl
 generalize row.length = N at *
 go_enter Tryz.func106, Tryz.ntmps106
 go_wp2_with fail
 refine gen_call ?_
 intro W hW
 have hbw : Below w.heap.size w W := by rw [hW]; (repeat (first | exact Below.refl _ _ | refine Below.drew ?_ | refine Below.alloc ?_ (by first | (simp; done) | (simp; omega)) _ | refine Below.setCell ?_ (by first | (simp; done) | (simp; omega)) _))
 refine (leaveIf_t rb R.line _ 111 W (by simp [n4, n5]) (by decide) (by decide) (lineB (unhide HL) hb hbw)).mono ?_
 rintro e w2 ⟨rfl, rfl⟩
 exact ⟨rfl, URes.no (unhide HX) hbw⟩
theorem rule_go4 {B rb n : Nat} {R : Rdr} {P : Pts} {w : World} (h : RAt B w rb R P) (hM : Mx B w) (c : Cls) (row : List Bs) (fv : Value) (hrow : StrRow n w fv (row.map Fld.str)) (hf : ∀ f ∈ row, f.length ≤ 65536) (hN : row.length = 4) :
  Calls Tryz.prog 106 #[ptr rb, clsV c, fv] w (URes w (rule R.file R.line c row)) := by
 obtain ⟨d0, -, hl, -, -, -, -⟩ := h.cells
 have hb := h.lt
 obtain ⟨g, cap, rfl, hg, h1, h2, -, hcl⟩ := str_cells hrow
 unfold maxLen at h2
 unfold clsV
 have hlen : ¬ (row.length ≠ 4 ∧ row.length ≠ 5) := by omega
 have q2 := hcl 2 _ (fld_get (by omega))
 have q3 := hcl 3 _ (fld_get (by omega))
 have hf2 := hf _ (List.mem_of_getElem? (fld_get (row := row) (i := 2) (by omega)))
 have hf3 := hf _ (List.mem_of_getElem? (fld_get (row := row) (i := 3) (by omega)))
 have HP := hide (fun W (b : Below w.heap.size w W) => piece0_any rb R.line (Fld.str (fld row 2)) W (by rw [fstr_wd, Wd.str_size]; omega) (Nat.lt_of_lt_of_le hb b.size) (lineB hl hb b))
 have HA := hide (fun W (b : Below w.heap.size w W) => added_all (h.below b) (hM.low (b.mono h.base)) c.kind (Fld.str (fld row 3)) (by rw [fstr_wd, Wd.str_size]; omega))
 have e2 : (Fld.str (fld row 2)).data.toList = fld row 2 := by simp [Fld.str]
 have e3 : (Fld.str (fld row 3)).data.toList = fld row 3 := by simp [Fld.str]
 rw [e2] at HP
 rw [e3] at HA
 have qa : ∀ a b d : Obj, (((w.alloc a).alloc b).alloc d).cell? ⟨g, 2, none⟩ = some (.string (Fld.str (fld row 2))) := fun a b d => ((((Below.refl _ w).alloc (Nat.le_refl _) a).alloc (by simp) b).alloc (by simp; omega) d).cell (p := ⟨g, 2, none⟩) hg |>.trans q2
 clear e2 e3 hf2 hf3 hf h hM hrow hcl hl
 generalize Fld.str (fld row 2) = r2 at *
 generalize Fld.str (fld row 3) = r3 at *
 cases hp : piece0 R.line (fld row 2) with
 | error er =>
  have HX := hide (rule_p (F := R.file) (c := c) hlen hp)
  have HPP := hide (fun W b => noOf (unhide HP W b) hp)
  clear HP HA hp q3 d0
  clear hlen 
  have HNN := hide hN
  rw [hN] at h1 ⊢
  clear hN
  go_enter Tryz.func106, Tryz.ntmps106
  go_wp2_with (go_at_call 82; refine (leaveIf_f _ _ _ _ rfl).mono ?_; rintro e w2 ⟨rfl, rfl⟩)
  refine gen_call ?_
  intro W hW
  have HRL : Hid (RL w W c #[.int .i64 c.kind, .int .u16 c.flag, .bool c.cross, .string ⟨#[]⟩, .string ⟨#[]⟩, .string ⟨#[46]⟩, .slice none 0 0]) := by
   rw [hW]
   exact RL.start w c
  clear hW
  refine (unhide HPP W (unhide HRL).b).mono ?_
  rintro e w2 ⟨rfl, b2⟩
  exact ⟨rfl, URes.no (unhide HX) (btr (unhide HRL).b b2)⟩
 | ok s =>
  have HPP := hide (fun W b => okOf (unhide HP W b) hp)
  cases ha : added R.file R.line c.kind (fld row 3) with
  | error er =>
   have HX := hide (rule_a (F := R.file) (c := c) hlen hp ha)
   have HAA := hide (fun W b => aNo (unhide HA W b) ha)
   clear HP HA hp ha d0
   clear hlen 
   have HNN := hide hN
   rw [hN] at h1 ⊢
   clear hN
   go_enter Tryz.func106, Tryz.ntmps106
   go_wp2_with (go_at_call 82; refine (leaveIf_f _ _ _ _ rfl).mono ?_; rintro e w2 ⟨rfl, rfl⟩)
   refine gen_call ?_
   intro W hW
   have HRL : Hid (RL w W c #[.int .i64 c.kind, .int .u16 c.flag, .bool c.cross, .string ⟨#[]⟩, .string ⟨#[]⟩, .string ⟨#[46]⟩, .slice none 0 0]) := by
    rw [hW]
    exact RL.start w c
   clear hW
   refine (unhide HPP W (unhide HRL).b).mono ?_
   rintro e w2 ⟨rfl, b2⟩
   unfold strV
   have HR2 := hide ((unhide HRL).below b2)
   clear HRL b2 HPP
   have z := (unhide HR2).sz
   have hcl3 := (unhide HR2).cell 3
   have hz3 := (unhide HR2).fz 3
   simp at hcl3
   go_wp2_with fail
   refine gen_world ?_
   intro W2 hW2
   have HR3 : Hid (RL w W2 c #[.int .i64 c.kind, .int .u16 c.flag, .bool c.cross, .string (Wd.str s), .string ⟨#[]⟩, .string ⟨#[46]⟩, .slice none 0 0]) := by
    rw [hW2]
    exact (unhide HR2).set 3 _
   have k1 := (unhide HR3).kind
   have k3 : W2.cell? ⟨g, 3, none⟩ = some (.string r3) := ((unhide HR3).b.cell (p := ⟨g, 3, none⟩) hg).trans q3
   clear hW2 hcl3 hz3 HR2 z
   have HAW := hide (unhide HAA W2.drew (unhide HR3).b.drew)
   have HRD := hide (unhide HR3).drew
   have v4 := (unhide HR3).cell 4
   have v6 := (unhide HR3).cell 6
   have x4 := (unhide HR3).fz 4
   have x6 := (unhide HR3).fz 6
   simp at v4 v6
   go_region_law (refine step_no3 (by rfl) 136 _ _ _ _ (by rfl) (ptr rb) (.int .i64 c.kind) (.string r3) (by rfl) (by rfl) (by rfl) (ent_added _ _ _) (.tuple #[.string ⟨#[]⟩, .slice none 0 0]) ((unhide HAW).mono fun e w4 h4 => ⟨_, h4.1, rfl, URes.no (unhide HX) ((unhide HRD).b.trans (h4.2.mono (unhide HRD).b.size))⟩) ?_; intro HF)
   all_goals exact (unhide HF).elim
  | ok p =>
   have HAA := hide (fun W b => aOk (unhide HA W b) ha)
   clear HP HA d0
   have HPO := hide hp
   have HAO := hide ha
   clear hp ha
   clear hlen 
   have HNN := hide hN
   rw [hN] at h1 ⊢
   clear hN
   go_enter Tryz.func106, Tryz.ntmps106
   go_wp2_with (go_at_call 82; refine (leaveIf_f _ _ _ _ rfl).mono ?_; rintro e w2 ⟨rfl, rfl⟩)
   refine gen_call ?_
   intro W hW
   have HRL : Hid (RL w W c #[.int .i64 c.kind, .int .u16 c.flag, .bool c.cross, .string ⟨#[]⟩, .string ⟨#[]⟩, .string ⟨#[46]⟩, .slice none 0 0]) := by
    rw [hW]
    exact RL.start w c
   clear hW
   refine (unhide HPP W (unhide HRL).b).mono ?_
   rintro e w2 ⟨rfl, b2⟩
   unfold strV
   have HR2 := hide ((unhide HRL).below b2)
   clear HRL b2 HPP
   have z := (unhide HR2).sz
   have hcl3 := (unhide HR2).cell 3
   have hz3 := (unhide HR2).fz 3
   simp at hcl3
   go_wp2_with fail
   refine gen_world ?_
   intro W2 hW2
   have HR3 : Hid (RL w W2 c #[.int .i64 c.kind, .int .u16 c.flag, .bool c.cross, .string (Wd.str s), .string ⟨#[]⟩, .string ⟨#[46]⟩, .slice none 0 0]) := by
    rw [hW2]
    exact (unhide HR2).set 3 _
   have k1 := (unhide HR3).kind
   have k3 : W2.cell? ⟨g, 3, none⟩ = some (.string r3) := ((unhide HR3).b.cell (p := ⟨g, 3, none⟩) hg).trans q3
   clear hW2 hcl3 hz3 HR2 z
   have HAW := hide (unhide HAA W2.drew (unhide HR3).b.drew)
   have HRD := hide (unhide HR3).drew
   have v4 := (unhide HR3).cell 4
   have v6 := (unhide HR3).cell 6
   have x4 := (unhide HR3).fz 4
   have x6 := (unhide HR3).fz 6
   simp at v4 v6
   go_region_with (go_at_call 136; refine (unhide HAW).mono ?_; rintro e w4 ⟨u, rfl, f4, b4⟩; obtain ⟨ao, cp, rfl, -⟩ := f4.arg; have HR4 := hide ((unhide HRD).below b4); have y4 := (unhide HR4).cell 4; have y6 := (unhide HR4).cell 6; have z4 := (unhide HR4).fz 4; have z6 := (unhide HR4).fz 6; simp at y4 y6; have F4 := hide f4; have B4 := hide b4; clear f4 b4)
   
   all_goals
    refine gen_then ?_
    intro V hV
    have HR5 : Hid (RL w V c #[.int .i64 c.kind, .int .u16 c.flag, .bool c.cross, .string (Wd.str s), .string (Wd.str p.1), .string ⟨#[46]⟩, .slice ao p.2.length cp]) := by
     rw [hV]
     first | exact ((unhide HR4).set 4 _).set 6 _ | exact ((unhide HR4).set 6 _).set 4 _
    have F5 : Hid (FNx w.heap.size V (.slice ao p.2.length cp) p.2) := by
     refine fnx_kept ((unhide F4).low (unhide HRD).b.size) fun gg cur hgg => ?_
     rw [hV]
     have hne : gg ≠ w.heap.size + 2 := by
      rintro rfl
      rw [(unhide HR4).rv] at hgg
      injection hgg with hgg
      injection hgg with _ hgg _
      exact absurd hgg (by decide)
     first | rw [Below.heap_setCell _ _ _ _ hne, Below.heap_setCell _ _ _ _ hne]
    clear hV HR4 F4 B4 HRD HR3 y4 y6 z4 z6 v4 v6 x4 x6 k1 k3 HAW HAA
    have HX := hide (rule_4 (F := R.file) (c := c) (unhide HNN) (unhide HPO) (unhide HAO))
    obtain ⟨p0, p1, p2, p3, p4, p5, p6⟩ := (unhide HR5).cells
    obtain ⟨⟨o0, o1, o2, o3, o4, o5, o6⟩, oz⟩ := (unhide HR5).ocell
    have sz := (unhide HR5).sz
    have HBE := hide (unhide HR5).b
    have HFE := hide (unhide F5)
    have HOB := hide (unhide HR5).ob
    clear HR5 F5
    go_wp2
    refine bodyPost_ret (v := .agg #[.int .i64 c.kind, .int .u16 c.flag, .bool c.cross, .string (Wd.str s), .string (Wd.str p.1), .string (Wd.str [46]), .slice ao p.2.length cp]) (by simp [results, Tryz.results106, go_sem, o0, o1, o2, o3, o4, o5, o6] <;> rfl) rfl ?_
    refine URes.yes (u := .slice ao p.2.length cp) (unhide HX) ?_ (fnx_set7 (unhide HFE) (unhide HOB) _ _ _ _ _ _ _)
    exact set7 (unhide HBE) _ _ _ _ _ _ _
theorem rule_go5 {B rb n : Nat} {R : Rdr} {P : Pts} {w : World} (h : RAt B w rb R P) (hM : Mx B w) (c : Cls) (row : List Bs) (fv : Value) (hrow : StrRow n w fv (row.map Fld.str)) (hf : ∀ f ∈ row, f.length ≤ 65536) (hN : row.length = 5) :
  Calls Tryz.prog 106 #[ptr rb, clsV c, fv] w (URes w (rule R.file R.line c row)) := by
 obtain ⟨d0, -, hl, -, -, -, -⟩ := h.cells
 have hb := h.lt
 obtain ⟨g, cap, rfl, hg, h1, h2, -, hcl⟩ := str_cells hrow
 unfold maxLen at h2
 unfold clsV
 have hlen : ¬ (row.length ≠ 4 ∧ row.length ≠ 5) := by omega
 have q2 := hcl 2 _ (fld_get (by omega))
 have q3 := hcl 3 _ (fld_get (by omega))
 have hf2 := hf _ (List.mem_of_getElem? (fld_get (row := row) (i := 2) (by omega)))
 have hf3 := hf _ (List.mem_of_getElem? (fld_get (row := row) (i := 3) (by omega)))
 have HP := hide (fun W (b : Below w.heap.size w W) => piece0_any rb R.line (Fld.str (fld row 2)) W (by rw [fstr_wd, Wd.str_size]; omega) (Nat.lt_of_lt_of_le hb b.size) (lineB hl hb b))
 have HA := hide (fun W (b : Below w.heap.size w W) => added_all (h.below b) (hM.low (b.mono h.base)) c.kind (Fld.str (fld row 3)) (by rw [fstr_wd, Wd.str_size]; omega))
 have e2 : (Fld.str (fld row 2)).data.toList = fld row 2 := by simp [Fld.str]
 have e3 : (Fld.str (fld row 3)).data.toList = fld row 3 := by simp [Fld.str]
 rw [e2] at HP
 rw [e3] at HA
 have q4 := hcl 4 _ (fld_get (by omega))
 have hf4 := hf _ (List.mem_of_getElem? (fld_get (row := row) (i := 4) (by omega)))
 have HC := hide (fun W (b : Below w.heap.size w W) => condition_any rb R.line (Fld.str (fld row 4)) W (by rw [fstr_wd, Wd.str_size]; omega) (Nat.lt_of_lt_of_le hb b.size) (lineB hl hb b))
 have e4 : (Fld.str (fld row 4)).data.toList = fld row 4 := by simp [Fld.str]
 rw [e4] at HC
 clear e4 hf4
 have qa : ∀ a b d : Obj, (((w.alloc a).alloc b).alloc d).cell? ⟨g, 2, none⟩ = some (.string (Fld.str (fld row 2))) := fun a b d => ((((Below.refl _ w).alloc (Nat.le_refl _) a).alloc (by simp) b).alloc (by simp; omega) d).cell (p := ⟨g, 2, none⟩) hg |>.trans q2
 clear e2 e3 hf2 hf3 hf h hM hrow hcl hl
 generalize Fld.str (fld row 2) = r2 at *
 generalize Fld.str (fld row 3) = r3 at *
 generalize Fld.str (fld row 4) = r4 at *
 cases hp : piece0 R.line (fld row 2) with
 | error er =>
  have HX := hide (rule_p (F := R.file) (c := c) hlen hp)
  have HPP := hide (fun W b => noOf (unhide HP W b) hp)
  clear HP HA hp q3 d0 HC q4
  clear hlen 
  have HNN := hide hN
  rw [hN] at h1 ⊢
  clear hN
  go_enter Tryz.func106, Tryz.ntmps106
  go_wp2_with (go_at_call 82; refine (leaveIf_f _ _ _ _ rfl).mono ?_; rintro e w2 ⟨rfl, rfl⟩)
  refine gen_call ?_
  intro W hW
  have HRL : Hid (RL w W c #[.int .i64 c.kind, .int .u16 c.flag, .bool c.cross, .string ⟨#[]⟩, .string ⟨#[]⟩, .string ⟨#[46]⟩, .slice none 0 0]) := by
   rw [hW]
   exact RL.start w c
  clear hW
  refine (unhide HPP W (unhide HRL).b).mono ?_
  rintro e w2 ⟨rfl, b2⟩
  exact ⟨rfl, URes.no (unhide HX) (btr (unhide HRL).b b2)⟩
 | ok s =>
  have HPP := hide (fun W b => okOf (unhide HP W b) hp)
  cases ha : added R.file R.line c.kind (fld row 3) with
  | error er =>
   have HX := hide (rule_a (F := R.file) (c := c) hlen hp ha)
   have HAA := hide (fun W b => aNo (unhide HA W b) ha)
   clear HP HA hp ha d0 HC q4
   clear hlen 
   have HNN := hide hN
   rw [hN] at h1 ⊢
   clear hN
   go_enter Tryz.func106, Tryz.ntmps106
   go_wp2_with (go_at_call 82; refine (leaveIf_f _ _ _ _ rfl).mono ?_; rintro e w2 ⟨rfl, rfl⟩)
   refine gen_call ?_
   intro W hW
   have HRL : Hid (RL w W c #[.int .i64 c.kind, .int .u16 c.flag, .bool c.cross, .string ⟨#[]⟩, .string ⟨#[]⟩, .string ⟨#[46]⟩, .slice none 0 0]) := by
    rw [hW]
    exact RL.start w c
   clear hW
   refine (unhide HPP W (unhide HRL).b).mono ?_
   rintro e w2 ⟨rfl, b2⟩
   unfold strV
   have HR2 := hide ((unhide HRL).below b2)
   clear HRL b2 HPP
   have z := (unhide HR2).sz
   have hcl3 := (unhide HR2).cell 3
   have hz3 := (unhide HR2).fz 3
   simp at hcl3
   go_wp2_with fail
   refine gen_world ?_
   intro W2 hW2
   have HR3 : Hid (RL w W2 c #[.int .i64 c.kind, .int .u16 c.flag, .bool c.cross, .string (Wd.str s), .string ⟨#[]⟩, .string ⟨#[46]⟩, .slice none 0 0]) := by
    rw [hW2]
    exact (unhide HR2).set 3 _
   have k1 := (unhide HR3).kind
   have k3 : W2.cell? ⟨g, 3, none⟩ = some (.string r3) := ((unhide HR3).b.cell (p := ⟨g, 3, none⟩) hg).trans q3
   clear hW2 hcl3 hz3 HR2 z
   have HAW := hide (unhide HAA W2.drew (unhide HR3).b.drew)
   have HRD := hide (unhide HR3).drew
   have v4 := (unhide HR3).cell 4
   have v6 := (unhide HR3).cell 6
   have x4 := (unhide HR3).fz 4
   have x6 := (unhide HR3).fz 6
   simp at v4 v6
   go_region_law (refine step_no3 (by rfl) 136 _ _ _ _ (by rfl) (ptr rb) (.int .i64 c.kind) (.string r3) (by rfl) (by rfl) (by rfl) (ent_added _ _ _) (.tuple #[.string ⟨#[]⟩, .slice none 0 0]) ((unhide HAW).mono fun e w4 h4 => ⟨_, h4.1, rfl, URes.no (unhide HX) ((unhide HRD).b.trans (h4.2.mono (unhide HRD).b.size))⟩) ?_; intro HF)
   all_goals exact (unhide HF).elim
  | ok p =>
   have HAA := hide (fun W b => aOk (unhide HA W b) ha)
   clear HP HA d0
   have HPO := hide hp
   have HAO := hide ha
   clear hp ha
   clear hlen 
   have HNN := hide hN
   rw [hN] at h1 ⊢
   clear hN
   go_enter Tryz.func106, Tryz.ntmps106
   go_wp2_with (go_at_call 82; refine (leaveIf_f _ _ _ _ rfl).mono ?_; rintro e w2 ⟨rfl, rfl⟩)
   refine gen_call ?_
   intro W hW
   have HRL : Hid (RL w W c #[.int .i64 c.kind, .int .u16 c.flag, .bool c.cross, .string ⟨#[]⟩, .string ⟨#[]⟩, .string ⟨#[46]⟩, .slice none 0 0]) := by
    rw [hW]
    exact RL.start w c
   clear hW
   refine (unhide HPP W (unhide HRL).b).mono ?_
   rintro e w2 ⟨rfl, b2⟩
   unfold strV
   have HR2 := hide ((unhide HRL).below b2)
   clear HRL b2 HPP
   have z := (unhide HR2).sz
   have hcl3 := (unhide HR2).cell 3
   have hz3 := (unhide HR2).fz 3
   simp at hcl3
   go_wp2_with fail
   refine gen_world ?_
   intro W2 hW2
   have HR3 : Hid (RL w W2 c #[.int .i64 c.kind, .int .u16 c.flag, .bool c.cross, .string (Wd.str s), .string ⟨#[]⟩, .string ⟨#[46]⟩, .slice none 0 0]) := by
    rw [hW2]
    exact (unhide HR2).set 3 _
   have k1 := (unhide HR3).kind
   have k3 : W2.cell? ⟨g, 3, none⟩ = some (.string r3) := ((unhide HR3).b.cell (p := ⟨g, 3, none⟩) hg).trans q3
   clear hW2 hcl3 hz3 HR2 z
   have HAW := hide (unhide HAA W2.drew (unhide HR3).b.drew)
   have HRD := hide (unhide HR3).drew
   have v4 := (unhide HR3).cell 4
   have v6 := (unhide HR3).cell 6
   have x4 := (unhide HR3).fz 4
   have x6 := (unhide HR3).fz 6
   simp at v4 v6
   go_region_with (go_at_call 136; refine (unhide HAW).mono ?_; rintro e w4 ⟨u, rfl, f4, b4⟩; obtain ⟨ao, cp, rfl, -⟩ := f4.arg; have HR4 := hide ((unhide HRD).below b4); have y4 := (unhide HR4).cell 4; have y6 := (unhide HR4).cell 6; have z4 := (unhide HR4).fz 4; have z6 := (unhide HR4).fz 6; simp at y4 y6; have F4 := hide f4; have B4 := hide b4; clear f4 b4)
   
   all_goals
    refine gen_then ?_
    intro V hV
    have HR5 : Hid (RL w V c #[.int .i64 c.kind, .int .u16 c.flag, .bool c.cross, .string (Wd.str s), .string (Wd.str p.1), .string ⟨#[46]⟩, .slice ao p.2.length cp]) := by
     rw [hV]
     first | exact ((unhide HR4).set 4 _).set 6 _ | exact ((unhide HR4).set 6 _).set 4 _
    have F5 : Hid (FNx w.heap.size V (.slice ao p.2.length cp) p.2) := by
     refine fnx_kept ((unhide F4).low (unhide HRD).b.size) fun gg cur hgg => ?_
     rw [hV]
     have hne : gg ≠ w.heap.size + 2 := by
      rintro rfl
      rw [(unhide HR4).rv] at hgg
      injection hgg with hgg
      injection hgg with _ hgg _
      exact absurd hgg (by decide)
     first | rw [Below.heap_setCell _ _ _ _ hne, Below.heap_setCell _ _ _ _ hne]
    clear hV HR4 F4 B4 HRD HR3 y4 y6 z4 z6 v4 v6 x4 x6 k1 k3 HAW HAA
    have m4 : V.cell? ⟨g, 4, none⟩ = some (.string r4) := ((unhide HR5).b.cell (p := ⟨g, 4, none⟩) hg).trans q4
    cases hc : condn R.line (fld row 4) with
    | error er =>
     have HX := hide (rule_c (F := R.file) (c := c) (unhide HNN) (unhide HPO) (unhide HAO) hc)
     have HCC := hide (noOf (unhide HC V (unhide HR5).b) hc)
     clear HC hc
     go_wp2_with (go_at_call 137; refine (unhide HCC).mono ?_; rintro e w6 ⟨rfl, b6⟩)
     exact ⟨rfl, URes.no (unhide HX) (btr (unhide HR5).b b6)⟩
    | ok cn =>
     have HX := hide (rule_5 (F := R.file) (c := c) (unhide HNN) (unhide HPO) (unhide HAO) hc)
     have HCC := hide (okOf (unhide HC V (unhide HR5).b) hc)
     clear HC hc
     unfold strV at HCC
     go_wp2_with (go_at_call 137; refine (unhide HCC).mono ?_; rintro e w6 ⟨rfl, b6⟩; have HR6 := hide ((unhide HR5).below b6); have F6 := hide (fnx_kept (unhide F5) (below_kept b6)); have tz := (unhide HR6).fz 5; obtain ⟨p0, p1, p2, p3, p4, p5, p6⟩ := (unhide HR6).cells; obtain ⟨⟨o0, o1, o2, o3, o4, o5, o6⟩, oz⟩ := (unhide HR6).ocell; have sz := (unhide HR6).sz; clear b6 HR5 F5)
     have HR7 := (unhide HR6).set 5 (.string (Wd.str cn))
     have F7 : FNx w.heap.size (w6.setCell ⟨w.heap.size + 2, 5, none⟩ (.string (Wd.str cn))) (.slice ao p.2.length cp) p.2 := by
      refine fnx_kept (unhide F6) fun gg cur hgg => Below.heap_setCell _ _ _ _ ?_
      rintro rfl
      rw [(unhide HR6).rv] at hgg
      injection hgg with hgg
      injection hgg with _ hgg _
      exact absurd hgg (by decide)
     refine bodyPost_ret (v := .agg #[.int .i64 c.kind, .int .u16 c.flag, .bool c.cross, .string (Wd.str s), .string (Wd.str p.1), .string (Wd.str cn), .slice ao p.2.length cp]) (by simp [results, Tryz.results106, go_sem, o0, o1, o2, o3, o4, o5, o6]) rfl ?_
     exact URes.yes (u := .slice ao p.2.length cp) (unhide HX) (set7 HR7.b _ _ _ _ _ _ _) (fnx_set7 F7 HR7.ob _ _ _ _ _ _ _)
theorem rule_any {B rb n : Nat} {R : Rdr} {P : Pts} {w : World} (h : RAt B w rb R P) (hM : Mx B w) (c : Cls) (row : List Bs) (fv : Value) (hrow : StrRow n w fv (row.map Fld.str)) (hf : ∀ f ∈ row, f.length ≤ 65536) :
  Calls Tryz.prog 106 #[ptr rb, clsV c, fv] w (URes w (rule R.file R.line c row)) := by
 by_cases h4 : row.length = 4
 ·exact rule_go4 h hM c row fv hrow hf h4
 ·by_cases h5 : row.length = 5
  ·exact rule_go5 h hM c row fv hrow hf h5
  ·exact rule_bad h c row fv hrow ⟨h4, h5⟩
end Af
end Go.Proofs.YtidhbhdcoanfcaaGreatDoor
