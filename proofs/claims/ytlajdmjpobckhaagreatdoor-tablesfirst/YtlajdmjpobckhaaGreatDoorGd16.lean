/- The reader and the file in memory; what stays when one block is turned. No walk. -/
import Derived.Test.YtlajdmjpobckhaaGreatDoorGd14
import Derived.Test.YtlajdmjpobckhaaGreatDoorGd15
import Derived.Lib.OwnKind
import Derived.Lib.SliceRun
import Derived.Shelf.SlicesE.Index
import Derived.Shelf.SlicesE.Compact
import Derived.Test.YtlajdmjpobckhaaGreatDoorProg
namespace Go.Proofs.YtlajdmjpobckhaaGreatDoor
open Go.RowKit
namespace Af
open RowB

/-- the rows that are still to be read -/
def RowsAt (B : Nat) (w : World) (v : Value) (R : List (Nat × List Bs)) : Prop :=
  ∃ ao cap, v = .slice ao R.length cap ∧ R.length ≤ cap ∧ cap ≤ maxLen ∧ (ao = none → cap = 0) ∧
    (R ≠ [] → ∃ g off cur, ao = some ⟨g, off, none⟩ ∧ B ≤ g ∧ w.heap[g]? = some (.cells cur 131 (0, 0)) ∧
      ∀ (j : Nat) (l : Nat) (fs : List Bs), R[j]? = some (l, fs) → ∃ fv, cur[off + 2 * j]? = some (.int .i64 (l : Nat)) ∧ cur[off + 2 * j + 1]? = some fv ∧ StrRow B w fv (fs.map Fld.str) ∧ fs ≠ [])
/-- a set of flags, new or nil -/
def FNx (B : Nat) (w : World) (v : Value) (l : List Int) : Prop := (v = .slice none 0 0 ∧ l = []) ∨ So.FRow B w v l
def repC (p : Bs × Bs) : List Value := [.string (Wd.str p.1), .string (Wd.str p.2)]
def clsC (c : Cls) : List Value := [.int .u16 c.flag, .int .i64 c.kind, .bool c.cross, .int .i64 (c.first : Nat), .int .i64 (c.count : Nat)]
def rulC (r : Rul) (v : Value) : List Value := [.int .i64 r.kind, .int .u16 r.flag, .bool r.cross, .string (Wd.str r.strip), .string (Wd.str r.add), .string (Wd.str r.cond), v]
def linC (r : Rul) : Value := .int .i64 (r.line : Nat)
/-- what stands in a file's cells -/
structure Pts where
  fb : Nat
  pm : Nat
  hm : Nat
  rv : Value
  vr : Value
  va : Value
  vc : Value
  vu : Value
  vl : Value
  av : List Value
  nv : List Value
def filC (F : Fil) (P : Pts) : Array Value :=
  #[.int .i64 F.kind, .string (Wd.str F.charset), .string (Wd.str F.letters), .int .u16 (F.specials.getD 0 0), .int .u16 (F.specials.getD 1 0), .int .u16 (F.specials.getD 2 0), .int .u16 (F.specials.getD 3 0), .int .u16 (F.specials.getD 4 0), .int .i64 (F.least : Nat), P.vr, P.va, P.vc, P.vu, .map (some P.pm)]
def rdrC (R : Rdr) (P : Pts) : Array Value := #[.pointer (some ⟨P.fb, 0, none⟩), P.rv, .int .i64 (R.line : Nat), .int .i64 (R.behind : Nat), .map (some P.hm), P.vl]
/-- which class a flag has -/
def plc (C : List Cls) : Lit → Option Value
  | .int .u16 x => (findC C x).map fun i => .int .i64 (i : Nat)
  | _ => none
/-- how often a keyword stood -/
def cnt (H : List Bs) : Lit → Option Value
  | .string s => if s ∈ H then some (.int .i64 (H.count s : Nat)) else none
  | _ => none
/-- what a file is made of -/
structure FilOk (F : Fil) : Prop where
  kind : F.kind = 1 ∨ F.kind = 2 ∨ F.kind = 3
  spec : F.specials.length = 5
  specB : ∀ x ∈ F.specials, 0 ≤ x ∧ x ≤ 65535
  cls : ∀ c ∈ F.classes, 1 ≤ c.flag ∧ c.flag ≤ 65535
  reps : F.reps.length ≤ 256
  ali : F.aliases.length ≤ 1024
  aliS : ∀ a ∈ F.aliases, So.setOf a = a ∧ a.length ≤ 1048577
  rul : F.rules.length ≤ 1024
  len : F.charset.length ≤ 65536
/-- a file in memory -/
structure FAt (B : Nat) (w : World) (F : Fil) (P : Pts) : Prop where
  fbB : B ≤ P.fb
  pmB : B ≤ P.pm
  fil : w.heap[P.fb]? = some (.cells (filC F P) 111 (0, 0))
  plc : ∃ n, n ≤ F.classes.length ∧ MapF w 61 P.pm n (plc F.classes)
  reps : w.ownsRow B 114 2 P.vr F.reps.length (F.reps.flatMap repC)
  alis : w.ownsRow B 39 1 P.va F.aliases.length P.av
  aliF : P.av.length = F.aliases.length ∧ ∀ (i : Nat) v a, P.av[i]? = some v → F.aliases[i]? = some a → FNx B w v a
  clss : w.ownsRow B 117 5 P.vc F.classes.length (F.classes.flatMap clsC)
  ruls : w.ownsRow B 78 7 P.vu F.rules.length ((F.rules.zip P.nv).flatMap fun p => rulC p.1 p.2)
  rulF : P.nv.length = F.rules.length ∧ ∀ (i : Nat) v r, P.nv[i]? = some v → F.rules[i]? = some r → FNx B w v r.next
  ok : FilOk F
/-- rows as lines.Rows gives them -/
def RowsOk (R : List (Nat × List Bs)) : Prop := ∀ p ∈ R, p.1 ≤ 65536 ∧ p.2 ≠ [] ∧ ∀ f ∈ p.2, f.length ≤ 65536
/-- a reader in memory -/
structure RAt (B : Nat) (w : World) (rb : Nat) (R : Rdr) (P : Pts) : Prop where
  rbB : B ≤ rb
  hmB : B ≤ P.hm
  rdr : w.heap[rb]? = some (.cells (rdrC R P) 95 (0, 0))
  rows : RowsAt B w P.rv R.rows
  hds : ∃ n, n ≤ R.heads.length ∧ MapF w 9 P.hm n (cnt R.heads)
  hne : P.hm ≠ P.pm
  lns : w.ownsRow B 3 1 P.vl R.file.rules.length (R.file.rules.map linC)
  file : FAt B w R.file P
  few : R.heads.length ≤ 65536 ∧ R.behind ≤ 65537 ∧ R.line ≤ 65537
  rok : RowsOk R.rows

/-! what stays -/
theorem own_kept {W W' : World} {B : Nat} {e : TypeId} {size n : Nat} {v : Value} {xs : List Value} (h : W.ownsRow B e size v n xs) (hb : ∀ (g : Nat) (cur : Array Value), W.heap[g]? = some (.cells cur e (0, 0)) → W'.heap[g]? = W.heap[g]?) : W'.ownsRow B e size v n xs := by
  obtain ⟨hl, ⟨e1, e2⟩ | ⟨g, cap, cur, e1, h1, hg, r⟩⟩ := h
  · exact ⟨hl, .inl ⟨e1, e2⟩⟩
  · exact ⟨hl, .inr ⟨g, cap, cur, e1, h1, (hb g cur hg).trans hg, r⟩⟩
theorem str_kept {W W' : World} {B : Nat} {v : Value} {L : List ByteArray} (h : StrRow B W v L) (hb : ∀ (g : Nat) (cur : Array Value), W.heap[g]? = some (.cells cur 9 (0, 0)) → W'.heap[g]? = W.heap[g]?) : StrRow B W' v L := by
  obtain ⟨g, cap, cur, e, hg, hh, r⟩ := h
  exact ⟨g, cap, cur, e, hg, (hb g cur hh).trans hh, r⟩
theorem fnx_kept {W W' : World} {B : Nat} {v : Value} {l : List Int} (h : FNx B W v l) (hb : ∀ (g : Nat) (cur : Array Value), W.heap[g]? = some (.cells cur 61 (0, 0)) → W'.heap[g]? = W.heap[g]?) : FNx B W' v l := by
  rcases h with h | ⟨g, cap, cur, e, hg, hh, r⟩
  · exact .inl h
  · exact .inr ⟨g, cap, cur, e, hg, (hb g cur hh).trans hh, r⟩
theorem rows_kept {W W' : World} {B : Nat} {v : Value} {R : List (Nat × List Bs)} (h : RowsAt B W v R) (h1 : ∀ (g : Nat) (cur : Array Value), W.heap[g]? = some (.cells cur 131 (0, 0)) → W'.heap[g]? = W.heap[g]?) (h9 : ∀ (g : Nat) (cur : Array Value), W.heap[g]? = some (.cells cur 9 (0, 0)) → W'.heap[g]? = W.heap[g]?) : RowsAt B W' v R := by
  obtain ⟨ao, cap, e, a1, a2, a3, h⟩ := h
  refine ⟨ao, cap, e, a1, a2, a3, fun hn => ?_⟩
  obtain ⟨g, off, cur, e2, hg, hh, hc⟩ := h hn
  refine ⟨g, off, cur, e2, hg, (h1 g cur hh).trans hh, fun j l fs hj => ?_⟩
  obtain ⟨fv, c1, c2, c3, c4⟩ := hc j l fs hj
  exact ⟨fv, c1, c2, str_kept c3 h9, c4⟩
/-- everything but one block stays -/
theorem grown_kept {W W' : World} {g0 : Nat} {o0 : Obj} {t : TypeId} (hg : W.grownBy W' (some g0)) (h0 : W.heap[g0]? = some o0) (hne : ∀ cur, o0 ≠ .cells cur t (0, 0)) (g : Nat) (cur : Array Value) (h : W.heap[g]? = some (.cells cur t (0, 0))) : W'.heap[g]? = W.heap[g]? := by
  refine hg.block g (Array.getElem?_eq_some_iff.1 h).1 ?_
  rintro e
  injection e with e
  subst e
  rw [h0] at h
  exact hne cur (Option.some.inj h)
theorem below_kept {W W' : World} {t : TypeId} (hb : Below W.heap.size W W') (g : Nat) (cur : Array Value) (h : W.heap[g]? = some (.cells cur t (0, 0))) : W'.heap[g]? = W.heap[g]? := hb.block g (Array.getElem?_eq_some_iff.1 h).1
theorem FAt.below {B : Nat} {w w' : World} {F : Fil} {P : Pts} (h : FAt B w F P) (hb : Below w.heap.size w w') : FAt B w' F P := by
  obtain ⟨n, hn, hm⟩ := h.plc
  exact ⟨h.fbB, h.pmB, (below_kept hb _ _ h.fil).trans h.fil, ⟨n, hn, hm.kept (hb.block _ hm.lt)⟩, own_kept h.reps (below_kept hb), own_kept h.alis (below_kept hb), ⟨h.aliF.1, fun i v a h1 h2 => fnx_kept (h.aliF.2 i v a h1 h2) (below_kept hb)⟩, own_kept h.clss (below_kept hb), own_kept h.ruls (below_kept hb), ⟨h.rulF.1, fun i v a h1 h2 => fnx_kept (h.rulF.2 i v a h1 h2) (below_kept hb)⟩, h.ok⟩
theorem RAt.below {B : Nat} {w w' : World} {rb : Nat} {R : Rdr} {P : Pts} (h : RAt B w rb R P) (hb : Below w.heap.size w w') : RAt B w' rb R P := by
  obtain ⟨n, hn, hm⟩ := h.hds
  exact ⟨h.rbB, h.hmB, (below_kept hb _ _ h.rdr).trans h.rdr, rows_kept h.rows (below_kept hb) (below_kept hb), ⟨n, hn, hm.kept (hb.block _ hm.lt)⟩, h.hne, own_kept h.lns (below_kept hb), h.file.below hb, h.few, h.rok⟩
end Af
end Go.Proofs.YtlajdmjpobckhaaGreatDoor
/- The reader: what a rule adds, where no slash cuts the field; a rule. -/
namespace Go.Proofs.YtlajdmjpobckhaaGreatDoor
open Go.RowKit
namespace Af
theorem addW_zero {l : Nat} : addW l [48] = .ok [] := by unfold addW; rw [if_pos rfl]
theorem addW_no {l : Nat} {a : Bs} {e : Er} (h : a ≠ [48]) (hc : ckA l a = .error e) : addW l a = .error e := by unfold addW; rw [if_neg h, hc]
theorem addW_ok {l : Nat} {a : Bs} {u : Unit} (h : a ≠ [48]) (hc : ckA l a = .ok u) : addW l a = .ok a := by unfold addW; rw [if_neg h, hc]
theorem added_esc {F : Fil} {l : Nat} {k : Int} {f : Bs} (h : Wd.rd [] f = none) : added F l k f = .error (l, 20) := by unfold added; rw [h]
theorem added_no {F : Fil} {l : Nat} {k : Int} {f a r : Bs} {c : Bool} {e : Er} (h : Wd.rd [] f = some (a, r, c)) (ha : addW l a = .error e) : added F l k f = .error e := by unfold added; rw [h]; simp [ha]
theorem added_plain {F : Fil} {l : Nat} {k : Int} {f a r d : Bs} (h : Wd.rd [] f = some (a, r, false)) (ha : addW l a = .ok d) : added F l k f = .ok (d, []) := by unfold added; rw [h]; simp [ha]
def addV (p : Bs × List Int) : Value := .tuple #[.string (Wd.str p.1), .slice none 0 0]
set_option maxHeartbeats 1000000 in
theorem added_any (rb l : Nat) (F : Fil) (k : Int) (s : ByteArray) (w : World) (hs : s.size ≤ 65536) (hb : rb < w.heap.size) (hl : LineAt w rb l) (hn : ∀ a r, Wd.rd [] s.data.toList ≠ some (a, r, true)) :
    Calls Tryz.prog 132 #[ptr rb, .int .i64 k, .string s] w fun e w' => e = endX addV (added F l k s.data.toList) ∧ Below w.heap.size w w' := by
  have hR := RdW.read_any s w (by omega)
  rcases hr : Wd.rd [] s.data.toList with _ | ⟨a, r, c⟩
  · rw [added_esc hr]
    rw [hr] at hR
    have HR := hide hR
    have HV := hide (fun w2 (b2 : Below w.heap.size w w2) => leave_no rb l 20 w2 (by decide) (by decide) (lineB hl hb b2))
    clear hR hl hr hs hn
    unfold RdW.ans at HR
    go_enter Tryz.func132, Tryz.ntmps132
    go_wp2_with (first | (go_at_call 109; refine (unhide HR).mono ?_; rintro e w2 ⟨rfl, b2⟩) | (go_at_call 69; refine (unhide HV _ b2).mono ?_; rintro e w3 ⟨rfl, rfl⟩))
    exact ⟨rfl, rfl, b2⟩
  · rw [hr] at hR
    have HR := hide hR
    unfold RdW.ans at HR
    have hz := rd_len0 hr
    have HL := hide (fun W => leave_ok (ptr rb) W)
    cases c with
    | true => exact absurd hr (hn a r)
    | false =>
      by_cases h48 : a = [48]
      · rw [added_plain hr (by rw [h48]; exact addW_zero)]
        have hq : ((Wd.str a).toList == [48]) = true := by rw [h48, Lib.toList_data]; rfl
        clear h48
        clear hR hl hr hs hz hn
        show Calls _ _ _ _ fun e w' => e = .returned (.tuple #[.string ⟨#[]⟩, .slice none 0 0]) ∧ _
        go_enter Tryz.func132, Tryz.ntmps132
        go_wp2_with (first | (go_at_call 109; refine (unhide HR).mono ?_; rintro e w2 ⟨rfl, b2⟩) | (go_at_call 69; refine (unhide HL _).mono ?_; rintro e w3 ⟨rfl, rfl⟩))
        go_ret2
        exact ⟨rfl, b2⟩
      have hne : ((Wd.str a).toList == [48]) = false := by
        rw [beq_eq_false_iff_ne, Lib.toList_data, Wd.str_list]
        exact h48
      have hA := fun w2 (b2 : Below w.heap.size w w2) => checkAffix_any rb l (Wd.str a) w2 (by omega) (Nat.lt_of_lt_of_le hb b2.size) (lineB hl hb b2)
      rw [Wd.str_list] at hA
      cases hc : ckA l a with
      | error er =>
        have HA := hide (fun w2 b2 => noOf (hA w2 b2) hc)
        rw [added_no hr (addW_no h48 hc)]
        clear hR hl hr hs hz hA hc hn h48
        go_enter Tryz.func132, Tryz.ntmps132
        go_wp2_with (first | (go_at_call 109; refine (unhide HR).mono ?_; rintro e w2 ⟨rfl, b2⟩) | (go_at_call 69; refine (unhide HL _).mono ?_; rintro e w3 ⟨rfl, rfl⟩) | (go_at_call 128; refine (unhide HA _ b2).mono ?_; rintro e w4 ⟨rfl, b4⟩))
        exact ⟨rfl, rfl, btr b2 b4⟩
      | ok u =>
        have HA := hide (fun w2 b2 => okOf (hA w2 b2) hc)
        rw [added_plain hr (addW_ok h48 hc)]
        clear hR hl hr hs hz hA hc hn h48
        go_enter Tryz.func132, Tryz.ntmps132
        go_wp2_with (first | (go_at_call 109; refine (unhide HR).mono ?_; rintro e w2 ⟨rfl, b2⟩) | (go_at_call 69; refine (unhide HL _).mono ?_; rintro e w3 ⟨rfl, rfl⟩) | (go_at_call 128; refine (unhide HA _ b2).mono ?_; rintro e w4 ⟨rfl, b4⟩))
        go_ret2
        exact ⟨rfl, btr b2 b4⟩
end Af
end Go.Proofs.YtlajdmjpobckhaaGreatDoor
/- The reader in memory: what stays when one block is turned; the next row. -/
namespace Go.Proofs.YtlajdmjpobckhaaGreatDoor
open Go.RowKit
namespace Af
open RowB
/-- all blocks but one stay -/
def Kp (g0 : Nat) (w w' : World) : Prop := w.heap.size ≤ w'.heap.size ∧ ∀ b, b < w.heap.size → b ≠ g0 → w'.heap[b]? = w.heap[b]?
theorem Kp.of_grown {g0 : Nat} {w w' : World} (h : w.grownBy w' (some g0)) : Kp g0 w w' := ⟨h.size, fun b hb hn => h.block b hb (fun e => hn (by injection e))⟩
theorem Kp.kept {w w' : World} {g0 : Nat} {o0 : Obj} {t : TypeId} (hk : Kp g0 w w') (h0 : w.heap[g0]? = some o0) (hne : ∀ cur, o0 ≠ .cells cur t (0, 0)) (g : Nat) (cur : Array Value) (h : w.heap[g]? = some (.cells cur t (0, 0))) : w'.heap[g]? = w.heap[g]? := by
  refine hk.2 g (Array.getElem?_eq_some_iff.1 h).1 ?_
  rintro rfl
  rw [h0] at h
  exact hne cur (Option.some.inj h)
theorem Kp.keptM {w w' : World} {g0 : Nat} {cs : Array Value} {t k : TypeId} {fz : Nat × Nat} {b n : Nat} {f : Lit → Option Value} (hk : Kp g0 w w') (h0 : w.heap[g0]? = some (.cells cs t fz)) (h : MapF w k b n f) : MapF w' k b n f := by
  refine h.kept (hk.2 b h.lt ?_)
  rintro rfl
  obtain ⟨es, c, e⟩ := h.isMap
  rw [h0] at e
  cases e
theorem ne_cells {cs : Array Value} {t u : TypeId} {fz : Nat × Nat} (h : t ≠ u) : ∀ cur, Obj.cells cs t fz ≠ .cells cur u (0, 0) := by
  intro cur e
  injection e with _ e _
  exact h e
theorem FAt.kp {B : Nat} {w w' : World} {F : Fil} {P : Pts} {g0 : Nat} {cs : Array Value} {t : TypeId} {fz : Nat × Nat} (h : FAt B w F P) (hk : Kp g0 w w') (h0 : w.heap[g0]? = some (.cells cs t fz))
    (t1 : t ≠ 111) (t2 : t ≠ 114) (t3 : t ≠ 39) (t4 : t ≠ 117) (t5 : t ≠ 78) (t6 : t ≠ 61) : FAt B w' F P := by
  obtain ⟨n, hn, hm⟩ := h.plc
  exact ⟨h.fbB, h.pmB, (hk.kept h0 (ne_cells t1) _ _ h.fil).trans h.fil, ⟨n, hn, hk.keptM h0 hm⟩, own_kept h.reps (hk.kept h0 (ne_cells t2)), own_kept h.alis (hk.kept h0 (ne_cells t3)), ⟨h.aliF.1, fun i v a h1 h2 => fnx_kept (h.aliF.2 i v a h1 h2) (hk.kept h0 (ne_cells t6))⟩, own_kept h.clss (hk.kept h0 (ne_cells t4)), own_kept h.ruls (hk.kept h0 (ne_cells t5)), ⟨h.rulF.1, fun i v a h1 h2 => fnx_kept (h.rulF.2 i v a h1 h2) (hk.kept h0 (ne_cells t6))⟩, h.ok⟩
/-- the file of a reader with another rows' list and another list of lines is the same -/
theorem FAt.pts {B : Nat} {w : World} {F : Fil} {P P' : Pts} (h : FAt B w F P) (e : P' = { P with rv := P'.rv, vl := P'.vl }) : FAt B w F P' := by
  rw [e]
  exact ⟨h.fbB, h.pmB, h.fil, h.plc, h.reps, h.alis, h.aliF, h.clss, h.ruls, h.rulF, h.ok⟩
/-- a store into the reader itself -/
theorem RAt.turn {B : Nat} {w w' : World} {rb : Nat} {R R' : Rdr} {P P' : Pts} (h : RAt B w rb R P) (hk : Kp rb w w') (hrd : w'.heap[rb]? = some (.cells (rdrC R' P') 95 (0, 0))) (hrows : RowsAt B w' P'.rv R'.rows) (hl : w'.ownsRow B 3 1 P'.vl R'.file.rules.length (R'.file.rules.map linC))
    (hf : R'.file = R.file) (hh : R'.heads = R.heads) (e : P' = { P with rv := P'.rv, vl := P'.vl }) (few : R'.behind ≤ 65537 ∧ R'.line ≤ 65537) (rok : RowsOk R'.rows) : RAt B w' rb R' P' := by
  obtain ⟨n, hn, hm⟩ := h.hds
  have e1 : P'.hm = P.hm := by rw [e]
  have e2 : P'.pm = P.pm := by rw [e]
  refine ⟨h.rbB, by rw [e1]; exact h.hmB, hrd, hrows, ⟨n, by rw [hh]; exact hn, by rw [hh, e1]; exact hk.keptM h.rdr hm⟩, by rw [e1, e2]; exact h.hne, hl, ?_, ⟨by rw [hh]; exact h.few.1, few.1, few.2⟩, rok⟩
  rw [hf]
  exact (h.file.kp hk h.rdr (by decide) (by decide) (by decide) (by decide) (by decide) (by decide)).pts e
theorem RAt.cells {B : Nat} {w : World} {rb : Nat} {R : Rdr} {P : Pts} (h : RAt B w rb R P) : w.cell? ⟨rb, 0, none⟩ = some (.pointer (some ⟨P.fb, 0, none⟩)) ∧ w.cell? ⟨rb, 1, none⟩ = some P.rv ∧ LineAt w rb R.line ∧ w.cell? ⟨rb, 3, none⟩ = some (.int .i64 (R.behind : Nat)) ∧ w.cell? ⟨rb, 4, none⟩ = some (.map (some P.hm)) ∧ w.cell? ⟨rb, 5, none⟩ = some P.vl ∧ ∀ k, w.frozen? ⟨rb, k, none⟩ = false := by
  have h := h.rdr
  refine ⟨?_, ?_, ?_, ?_, ?_, ?_, fun k => ?_⟩ <;> simp [LineAt, World.cell?, World.frozen?, h, rdrC]
theorem RAt.lt {B : Nat} {w : World} {rb : Nat} {R : Rdr} {P : Pts} (h : RAt B w rb R P) : rb < w.heap.size := (Array.getElem?_eq_some_iff.1 h.rdr).1
theorem kp_set (w : World) (g i : Nat) (v : Value) : Kp g w (w.setCell ⟨g, i, none⟩ v) := ⟨by simp [World.setCell], fun b _ hn => Below.heap_setCell w _ v b hn⟩
theorem kp_alloc {g : Nat} {w w' : World} (h : Kp g w w') (o : Obj) : Kp g w (w'.alloc o) := ⟨Nat.le_trans h.1 (by simp), fun b hb hn => (Below.heap_alloc w' o b (Nat.lt_of_lt_of_le hb h.1)).trans (h.2 b hb hn)⟩
theorem kp_trans {g : Nat} {a b c : World} (h : Kp g a b) (k : Kp g b c) : Kp g a c := ⟨Nat.le_trans h.1 k.1, fun i hi hn => (k.2 i (Nat.lt_of_lt_of_le hi h.1) hn).trans (h.2 i hi hn)⟩
theorem kp_below {g : Nat} {a b : World} (h : Below a.heap.size a b) : Kp g a b := ⟨h.size, fun i hi _ => h.block i hi⟩
theorem rows_tail {B : Nat} {w : World} {v : Value} {l : Nat} {fs : List Bs} {t : List (Nat × List Bs)} (h : RowsAt B w v ((l, fs) :: t)) :
    ∃ g off cap fv, v = .slice (some ⟨g, off, none⟩) (t.length + 1) cap ∧ t.length + 1 ≤ cap ∧ cap ≤ maxLen ∧ w.cell? ⟨g, off, none⟩ = some (.int .i64 (l : Nat)) ∧ w.cell? ⟨g, off + 1, none⟩ = some fv ∧ StrRow B w fv (fs.map Fld.str) ∧ fs ≠ [] ∧ g < w.heap.size ∧ (∃ cur, w.heap[g]? = some (.cells cur 131 (0, 0))) ∧
      (∀ ao c, (0 < t.length → ao = some ⟨g, off + 2, none⟩) → t.length ≤ c → c ≤ maxLen → (ao = none → c = 0) → RowsAt B w (.slice ao t.length c) t) := by
  obtain ⟨ao, cap, e, a1, a2, a3, h⟩ := h
  obtain ⟨g, off, cur, e2, hg, hh, hc⟩ := h (by simp)
  subst e2
  obtain ⟨fv, c1, c2, c3, c4⟩ := hc 0 l fs rfl
  refine ⟨g, off, cap, fv, by rw [e]; simp, by simpa using a1, a2, by simpa [World.cell?, hh] using c1, by simpa [World.cell?, hh] using c2, c3, c4, (Array.getElem?_eq_some_iff.1 hh).1, ⟨cur, hh⟩, fun ao c h1 h2 h3 h4 => ?_⟩
  refine ⟨ao, c, rfl, h2, h3, h4, fun hn => ?_⟩
  have hp : 0 < t.length := by cases t with | nil => exact absurd rfl hn | cons _ _ => simp
  refine ⟨g, off + 2, cur, h1 hp, hg, hh, fun j l' fs' hj => ?_⟩
  obtain ⟨fv', d1, d2, d3⟩ := hc (j + 1) l' fs' (by simpa using hj)
  refine ⟨fv', ?_, ?_, d3⟩
  · rw [show off + 2 + 2 * j = off + 2 * (j + 1) by omega]; exact d1
  · rw [show off + 2 + 2 * j + 1 = off + 2 * (j + 1) + 1 by omega]; exact d2
theorem set_heap1 {W : World} {g k : Nat} {cur : Array Value} {t : TypeId} {fz : Nat × Nat} (h : W.heap[g]? = some (.cells cur t fz)) (v : Value) : (W.setCell ⟨g, k, none⟩ v).heap[g]? = some (.cells (cur.setIfInBounds k v) t fz) := by
  simp only [World.setCell, Array.getElem?_modify, if_true, h, Option.map_some]
  rfl
theorem alloc_heap1 {W : World} {g : Nat} {o : Obj} (h : W.heap[g]? = some o) (x : Obj) : (W.alloc x).heap[g]? = some o := (Below.heap_alloc W x g (Array.getElem?_eq_some_iff.1 h).1).trans h
theorem str_kp {W W' : World} {B g0 : Nat} {cs : Array Value} {t : TypeId} {fz : Nat × Nat} {v : Value} {L : List ByteArray} (h : StrRow B W v L) (hk : Kp g0 W W') (h0 : W.heap[g0]? = some (.cells cs t fz)) (ht : t ≠ 9) : StrRow B W' v L := str_kept h (hk.kept h0 (ne_cells ht))
theorem next_res {B rb l : Nat} {t : List (Nat × List Bs)} {R : Rdr} {P : Pts} {w : World} {rv fv : Value} {L : List ByteArray} {o : Obj} (h : RAt B w rb R P) (hl : l ≤ 65536) (hok : RowsOk t) (hrow : RowsAt B w rv t) (hs : StrRow B w fv L) :
    ∀ W, W = ((w.setCell ⟨rb, 1, none⟩ rv).setCell ⟨rb, 2, none⟩ (.int .i64 (l : Nat))).alloc o → StrRow B W fv L ∧ RAt B W rb { R with rows := t, line := l } { P with rv := rv } ∧ Below B w W ∧ Kp rb w W := by
  rintro W rfl
  have k1 : Kp rb w (((w.setCell ⟨rb, 1, none⟩ rv).setCell ⟨rb, 2, none⟩ (.int .i64 (l : Nat))).alloc o) := kp_alloc (kp_trans (kp_set w rb 1 _) (kp_set _ rb 2 _)) _
  refine ⟨str_kp hs k1 h.rdr (by decide), h.turn k1 ?_ (rows_kept hrow (k1.kept h.rdr (ne_cells (by decide))) (k1.kept h.rdr (ne_cells (by decide)))) (own_kept h.lns (k1.kept h.rdr (ne_cells (by decide)))) rfl rfl rfl ⟨h.few.2.1, by show l ≤ 65537; omega⟩ hok, ?_, k1⟩
  · exact alloc_heap1 (set_heap1 (set_heap1 h.rdr _) _) _
  · have := h.lt
    have := h.rbB
    exact (((Below.refl B w).setCell (p := ⟨rb, 1, none⟩) h.rbB _).setCell (p := ⟨rb, 2, none⟩) h.rbB _).alloc (by simp; omega) _
end Af
end Go.Proofs.YtlajdmjpobckhaaGreatDoor
/- The reader: the next row. -/
namespace Go.Proofs.YtlajdmjpobckhaaGreatDoor
open Go.RowKit
namespace Af
open RowB
set_option maxHeartbeats 2000000 in
theorem nextRow_any {B rb l : Nat} {fs : List Bs} {t : List (Nat × List Bs)} {R : Rdr} {P : Pts} {w : World} (h : RAt B w rb R P) (hr : R.rows = (l, fs) :: t) :
    Calls Tryz.prog 78 #[ptr rb] w fun e w' => ∃ fv rv, e = .returned fv ∧ StrRow B w' fv (fs.map Fld.str) ∧ RAt B w' rb { R with rows := t, line := l } { P with rv := rv } ∧ Below B w w' ∧ Kp rb w w' := by
  have hrk := h.rok
  rw [hr] at hrk
  have hl : l ≤ 65536 := (hrk (l, fs) (by simp)).1
  have HOK : Hid (RowsOk t) := fun p hp => hrk p (by simp [hp])
  clear hrk
  have hR := h.rows
  rw [hr] at hR
  obtain ⟨g, off, cap, fv, e1, c1, c2, c3, c4, c5, c6, c7, c8, c9⟩ := rows_tail hR
  obtain ⟨d0, d1, d2, d3, d4, d5, d6⟩ := h.cells
  rw [e1] at d1
  have hlt := h.lt
  have HH := hide h
  have H9 := hide c9
  have H5 := hide c5
  obtain ⟨gf, cf, curf, ef, -⟩ := c5
  rw [List.length_map] at ef
  subst ef
  clear hR hr h c9 d3 d4 d5
  unfold LineAt at d2
  unfold maxLen at c2
  have hne : ¬ g = rb := by
    rintro rfl
    obtain ⟨cur, e⟩ := c8
    rw [(unhide HH).rdr] at e
    injection e with e
    injection e with _ e _
    exact absurd e (by decide)
  clear c8
  go_enter Tryz.func78, Tryz.ntmps78
  go_wp2
  · obtain ⟨r1, r2, r3, r4⟩ := next_res (o := .cells #[.int .i64 (l : Nat), .slice (some ⟨gf, 0, none⟩) fs.length cf] 131) (unhide HH) hl (unhide HOK) (unhide H9 (some ⟨g, off, none⟩) 0 (fun h => by omega) (by omega) (by unfold maxLen; omega) (fun e => rfl)) (unhide H5) _ rfl
    go_ret
    exact ⟨_, rfl, r1, ⟨_, r2⟩, r3, r4⟩
  · obtain ⟨r1, r2, r3, r4⟩ := next_res (o := .cells #[.int .i64 (l : Nat), .slice (some ⟨gf, 0, none⟩) fs.length cf] 131) (unhide HH) hl (unhide HOK) (unhide H9 (some ⟨g, off + 2, none⟩) (cap - 1) (fun h => rfl) (by omega) (by unfold maxLen; omega) (fun e => by cases e)) (unhide H5) _ rfl
    go_ret
    exact ⟨_, rfl, r1, ⟨_, r2⟩, r3, r4⟩
end Af
end Go.Proofs.YtlajdmjpobckhaaGreatDoor
/- The reader: did a keyword stand; the class of a flag. -/
namespace Go.Proofs.YtlajdmjpobckhaaGreatDoor
open Go.RowKit
namespace Af
open RowB
theorem cnt_in {H : List Bs} {s : Bs} (h : s ∈ H) : cnt H (.string s) = some (.int .i64 (H.count s : Nat)) := by simp [cnt, h]
theorem cnt_out {H : List Bs} {s : Bs} (h : s ∉ H) : cnt H (.string s) = none := by simp [cnt, h]
theorem stood_any {B rb : Nat} {R : Rdr} {P : Pts} {w : World} (h : RAt B w rb R P) (s : ByteArray) (hs : s.size ≤ 65536) :
    Calls Tryz.prog 80 #[ptr rb, .string s] w fun e w' => e = .returned (.bool (decide (s.data.toList ∈ R.heads))) ∧ w' = w := by
  obtain ⟨d0, d1, d2, d3, d4, d5, d6⟩ := h.cells
  obtain ⟨n, hn, hm⟩ := h.hds
  have hk := hm.look law9 Tryz.underlying93 (zero3 w) (key9 (s := s) (by unfold maxLen; omega))
  by_cases hi : s.data.toList ∈ R.heads
  · rw [cnt_in hi] at hk
    have hp : 0 < R.heads.count s.data.toList := List.count_pos_iff.2 hi
    have hpi : (0 : Int) < ((R.heads.count s.data.toList : Nat) : Int) := by omega
    rw [decide_eq_true hi]
    generalize R.heads.count s.data.toList = q at *
    simp only [Option.getD_some] at hk
    clear h hm d0 d1 d2 d3 d5 hi hn hs
    go_enter Tryz.func80, Tryz.ntmps80
    go_wp2
    go_ret
    exact ⟨by simp, rfl⟩
  · rw [cnt_out hi] at hk
    rw [decide_eq_false hi]
    simp only [Option.getD_none] at hk
    clear h hm d0 d1 d2 d3 d5 hi hn hs
    go_enter Tryz.func80, Tryz.ntmps80
    go_wp2
    go_ret
    exact ⟨rfl, rfl⟩
theorem FAt.cells {B : Nat} {w : World} {F : Fil} {P : Pts} (h : FAt B w F P) : w.cell? ⟨P.fb, 0, none⟩ = some (.int .i64 F.kind) ∧ w.cell? ⟨P.fb, 9, none⟩ = some P.vr ∧ w.cell? ⟨P.fb, 10, none⟩ = some P.va ∧ w.cell? ⟨P.fb, 11, none⟩ = some P.vc ∧ w.cell? ⟨P.fb, 12, none⟩ = some P.vu ∧ w.cell? ⟨P.fb, 13, none⟩ = some (.map (some P.pm)) ∧ ∀ k, w.frozen? ⟨P.fb, k, none⟩ = false := by
  have h := h.fil
  refine ⟨?_, ?_, ?_, ?_, ?_, ?_, fun k => ?_⟩ <;> simp [World.cell?, World.frozen?, h, filC]
theorem FAt.lt {B : Nat} {w : World} {F : Fil} {P : Pts} (h : FAt B w F P) : P.fb < w.heap.size := (Array.getElem?_eq_some_iff.1 h.fil).1
def noC : Value := .agg #[.int .u16 0, .int .i64 0, .bool false, .int .i64 0, .int .i64 0]
set_option maxHeartbeats 1000000 in
theorem class_none {B : Nat} {F : Fil} {P : Pts} {w : World} (h : FAt B w F P) (x : Int) (h0 : 0 ≤ x) (h1 : x ≤ 65535) (hf : findC F.classes x = none) :
    Calls Tryz.prog 64 #[.pointer (some ⟨P.fb, 0, none⟩), .int .u16 x] w fun e w' => e = .returned (.tuple #[noC, .bool false]) ∧ Below w.heap.size w w' := by
  obtain ⟨d0, d9, d10, d11, d12, d13, dz⟩ := h.cells
  obtain ⟨n, hn, hm⟩ := h.plc
  have hk := fun o => (hm.kept (w' := w.alloc o) (Below.heap_alloc w o _ hm.lt)).look2 lawF Tryz.underlying109 (zero3 (w.alloc o)) (keyF h0 h1)
  simp only [plc, hf, Option.map_none, Option.getD_none, Option.isSome_none] at hk
  have hlt := h.lt
  clear h hm hf h0 h1 d9 d10 d11 d12 hn
  unfold noC
  go_enter Tryz.func64, Tryz.ntmps64
  go_wp2
  refine bodyPost_ret (v := .tuple #[.agg #[.int .u16 0, .int .i64 0, .bool false, .int .i64 0, .int .i64 0], .bool false]) (by simp [results, Tryz.results64, go_sem]) rfl ⟨rfl, (Below.refl _ w).alloc (Nat.le_refl _) _⟩
end Af
end Go.Proofs.YtlajdmjpobckhaaGreatDoor
/- Contract of slices.Contains at flags, of the shelf, laid at this program: no walk of ours. -/
namespace Go.Proofs
open Go.Shelf
def Tryz.laysCf_ren : Go.Shelf.Ren := ⟨fun | 29 => 112 | 31 => 90 | n => n, fun | 0 => 0 | 3 => 3 | 4 => 4 | 22 => 39 | 23 => 61 | n => n, fun | n => n⟩
theorem Tryz.laysCf : Go.Proofs.SlLaysE.n31 Tryz.prog Tryz.laysCf_ren := {
  mixed := by kernel_rfl
  f29 := ⟨"slices.Index[[]hornbook/api.Flag,hornbook/api.Flag]", by decide, Tryz.func112.trans (congrArg some (by kernel_rfl))⟩
  f31 := ⟨"slices.Contains[[]hornbook/api.Flag,hornbook/api.Flag]", by decide, Tryz.func90.trans (congrArg some (by kernel_rfl))⟩
  t0 := Tryz.underlying0
  a0 := Tryz.isAgg0
  z0 := Tryz.sizeOf0
  v0 := Tryz.zeroValue0
  t3 := Tryz.underlying3
  a3 := Tryz.isAgg3
  z3 := Tryz.sizeOf3
  v3 := Tryz.zeroValue3
  t4 := Tryz.underlying4
  a4 := Tryz.isAgg4
  z4 := Tryz.sizeOf4
  v4 := Tryz.zeroValue4
  t22 := Tryz.underlying39
  a22 := Tryz.isAgg39
  z22 := Tryz.sizeOf39
  v22 := Tryz.zeroValue39
  a23 := Tryz.isAgg61
  z23 := Tryz.sizeOf61 }
open Go.RowKit Go.Lib Go.Sort in
theorem Tryz.flags_Contains (b off n c : Nat) (zs : List Int) (x : Int) (w : World) (hz : n ≤ zs.length) (hbig : n ≤ 9223372036854775807) (hc : ∀ j, j < zs.length → w.cell? ⟨b, off + j, none⟩ = some (.int .u16 zs[j]!)) :
    Calls Tryz.prog 90 #[.slice (some ⟨b, off, none⟩) n c, .int .u16 x] w fun e w' => e = .returned (.bool ((zs.take n).any fun y => decide (x = y))) ∧ w' = w :=
  AnyE.slices_Contains Tryz.laysCf (Value.int .u16) (fun x y => decide (x = y)) (EqlAt.intD _ _ .u16) b off n c zs x w hz hbig hc
theorem Tryz.flags_Contains_empty (a : Option Addr) (c : Nat) (xv : Value) (w : World) :
    Calls Tryz.prog 90 #[.slice a 0 c, xv] w fun e w' => e = .returned (.bool false) ∧ w' = w :=
  AnyE.slices_Contains_empty Tryz.laysCf a c xv w
end Go.Proofs
