/- The reader: the row of a group. -/
import Derived.Test.YtkefjaifaonlbaaGreatDoorGz19
import Derived.Test.YtkefjaifaonlbaaGreatDoorShAl2
namespace Go.Proofs.YtkefjaifaonlbaaGreatDoor
open Go.RowKit
namespace Af
open RowB
theorem equal_any (gr cr gb cb : Nat) (row beg : List Bs) (w : World) (hle : beg.length ≤ row.length) (hmx : beg.length ≤ 9223372036854775807) (hc : ∀ (j : Nat) x, row[j]? = some x → w.cell? ⟨gr, j, none⟩ = some (.string (Fld.str x))) (hb : ∀ (j : Nat) x, beg[j]? = some x → w.cell? ⟨gb, j, none⟩ = some (.string (Fld.str x))) :
    Calls Tryz.prog 126 #[.slice (some ⟨gr, 0, none⟩) beg.length cr, .slice (some ⟨gb, 0, none⟩) beg.length cb] w fun e w' => e = .returned (.bool (decide (row.take beg.length = beg))) ∧ Below w.heap.size w w' := by
  have cl : ∀ (L : List Bs) (g : Nat), (∀ (j : Nat) x, L[j]? = some x → w.cell? ⟨g, j, none⟩ = some (.string (Fld.str x))) → ∀ j, j < (L.map Fld.str).length → w.cell? ⟨g, 0 + j, none⟩ = some (.string ((L.map Fld.str).getD j ByteArray.empty)) := by
    intro L g h j hj
    rw [List.length_map] at hj
    rw [Nat.zero_add, h j L[j] (List.getElem?_eq_getElem hj)]
    simp [hj]
  refine (Tryz.slices_Equal_string gr 0 beg.length cr gb 0 beg.length cb (row.map Fld.str) (beg.map Fld.str) w (by simpa using hle) (by simp) hmx hmx (cl row gr hc) (cl beg gb hb)).mono ?_
  rintro e w' ⟨rfl, q, rfl⟩
  refine ⟨?_, below_drewN _ w q⟩
  have : (List.take beg.length (List.map Fld.str row) = List.take beg.length (List.map Fld.str beg)) ↔ (row.take beg.length = beg) := by
    rw [show List.take beg.length (List.map Fld.str beg) = List.map Fld.str beg by rw [List.take_of_length_le (by simp)], ← List.map_take]
    exact ⟨map_str_inj, fun h => by rw [h]⟩
  simp only [this]
set_option maxHeartbeats 2000000 in
theorem groupRow_any {B rb n : Nat} {R : Rdr} {P : Pts} {w : World} (h : RAt B w rb R P) (beg : List Bs) (bv : Value) (hbeg : StrRow n w bv (beg.map Fld.str)) (hb0 : beg ≠ []) :
    Calls Tryz.prog 103 #[ptr rb, bv] w (GRes B rb P w (grow R beg)) := by
  obtain ⟨d0, d1, d2, d3, d4, d5, d6⟩ := h.cells
  have hlt := h.lt
  rcases hR : R.rows with _ | ⟨⟨l, row⟩, t⟩
  · obtain ⟨ao, cap, e1, -, -, -, -⟩ := h.rows
    rw [hR] at e1
    rw [e1] at d1
    obtain ⟨s1, s2, s3⟩ := set_line h R.behind
    have HV := hide (leave_no rb R.behind 116 _ (by decide) (by decide) s1)
    have HG := hide (grow_none (beg := beg) hR)
    have HK := hide s2
    have HB := hide s3
    have d2' := d2
    unfold LineAt at d2'
    clear d0 d4 d5 d2 hR hbeg h s1 s2 s3 e1 hb0
    go_enter Tryz.func103, Tryz.ntmps103
    go_wp2_with (go_at_call 65; refine (unhide HV).mono ?_; rintro e w2 ⟨rfl, rfl⟩)
    exact ⟨rfl, GRes.no (unhide HG) (unhide HK) (unhide HB)⟩
  · obtain ⟨ao, cap, e1, -, -, -, -⟩ := h.rows
    rw [hR, List.length_cons] at e1
    rw [e1] at d1
    have HN := hide (nextRow_any h hR)
    have hq : ¬ ((t.length + 1 : Nat) : Int) = 0 := by omega
    obtain ⟨gb, cb, rfl, hgb, b1, b2, ⟨bcur, b3⟩, b4⟩ := str_cells hbeg
    have hgr : gb ≠ rb := by
      rintro rfl
      rw [h.rdr] at b3
      injection b3 with b3
      injection b3 with _ b3 _
      exact absurd b3 (by decide)
    have HB4 : Hid (∀ W, Kp rb w W → ∀ (j : Nat) x, beg[j]? = some x → W.cell? ⟨gb, j, none⟩ = some (.string (Fld.str x))) := fun W k j x hj => (World.cell?_of_block (a := ⟨gb, j, none⟩) (k.2 gb hgb hgr)).trans (b4 j x hj)
    have hbl : 0 < beg.length := List.length_pos_iff.2 hb0
    have hmx : beg.length ≤ 9223372036854775807 := by unfold maxLen at b2; omega
    by_cases hle : beg.length ≤ row.length
    · have hlei : (beg.length : Int) ≤ (row.length : Int) := by omega
      by_cases heq : row.take beg.length = beg
      · have HG := hide (grow_ok (R := R) hR heq)
        have HE := hide heq
        clear d0 d2 d3 d4 d5 hR h hbeg hb0 b3 b4 heq
        go_enter Tryz.func103, Tryz.ntmps103
        go_wp2_with (go_at_call 75; refine (unhide HN).mono ?_; rintro e w2 ⟨fv, rv, rfl, r1, r2, r3, r4⟩; obtain ⟨gr, cr, rfl, hgrl, c1, c2, -, c4⟩ := str_cells r1; have H1 := hide r1; have H2 := hide r2; have H3 := hide r3; have H4 := hide r4; have HC := hide c4; clear r1 r2 r3 r4 c4)
        refine (equal_any gr cr gb cb row beg w2 hle hmx (unhide HC) (unhide HB4 _ (unhide H4))).mono ?_
        rintro e w3 ⟨rfl, b3⟩
        rw [decide_eq_true (unhide HE)]
        have HB3 := hide b3
        clear b3 HC HB4
        go_wp2_with (go_at_call 76; refine (leaveIf_f _ _ _ _ rfl).mono ?_; rintro e w4 ⟨rfl, rfl⟩)
        go_ret
        exact GRes.yes (unhide HG) (kp_trans (unhide H4) (kp_below (unhide HB3))) ((unhide H3).trans ((unhide HB3).mono (unhide H2).base)) (str_kept (unhide H1) (below_kept (unhide HB3))) ((unhide H2).below (unhide HB3))
      · have HG := hide (grow_no (R := R) hR heq)
        have HE := hide heq
        clear d0 d2 d3 d4 d5 hR h hbeg hb0 b3 b4 heq
        go_enter Tryz.func103, Tryz.ntmps103
        go_wp2_with (go_at_call 75; refine (unhide HN).mono ?_; rintro e w2 ⟨fv, rv, rfl, r1, r2, r3, r4⟩; obtain ⟨gr, cr, rfl, hgrl, c1, c2, -, c4⟩ := str_cells r1; have H1 := hide r1; have H2 := hide r2; have H3 := hide r3; have H4 := hide r4; have HC := hide c4; clear r1 r2 r3 r4 c4)
        refine (equal_any gr cr gb cb row beg w2 hle hmx (unhide HC) (unhide HB4 _ (unhide H4))).mono ?_
        rintro e w3 ⟨rfl, b3⟩
        rw [decide_eq_false (unhide HE)]
        have HB3 := hide b3
        have HV := hide (leaveIf_no rb l 116 w3 (by decide) (by decide) ((unhide H2).below b3).cells.2.2.1)
        clear b3 HC HB4
        go_wp2_with (go_at_call 76; refine (unhide HV).mono ?_; rintro e w4 ⟨rfl, rfl⟩)
        exact ⟨rfl, GRes.no (unhide HG) (kp_trans (unhide H4) (kp_below (unhide HB3))) ((unhide H3).trans ((unhide HB3).mono (unhide H2).base))⟩
    · have hlei : ¬ (beg.length : Int) ≤ (row.length : Int) := by omega
      have HG := hide (grow_no (R := R) (beg := beg) hR (fun e => hle (by rw [← e]; simp; omega)))
      clear d0 d2 d3 d4 d5 hR h hbeg hb0 b3 b4
      go_enter Tryz.func103, Tryz.ntmps103
      go_wp2_with (go_at_call 75; refine (unhide HN).mono ?_; rintro e w2 ⟨fv, rv, rfl, r1, r2, r3, r4⟩; obtain ⟨gr, cr, rfl, hgrl, c1, c2, -, c4⟩ := str_cells r1; have H1 := hide r1; have H2 := hide r2; have H3 := hide r3; have H4 := hide r4; have HV := hide (leaveIf_no rb l 116 w2 (by decide) (by decide) r2.cells.2.2.1); clear r1 r2 r3 r4 c4)
      go_wp2_with (go_at_call 76; refine (unhide HV).mono ?_; rintro e w4 ⟨rfl, rfl⟩)
      exact ⟨rfl, GRes.no (unhide HG) (unhide H4) (unhide H3)⟩
end Af
end Go.Proofs.YtkefjaifaonlbaaGreatDoor
/- The file: its lists in memory; the class of a flag; the flags that a text writes. -/
namespace Go.Proofs.YtkefjaifaonlbaaGreatDoor
open Go.RowKit
namespace Af
open RowB
/-- the library's variable -/
def Mx (B : Nat) (w : World) : Prop := 0 < B ∧ ∃ m : Int, w.cell? ⟨0, 0, none⟩ = some (.int .i64 m)
theorem Mx.low {B : Nat} {w w' : World} (h : Mx B w) (k : Below B w w') : Mx B w' := by
  obtain ⟨h1, m, h2⟩ := h
  exact ⟨h1, m, (k.cell (p := ⟨0, 0, none⟩) h1).trans h2⟩
theorem Mx.so {B : Nat} {w : World} (h : Mx B w) : So.MaxIs w := h.2
theorem Mx.ea {B : Nat} {w : World} (h : Mx B w) : EachW.MaxIs w := h.2
theorem flat_get {α : Type} {f : α → List Value} {m : Nat} (hf : ∀ x, (f x).length = m) : ∀ {l : List α} {i : Nat} {x : α} {k : Nat}, l[i]? = some x → k < m → (l.flatMap f)[i * m + k]? = (f x)[k]?
  | [], i, x, k, h, _ => by simp at h
  | y :: t, 0, x, k, h, hk => by
    simp only [List.getElem?_cons_zero, Option.some.injEq] at h
    subst h
    rw [List.flatMap_cons, Nat.zero_mul, Nat.zero_add, List.getElem?_append_left (by rw [hf]; exact hk)]
  | y :: t, i + 1, x, k, h, hk => by
    rw [List.getElem?_cons_succ] at h
    rw [List.flatMap_cons, List.getElem?_append_right (by rw [hf]; rw [Nat.succ_mul]; omega), hf, show (i + 1) * m + k - m = i * m + k by rw [Nat.succ_mul]; omega]
    exact flat_get hf h hk
theorem own_at {w : World} {B : Nat} {e : TypeId} {size n : Nat} {v : Value} {xs : List Value} (h : w.ownsRow B e size v n xs) (hn : 0 < n) : ∃ g cap, v = .slice (some ⟨g, 0, none⟩) n cap ∧ B ≤ g ∧ g < w.heap.size ∧ n ≤ cap ∧ cap ≤ maxLen ∧ (∃ cur, w.heap[g]? = some (.cells cur e (0, 0))) ∧ ∀ j, j < n * size → w.cell? ⟨g, j, none⟩ = xs[j]? := by
  obtain ⟨hl, ⟨e1, e2⟩ | ⟨g, cap, cur, e1, h1, hg, h2, h3, h4, h5⟩⟩ := id h
  · omega
  · subst e1
    exact ⟨g, cap, rfl, h1, lt_some hg, h2, h3, ⟨cur, hg⟩, fun j hj => h.cellAt j hj⟩
theorem own_len {w : World} {B : Nat} {e : TypeId} {size n : Nat} {v : Value} {xs : List Value} (h : w.ownsRow B e size v n xs) : ∃ ao cap, v = .slice ao n cap ∧ n ≤ cap ∧ cap ≤ maxLen := by
  obtain ⟨hl, ⟨e1, e2⟩ | ⟨g, cap, cur, e1, h1, hg, h2, h3, h4, h5⟩⟩ := h
  · subst e2
    exact ⟨none, 0, e1, Nat.le_refl _, Nat.zero_le _⟩
  · exact ⟨_, cap, e1, h2, h3⟩
def clsV (c : Cls) : Value := .agg #[.int .u16 c.flag, .int .i64 c.kind, .bool c.cross, .int .i64 (c.first : Nat), .int .i64 (c.count : Nat)]
theorem findC_get {C : List Cls} {x : Int} {i : Nat} (h : findC C x = some i) : ∃ c, C[i]? = some c ∧ c.flag = x := by
  induction C generalizing i with
  | nil => cases h
  | cons a t ih =>
    unfold findC at h
    split at h
    · rename_i e
      injection h with h
      subst h
      exact ⟨a, rfl, e⟩
    · obtain ⟨j, hj, rfl⟩ := Option.map_eq_some_iff.1 h
      exact ih hj
set_option maxHeartbeats 1000000 in
theorem class_some {B : Nat} {F : Fil} {P : Pts} {w : World} (h : FAt B w F P) (x : Int) (h0 : 0 ≤ x) (h1 : x ≤ 65535) {i : Nat} {c : Cls} (hf : findC F.classes x = some i) (hc : F.classes[i]? = some c) :
    Calls Tryz.prog 6 #[.pointer (some ⟨P.fb, 0, none⟩), .int .u16 x] w fun e w' => e = .returned (.tuple #[clsV c, .bool true]) ∧ Below w.heap.size w w' := by
  obtain ⟨d0, d9, d10, d11, d12, d13, dz⟩ := h.cells
  obtain ⟨n, hn, hm⟩ := h.plc
  have hk := fun o => (hm.kept (w' := w.alloc o) (Below.heap_alloc w o _ hm.lt)).look2 lawF Tryz.underlying48 (zero3 (w.alloc o)) (keyF h0 h1)
  simp only [plc, hf, Option.map_some, Option.getD_some, Option.isSome_some] at hk
  have hlt := h.lt
  have hi := (List.getElem?_eq_some_iff.1 hc).1
  obtain ⟨g, cap, e1, hgB, hg, hcap, hmx, -, hcl⟩ := own_at h.clss (by omega)
  have q : ∀ k, k < 5 → w.cell? ⟨g, i * 5 + k, none⟩ = (clsC c)[k]? := fun k hk => (hcl _ (by omega)).trans (flat_get (f := clsC) (m := 5) (fun _ => rfl) hc hk)
  have q0 := q 0 (by decide)
  have q1 := q 1 (by decide)
  have q2 := q 2 (by decide)
  have q3 := q 3 (by decide)
  have q4 := q 4 (by decide)
  simp only [clsC, List.getElem?_cons_zero, List.getElem?_cons_succ, Nat.add_zero] at q0 q1 q2 q3 q4
  rw [e1] at d11
  have hii : (i : Int) < (F.classes.length : Int) := by omega
  have hi0 : ¬ (i : Int) < 0 := by omega
  unfold maxLen at hmx
  clear h hm hf h0 h1 d9 d10 d12 hn q hcl hc e1 d0
  unfold clsV
  go_enter Tryz.func6, Tryz.ntmps6
  go_wp2
  refine bodyPost_ret (v := .tuple #[.agg #[.int .u16 c.flag, .int .i64 c.kind, .bool c.cross, .int .i64 (c.first : Nat), .int .i64 (c.count : Nat)], .bool true]) (by simp [results, Tryz.results6, go_sem]) rfl ⟨rfl, ?_⟩
  (repeat (first | exact Below.refl _ _ | refine Below.drew ?_ | refine Below.alloc ?_ (by first | (simp; done) | (simp; omega)) _ | refine Below.setCell ?_ (by first | (simp; done) | (simp; omega)) _))
/-! the flags that a text writes -/
theorem hasAli {B : Nat} {F : Fil} {P : Pts} {w : World} (h : FAt B w F P) : Calls Tryz.prog 10 #[.pointer (some ⟨P.fb, 0, none⟩)] w fun e w' => e = .returned (.bool (decide (F.aliases ≠ []))) ∧ w' = w := by
  obtain ⟨-, -, d10, -, -, -, -⟩ := h.cells
  obtain ⟨ao, cap, e1, -, -⟩ := own_len h.alis
  rw [e1] at d10
  have hE : Hid ((decide (F.aliases ≠ []) : Bool) = decide ((0 : Int) < (F.aliases.length : Int))) := by
    rw [Hid, Bool.eq_iff_iff]
    cases F.aliases with
    | nil => simp
    | cons a t => simp
  rw [unhide hE]
  generalize F.aliases.length = n at *
  clear h hE e1
  go_enter Tryz.func10, Tryz.ntmps10
  go_wp2
  all_goals
    go_ret
    exact ⟨by first | (simp; done) | (simp; omega), rfl⟩
theorem fnx_nil (B : Nat) (w : World) : FNx B w (.slice none 0 0) [] := .inl ⟨rfl, rfl⟩
theorem FNx.low {B C : Nat} {w : World} {v : Value} {l : List Int} (h : FNx B w v l) (k : C ≤ B) : FNx C w v l := h.imp id (·.low k)
theorem FNx.arg {B : Nat} {w : World} {v : Value} {l : List Int} (h : FNx B w v l) : So.FArg w v l := by
  rcases h with ⟨rfl, rfl⟩ | h
  · exact So.nil_farg w
  · exact h.arg
theorem readFlags (kind : Int) (s : ByteArray) (w : World) (hM : So.MaxIs w) (hs : s.size ≤ 1048576) :
    Calls Tryz.prog 11 #[.int .i64 kind, .string s] w fun e w' => ∃ u, e = .returned (.tuple #[u, .int .i64 (So.rE kind s.data.toList)]) ∧ FNx w.heap.size w' u (So.rS kind s.data.toList) ∧ Below w.heap.size w w' := by
  unfold So.rS
  cases hk : One.isK kind
  · refine (So.read_bad kind s w hk).mono ?_
    rintro e w' ⟨rfl, rfl⟩
    have e1 : So.rE kind s.data.toList = 30 := by unfold So.rE; rw [hk]; rfl
    rw [e1]
    exact ⟨_, rfl, fnx_nil _ _, Below.refl _ _⟩
  · refine (So.read_any kind s w hk hM hs).mono ?_
    rintro e w' ⟨u, rfl, hB, h1, h2⟩
    have e1 : So.rE kind s.data.toList = So.readE (So.vals kind s.data.toList) := by unfold So.rE; rw [hk]; rfl
    rw [e1]
    by_cases h0 : So.readE (So.vals kind s.data.toList) = 0
    · rw [if_pos h0]
      exact ⟨u, rfl, .inr (h1 h0), hB⟩
    · rw [if_neg h0]
      have := h2 h0
      subst this
      exact ⟨_, rfl, fnx_nil _ _, hB⟩
theorem num_pos {s : Bs} {m : Nat} (h : Num.numE s m = 0) : Num.numN s m = ((Num.numN s m).toNat : Nat) ∧ (Num.numN s m).toNat ≤ m := by
  unfold Num.numE at h
  split at h
  · rename_i hg
    rw [Num.numN_good hg]
    have : (Num.numVal s : Int) ≤ m := by
      unfold Num.good at hg
      simp at hg
      omega
    omega
  · omega
theorem numE_or (s : Bs) (m : Int) : Num.numE s m = 0 ∨ Num.numE s m = 13 := by
  unfold Num.numE
  split <;> simp
set_option maxHeartbeats 1000000 in
theorem flags_any {B : Nat} {F : Fil} {P : Pts} {w : World} (h : FAt B w F P) (hM : Mx B w) (s : ByteArray) (hs : s.size ≤ 65536) :
    Calls Tryz.prog 4 #[.pointer (some ⟨P.fb, 0, none⟩), .string s] w fun e w' => ∃ u, e = .returned (.tuple #[u, .int .i64 (flgE F s.data.toList)]) ∧ FNx w.heap.size w' u (flgS F s.data.toList) ∧ Below w.heap.size w w' := by
  obtain ⟨d0, -, d10, -, -, -, dz⟩ := h.cells
  have HA := hide (hasAli h)
  by_cases ha : F.aliases = []
  · rw [decide_eq_false (by simp [ha])] at HA
    have e1 : flgE F s.data.toList = So.rE F.kind s.data.toList := by unfold flgE; rw [if_pos ha]
    have e2 : flgS F s.data.toList = So.rS F.kind s.data.toList := by unfold flgS; rw [if_pos ha]
    rw [e1, e2]
    have HR := hide (readFlags F.kind s w hM.so (by omega))
    clear e1 e2 ha h d10 hM
    generalize So.rE F.kind s.data.toList = c at *
    generalize So.rS F.kind s.data.toList = S at *
    go_enter Tryz.func4, Tryz.ntmps4
    go_wp2_with (first | (go_at_call 10; refine (unhide HA).mono ?_; rintro e w2 ⟨rfl, rfl⟩) | (go_at_call 11; refine (unhide HR).mono ?_; rintro e w3 ⟨u, rfl, f3, b3⟩))
    go_ret2
    exact ⟨u, rfl, f3, b3⟩
  · rw [decide_eq_true ha] at HA
    have hpos : 0 < F.aliases.length := List.length_pos_iff.2 ha
    have h1024 := h.ok.ali
    obtain ⟨g, cap, e0, hgB, hg, hcap, hmx, -, hcl⟩ := own_at h.alis hpos
    rw [e0] at d10
    have HN := hide (fun W => NumW.number_any s (F.aliases.length : Int) W (by unfold maxLen; omega) (by omega) (by omega))
    by_cases hq : Num.numE s.data.toList F.aliases.length = 0 ∧ flgN F s.data.toList ≠ 0
    · have e1 : flgE F s.data.toList = 0 := by unfold flgE; rw [if_neg ha, if_pos hq]
      have e2 : flgS F s.data.toList = (F.aliases[flgN F s.data.toList - 1]?).getD [] := by unfold flgS; rw [if_neg ha, if_pos hq]
      obtain ⟨n1, n2⟩ := num_pos hq.1
      have hq1 := hq.1
      have hq2 := hq.2
      unfold flgN at hq2 e2
      rw [hq1, n1] at HN
      rw [e1, e2]
      generalize (Num.numN s.data.toList F.aliases.length).toNat = k at *
      obtain ⟨a, hka⟩ : ∃ a, F.aliases[k - 1]? = some a := ⟨_, List.getElem?_eq_getElem (by omega)⟩
      obtain ⟨v, hkv⟩ : ∃ v, P.av[k - 1]? = some v := ⟨_, List.getElem?_eq_getElem (by rw [h.aliF.1]; omega)⟩
      have hfn := h.aliF.2 _ _ _ hkv hka
      have hcv : w.cell? ⟨g, k - 1, none⟩ = some v := (hcl _ (by omega)).trans hkv
      rw [hka, Option.getD_some]
      obtain ⟨hset, hlen⟩ := h.ok.aliS a (List.mem_of_getElem? hka)
      have HO := hide (So.of_set v a w hfn.arg (by omega))
      rw [hset] at HO
      have hk0 : ¬ ((k : Int) = 0) := by omega
      have hk1 : ¬ ((k : Int) - 1 < 0) := by omega
      have hk2 : ((k : Int) - 1) < (F.aliases.length : Int) := by omega
      have hk3 : ((k : Int) - 1).toNat = k - 1 := by omega
      have hkb : (k : Int) ≤ 65536 := by omega
      generalize F.aliases.length = N at *
      obtain ⟨ao, cp, rfl, -⟩ := hfn.arg
      clear e1 e2 ha h hM hq hq1 n1 hka hkv hset hfn hcl e0 d0
      go_enter Tryz.func4, Tryz.ntmps4
      go_wp2_with (first | (go_at_call 10; refine (unhide HA).mono ?_; rintro e w2 ⟨rfl, rfl⟩) | (go_at_call 12; refine (unhide HN _).mono ?_; rintro e w3 ⟨rfl, rfl⟩) | (go_at_call 13; refine (unhide HO).mono ?_; rintro e w4 ⟨u, rfl, f4, b4⟩))
      go_ret2
      exact ⟨u, rfl, .inr f4, b4⟩
    · have e1 : flgE F s.data.toList = 13 := by unfold flgE; rw [if_neg ha, if_neg hq]
      have e2 : flgS F s.data.toList = [] := by unfold flgS; rw [if_neg ha, if_neg hq]
      rw [e1, e2]
      have hcs : Hid ((Num.numE s.data.toList F.aliases.length = 0 ∧ Num.numN s.data.toList F.aliases.length = 0) ∨ Num.numE s.data.toList F.aliases.length = 13) := by
        rcases numE_or s.data.toList F.aliases.length with q | q
        · obtain ⟨n1, -⟩ := num_pos q
          unfold flgN at hq
          have z : ¬ (Num.numN s.data.toList F.aliases.length).toNat ≠ 0 := fun z => hq ⟨q, z⟩
          exact .inl ⟨q, by omega⟩
        · exact .inr q
      clear e1 e2 ha h hM hq e0 d0 hcl
      rcases unhide hcs with ⟨q1, q2⟩ | q1
      · rw [q1, q2] at HN
        clear q1 q2 hcs
        generalize F.aliases.length = N at *
        go_enter Tryz.func4, Tryz.ntmps4
        go_wp2_with (first | (go_at_call 10; refine (unhide HA).mono ?_; rintro e w2 ⟨rfl, rfl⟩) | (go_at_call 12; refine (unhide HN _).mono ?_; rintro e w3 ⟨rfl, rfl⟩))
        go_ret2
        exact ⟨_, rfl, fnx_nil _ _, Below.refl _ _⟩
      · rw [q1] at HN
        clear q1 hcs
        generalize Num.numN s.data.toList F.aliases.length = nn at *
        generalize F.aliases.length = N at *
        go_enter Tryz.func4, Tryz.ntmps4
        go_wp2_with (first | (go_at_call 10; refine (unhide HA).mono ?_; rintro e w2 ⟨rfl, rfl⟩) | (go_at_call 12; refine (unhide HN _).mono ?_; rintro e w3 ⟨rfl, rfl⟩))
        go_ret2
        exact ⟨_, rfl, fnx_nil _ _, Below.refl _ _⟩
end Af
end Go.Proofs.YtkefjaifaonlbaaGreatDoor
/- The reader: what a rule adds, with the flags that go on from it. -/
namespace Go.Proofs.YtkefjaifaonlbaaGreatDoor
open Go.RowKit
namespace Af
open RowB
/-- how what a rule adds is answered -/
def ARes (w : World) (X : Except Er (Bs × List Int)) (e : Ending) (w' : World) : Prop :=
  Below w.heap.size w w' ∧ match X with
  | .ok p => ∃ u, e = .returned (.tuple #[.string (Wd.str p.1), u]) ∧ FNx w.heap.size w' u p.2
  | .error er => e = .panicked (chn er)
theorem ARes.no {w w' : World} {X : Except Er (Bs × List Int)} {er : Er} (hX : X = .error er) (k : Below w.heap.size w w') : ARes w X (.panicked (chn er)) w' := by
  subst hX
  exact ⟨k, rfl⟩
theorem ARes.yes {w w' : World} {X : Except Er (Bs × List Int)} {p : Bs × List Int} {u : Value} (hX : X = .ok p) (k : Below w.heap.size w w') (h : FNx w.heap.size w' u p.2) : ARes w X (.returned (.tuple #[.string (Wd.str p.1), u])) w' := by
  subst hX
  exact ⟨k, u, rfl, h⟩
theorem aOk {w : World} {X : Except Er (Bs × List Int)} {p : Bs × List Int} {g : FuncId} {args : Array Value} (h : Calls Tryz.prog g args w (ARes w X)) (hX : X = .ok p) : Calls Tryz.prog g args w fun e w' => ∃ u, e = .returned (.tuple #[.string (Wd.str p.1), u]) ∧ FNx w.heap.size w' u p.2 ∧ Below w.heap.size w w' := by
  subst hX
  exact h.mono fun e w' ⟨k, u, q1, q2⟩ => ⟨u, q1, q2, k⟩
theorem aNo {w : World} {X : Except Er (Bs × List Int)} {er : Er} {g : FuncId} {args : Array Value} (h : Calls Tryz.prog g args w (ARes w X)) (hX : X = .error er) : Calls Tryz.prog g args w fun e w' => e = .panicked (chn er) ∧ Below w.heap.size w w' := by
  subst hX
  exact h.mono fun e w' ⟨k, q⟩ => ⟨q, k⟩
theorem readE_pos (l : List Int) : 0 ≤ So.readE l := by
  unfold So.readE
  repeat' split
  all_goals omega
theorem rE_pos (k : Int) (s : Bs) : 0 ≤ So.rE k s := by
  unfold So.rE
  split
  · exact readE_pos _
  · omega
theorem flgE_pos (F : Fil) (s : Bs) : 0 ≤ flgE F s := by
  unfold flgE
  split
  · exact rE_pos _ _
  · split <;> omega
theorem added_pre {F : Fil} {l : Nat} {f a r d : Bs} (h : Wd.rd [] f = some (a, r, true)) (ha : addW l a = .ok d) : added F l 1 f = .error (l, 118) := by unfold added; rw [h]; simp [ha]
theorem added_bad {F : Fil} {l : Nat} {k : Int} {f a r d : Bs} (h : Wd.rd [] f = some (a, r, true)) (ha : addW l a = .ok d) (hk : k ≠ 1) (he : flgE F r ≠ 0) : added F l k f = .error (l, (flgE F r).toNat) := by unfold added; rw [h]; simp [ha, hk, he]
theorem added_fl {F : Fil} {l : Nat} {k : Int} {f a r d : Bs} (h : Wd.rd [] f = some (a, r, true)) (ha : addW l a = .ok d) (hk : k ≠ 1) (he : flgE F r = 0) : added F l k f = .ok (d, flgS F r) := by unfold added; rw [h]; simp [ha, hk, he]
set_option maxHeartbeats 4000000 in
theorem added_all {B rb : Nat} {R : Rdr} {P : Pts} {w : World} (h : RAt B w rb R P) (hM : Mx B w) (k : Int) (s : ByteArray) (hs : s.size ≤ 65536) :
    Calls Tryz.prog 129 #[ptr rb, .int .i64 k, .string s] w (ARes w (added R.file R.line k s.data.toList)) := by
  obtain ⟨d0, -, hl, -, -, -, -⟩ := h.cells
  have hb := h.lt
  by_cases hn : ∀ a r, Wd.rd [] s.data.toList ≠ some (a, r, true)
  · refine (added_any rb R.line R.file k s w hs hb hl hn).mono ?_
    rintro e w' ⟨rfl, b⟩
    cases hx : added R.file R.line k s.data.toList with
    | error er => exact ARes.no rfl b
    | ok p =>
      have hp : p.2 = [] := by
        unfold added at hx
        rcases hr : Wd.rd [] s.data.toList with _ | ⟨a, r, c⟩
        · rw [hr] at hx; cases hx
        · cases c with
          | true => exact absurd hr (hn a r)
          | false =>
            rw [hr] at hx
            simp only at hx
            split at hx
            · cases hx
            · simp at hx; rw [← hx]
      exact ARes.yes rfl b (by rw [hp]; exact fnx_nil _ _)
  · obtain ⟨a, r, hr⟩ : ∃ a r, Wd.rd [] s.data.toList = some (a, r, true) := by
      exact Classical.byContradiction fun q => hn fun a r e => q ⟨a, r, e⟩
    have hR := RdW.read_any s w (by omega)
    rw [hr] at hR
    have HR := hide hR
    unfold RdW.ans at HR
    have hz := rd_len0 hr
    have HL := hide (fun W => leave_ok (ptr rb) W)
    have HF := hide (fun W (b : Below w.heap.size w W) => flags_any (h.file.below b) (hM.low (b.mono h.base)) (Wd.str r) (by omega))
    rw [Wd.str_list] at HF
    have HBr := hide h.base
    have HA := fun w2 (b2 : Below w.heap.size w w2) => checkAffix_any rb R.line (Wd.str a) w2 (by omega) (Nat.lt_of_lt_of_le hb b2.size) (lineB hl hb b2)
    rw [Wd.str_list] at HA
    have HVI := hide (fun w2 (b2 : Below w.heap.size w w2) => leaveIf_no rb R.line 118 w2 (by decide) (by decide) (lineB hl hb b2))
    have HIF := hide (fun W => leaveIf_ok (ptr rb) 118 W)
    have HVF : Hid (∀ w2, Below w.heap.size w w2 → flgE R.file r ≠ 0 → Calls Tryz.prog 65 #[.pointer (some ⟨rb, 0, none⟩), .int .i64 (flgE R.file r)] w2 fun e w' => e = .panicked (chn (R.line, (flgE R.file r).toNat)) ∧ w' = w2) := fun w2 b2 hc => leave_no rb R.line _ w2 hc (flgE_pos _ _) (lineB hl hb b2)
    clear hR hs hz hn hM h hl
    have H0 := hide hr
    clear hr
    generalize s.data.toList = sl at *
    by_cases h48 : a = [48]
    · have hq : ((Wd.str a).toList == [48]) = true := by rw [h48, Lib.toList_data]; rfl
      have HD : addW R.line a = .ok [] := by rw [h48]; exact addW_zero
      clear h48
      by_cases hk : k = 1
      · subst hk
        have HX := hide (added_pre (F := R.file) (l := R.line) (unhide H0) HD)
        clear HF HVF HIF HA
        go_enter Tryz.func129, Tryz.ntmps129
        go_wp2_with (first | (go_at_call 127; refine (unhide HR).mono ?_; rintro e w2 ⟨rfl, b2⟩; have e2 := (b2.cell (p := ⟨rb, 0, none⟩) hb).trans d0; clear d0) | (go_at_call 65; refine (unhide HL _).mono ?_; rintro e w3 ⟨rfl, rfl⟩) | (go_at_call 76; refine (unhide HVI _ b2).mono ?_; rintro e w6 ⟨rfl, rfl⟩))
        exact ⟨rfl, ARes.no (unhide HX) b2⟩
      · by_cases he : flgE R.file r = 0
        · have hkb : (k == 1) = false := by simpa using hk
          have HX := hide (added_fl (F := R.file) (l := R.line) (k := k) (unhide H0) HD hk he)
          rw [he] at HF
          clear HVF HVI hk he HA
          go_enter Tryz.func129, Tryz.ntmps129
          go_wp2_with (first | (go_at_call 127; refine (unhide HR).mono ?_; rintro e w2 ⟨rfl, b2⟩; have e2 := (b2.cell (p := ⟨rb, 0, none⟩) hb).trans d0; clear d0) | (go_at_call 65; refine (unhide HL _).mono ?_; rintro e w3 ⟨rfl, rfl⟩) | (go_at_call 76; refine (leaveIf_f _ _ _ _ (by first | rfl | simpa using hkb)).mono ?_; rintro e w6 ⟨rfl, rfl⟩) | (go_at_call 4; refine (unhide HF _ b2).mono ?_; rintro e w7 ⟨u, rfl, f7, b7⟩; have b8 := btr b2 b7))
          go_ret2
          exact ARes.yes (unhide HX) b8 (f7.low b2.size)
        · have hkb : (k == 1) = false := by simpa using hk
          have HX := hide (added_bad (F := R.file) (l := R.line) (k := k) (unhide H0) HD hk he)
          have HVG := hide (fun w2 b2 => unhide HVF w2 b2 he)
          generalize flgE R.file r = cd at *
          clear HVF HVI hk he HA
          go_enter Tryz.func129, Tryz.ntmps129
          go_wp2_with (first | (go_at_call 127; refine (unhide HR).mono ?_; rintro e w2 ⟨rfl, b2⟩; have e2 := (b2.cell (p := ⟨rb, 0, none⟩) hb).trans d0; clear d0) | (go_at_call 65; refine (unhide HL _).mono ?_; rintro e w3 ⟨rfl, rfl⟩; clear HL) | (go_at_call 76; refine (leaveIf_f _ _ _ _ (by first | rfl | simpa using hkb)).mono ?_; rintro e w6 ⟨rfl, rfl⟩) | (go_at_call 4; refine (unhide HF _ b2).mono ?_; rintro e w7 ⟨u, rfl, f7, b7⟩; have b8 := btr b2 b7))
          refine (unhide HVG _ b8).mono ?_
          rintro e w8 ⟨rfl, rfl⟩
          exact ⟨rfl, ARes.no (unhide HX) b8⟩
    · have hne : ((Wd.str a).toList == [48]) = false := by
        rw [beq_eq_false_iff_ne, Lib.toList_data, Wd.str_list]
        exact h48
      cases hc : ckA R.line a with
      | error er =>
        have HAA := hide (fun w2 b2 => noOf (HA w2 b2) hc)
        have HX := hide (added_no (F := R.file) (l := R.line) (k := k) (unhide H0) (addW_no h48 hc))
        clear HA hc h48 HF HVF HVI HIF
        go_enter Tryz.func129, Tryz.ntmps129
        go_wp2_with (first | (go_at_call 127; refine (unhide HR).mono ?_; rintro e w2 ⟨rfl, b2⟩; have e2 := (b2.cell (p := ⟨rb, 0, none⟩) hb).trans d0; clear d0) | (go_at_call 65; refine (unhide HL _).mono ?_; rintro e w3 ⟨rfl, rfl⟩) | (go_at_call 128; refine (unhide HAA _ b2).mono ?_; rintro e w4 ⟨rfl, b4⟩))
        exact ⟨rfl, ARes.no (unhide HX) (btr b2 b4)⟩
      | ok u0 =>
        have HAA := hide (fun w2 b2 => okOf (HA w2 b2) hc)
        have HD : addW R.line a = .ok a := addW_ok h48 hc
        by_cases hk : k = 1
        · subst hk
          have HX := hide (added_pre (F := R.file) (l := R.line) (unhide H0) HD)
          clear HF HVF HIF HA hc h48
          go_enter Tryz.func129, Tryz.ntmps129
          go_wp2_with (first | (go_at_call 127; refine (unhide HR).mono ?_; rintro e w2 ⟨rfl, b2⟩; have e2 := (b2.cell (p := ⟨rb, 0, none⟩) hb).trans d0; clear d0) | (go_at_call 65; refine (unhide HL _).mono ?_; rintro e w3 ⟨rfl, rfl⟩) | (go_at_call 128; refine (unhide HAA _ b2).mono ?_; rintro e w4 ⟨rfl, b4⟩; have b24 := btr b2 b4; have e4 := (b4.cell (p := ⟨rb, 0, none⟩) (Nat.lt_of_lt_of_le hb b2.size)).trans e2) | (go_at_call 76; refine (unhide HVI _ b24).mono ?_; rintro e w6 ⟨rfl, rfl⟩))
          exact ⟨rfl, ARes.no (unhide HX) b24⟩
        · by_cases he : flgE R.file r = 0
          · have hkb : (k == 1) = false := by simpa using hk
            have HX := hide (added_fl (F := R.file) (l := R.line) (k := k) (unhide H0) HD hk he)
            rw [he] at HF
            clear HVF HVI hk he HA hc h48
            go_enter Tryz.func129, Tryz.ntmps129
            go_wp2_with (first | (go_at_call 127; refine (unhide HR).mono ?_; rintro e w2 ⟨rfl, b2⟩; have e2 := (b2.cell (p := ⟨rb, 0, none⟩) hb).trans d0; clear d0) | (go_at_call 65; refine (unhide HL _).mono ?_; rintro e w3 ⟨rfl, rfl⟩) | (go_at_call 128; refine (unhide HAA _ b2).mono ?_; rintro e w4 ⟨rfl, b4⟩; have b24 := btr b2 b4; have e4 := (b4.cell (p := ⟨rb, 0, none⟩) (Nat.lt_of_lt_of_le hb b2.size)).trans e2) | (go_at_call 76; refine (leaveIf_f _ _ _ _ (by first | rfl | simpa using hkb)).mono ?_; rintro e w6 ⟨rfl, rfl⟩) | (go_at_call 4; refine (unhide HF _ b24).mono ?_; rintro e w7 ⟨u, rfl, f7, b7⟩; have b8 := btr b24 b7))
            go_ret2
            exact ARes.yes (unhide HX) b8 (f7.low b24.size)
          · have hkb : (k == 1) = false := by simpa using hk
            have HX := hide (added_bad (F := R.file) (l := R.line) (k := k) (unhide H0) HD hk he)
            have HVG := hide (fun w2 b2 => unhide HVF w2 b2 he)
            generalize flgE R.file r = cd at *
            clear HVF HVI hk he HA hc h48
            go_enter Tryz.func129, Tryz.ntmps129
            go_wp2_with (first | (go_at_call 127; refine (unhide HR).mono ?_; rintro e w2 ⟨rfl, b2⟩; have e2 := (b2.cell (p := ⟨rb, 0, none⟩) hb).trans d0; clear d0) | (go_at_call 65; refine (unhide HL _).mono ?_; rintro e w3 ⟨rfl, rfl⟩; clear HL) | (go_at_call 128; refine (unhide HAA _ b2).mono ?_; rintro e w4 ⟨rfl, b4⟩; have b24 := btr b2 b4; have e4 := (b4.cell (p := ⟨rb, 0, none⟩) (Nat.lt_of_lt_of_le hb b2.size)).trans e2) | (go_at_call 76; refine (leaveIf_f _ _ _ _ (by first | rfl | simpa using hkb)).mono ?_; rintro e w6 ⟨rfl, rfl⟩) | (go_at_call 4; refine (unhide HF _ b24).mono ?_; rintro e w7 ⟨u, rfl, f7, b7⟩; have b8 := btr b24 b7))
            refine (unhide HVG _ b8).mono ?_
            rintro e w8 ⟨rfl, rfl⟩
            exact ⟨rfl, ARes.no (unhide HX) b8⟩
end Af
end Go.Proofs.YtkefjaifaonlbaaGreatDoor
