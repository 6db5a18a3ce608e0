import Derived.Test.YtidhbhdcoanfcaaGreatDoorGuAp
import Derived.Deep.RegionHeld2
set_option maxHeartbeats 8000000
set_option maxRecDepth 100000
namespace Go.Proofs.YtidhbhdcoanfcaaGreatDoor
open Go.RowKit
namespace Af
open RowB
structure Kq (T : List TypeId) (M : Nat → Prop) (w w' : World) : Prop where
 size : w.heap.size ≤ w'.heap.size
 cells : ∀ (g : Nat) (cur : Array Value) (t : TypeId) (fz : Nat × Nat), w.heap[g]? = some (.cells cur t fz) → t ∉ T → w'.heap[g]? = w.heap[g]?
 maps : ∀ (g : Nat) es c, w.heap[g]? = some (.map es c) → ¬ M g → w'.heap[g]? = w.heap[g]?
def noM : Nat → Prop := fun _ => False
theorem Kq.refl (T : List TypeId) (M : Nat → Prop) (w : World) : Kq T M w w := ⟨Nat.le_refl _, fun _ _ _ _ _ _ => rfl, fun _ _ _ _ _ => rfl⟩
theorem Kq.trans {T : List TypeId} {M : Nat → Prop} {a b c : World} (h : Kq T M a b) (k : Kq T M b c) : Kq T M a c :=
 ⟨Nat.le_trans h.size k.size, fun g cur t fz e n => (k.cells g cur t fz ((h.cells g cur t fz e n).trans e) n).trans (h.cells g cur t fz e n), fun g es c e n => (k.maps g es c ((h.maps g es c e n).trans e) n).trans (h.maps g es c e n)⟩
theorem Kq.wide {T T' : List TypeId} {M M' : Nat → Prop} {a b : World} (h : Kq T M a b) (ht : ∀ t ∈ T, t ∈ T') (hm : ∀ g, M g → M' g) : Kq T' M' a b :=
 ⟨h.size, fun g cur t fz e n => h.cells g cur t fz e (fun x => n (ht t x)), fun g es c e n => h.maps g es c e (fun x => n (hm g x))⟩
theorem Kq.below {T : List TypeId} {M : Nat → Prop} {a b : World} (h : Below a.heap.size a b) : Kq T M a b := ⟨h.size, fun g _ _ _ e _ => h.block g (lt_some e), fun g _ _ e _ => h.block g (lt_some e)⟩
theorem Kq.kp {T : List TypeId} {M : Nat → Prop} {a b : World} {g0 : Nat} {cs : Array Value} {t : TypeId} {fz : Nat × Nat} (h : Kp g0 a b) (h0 : a.heap[g0]? = some (.cells cs t fz)) (ht : t ∈ T) : Kq T M a b :=
 ⟨h.1, fun g cur t' fz' e n => h.2 g (lt_some e) (by rintro rfl; rw [h0] at e; injection e with e; injection e with _ e _; subst e; exact n ht), fun g es c e _ => h.2 g (lt_some e) (by rintro rfl; rw [h0] at e; cases e)⟩
theorem Kq.kpm {T : List TypeId} {M : Nat → Prop} {a b : World} {g0 : Nat} {es : _} {c : _} (h : Kp g0 a b) (h0 : a.heap[g0]? = some (.map es c)) (hm : M g0) : Kq T M a b :=
 ⟨h.1, fun g cur t' fz' e n => h.2 g (lt_some e) (by rintro rfl; rw [h0] at e; cases e), fun g es c e n => h.2 g (lt_some e) (by rintro rfl; exact n hm)⟩
theorem Kq.grown {T : List TypeId} {M : Nat → Prop} {a b : World} {B : Nat} {e : TypeId} {size n : Nat} {v : Value} {xs : List Value} (h : a.grownBy b v.ownBlock) (ho : a.ownsRow B e size v n xs) (ht : e ∈ T) : Kq T M a b := by
 have key : ∀ (g : Nat) (o : Obj), a.heap[g]? = some o → (∀ cur, o ≠ .cells cur e (0, 0)) → b.heap[g]? = a.heap[g]? := by
  intro g o hg hn
  refine h.block g (lt_some hg) ?_
  intro q
  obtain ⟨hl, ⟨e1, e2⟩ | ⟨g', cap, cur, e1, h1, hg', r⟩⟩ := ho
  ·subst e1; cases q
  ·subst e1
   injection q with q
   subst q
   rw [hg'] at hg
   exact hn cur (Option.some.inj hg).symm
 refine ⟨h.size, fun g cur t fz eg n => key g _ eg ?_, fun g es c eg _ => key g _ eg (fun cur q => by cases q)⟩
 intro cur' q
 injection q with _ q _
 subst q
 exact n ht
theorem own_kq {T : List TypeId} {M : Nat → Prop} {w w' : World} {B : Nat} {e : TypeId} {size n : Nat} {v : Value} {xs : List Value} (h : w.ownsRow B e size v n xs) (k : Kq T M w w') (ht : e ∉ T) : w'.ownsRow B e size v n xs := own_kept h fun g cur q => k.cells g cur e (0, 0) q ht
theorem fnx_kq {T : List TypeId} {M : Nat → Prop} {w w' : World} {B : Nat} {v : Value} {l : List Int} (h : FNx B w v l) (k : Kq T M w w') (ht : 36 ∉ T) : FNx B w' v l := fnx_kept h fun g cur q => k.cells g cur _ (0, 0) q ht
theorem MapF.kq {T : List TypeId} {M : Nat → Prop} {w w' : World} {k : TypeId} {b n : Nat} {f : Lit → Option Value} (h : MapF w k b n f) (q : Kq T M w w') (hm : ¬ M b) : MapF w' k b n f := by
 obtain ⟨es, c, e⟩ := h.isMap
 exact h.kept (q.maps b es c e hm)
theorem Kq.kt {T : List TypeId} {M : Nat → Prop} {w w' : World} {B pm hm : Nat} (k : Kq T M w w') (l : Below B w w') (ht : ∀ t ∈ T, t ∈ WT) (hM : ∀ g, M g → g = pm ∨ g = hm) : Kt B pm hm w w' :=
 ⟨l, fun g cur t fz e n => k.cells g cur t fz e (fun x => n (ht t x)), fun g es c e n1 n2 => k.maps g es c e (fun x => (hM g x).elim n1 n2)⟩
theorem addr0 (g j : Nat) : (⟨g, 0, none⟩ : Addr).add j = ⟨g, j, none⟩ := by
 unfold Addr.add
 split
 ·next h => subst h; rfl
 ·simp
theorem push1 {w X : World} {B : Nat} {t e : TypeId} {size bytes : Nat} {z : Value} {v : Value} {n : Nat} {xs news : List Value} (ht : Tryz.prog.underlying t = some (.slice e)) (hi : (Tryz.prog.info? e).map (fun i => (i.zero, i.size, i.bytes)) = some (some z, size, bytes)) (hzs : z.cells.size = size) (hsz : 0 < size)
  (h : w.ownsRow B e size v n xs) (hB : B ≤ w.heap.size) (hX : Below w.heap.size w X) (hX0 : X.heap[w.heap.size]? = some (.cells news.toArray e (0, 0))) (hl : news.length = size) (h1 : ∀ u ∈ news, u.oneCell' = true) (hn : n ≤ 1048576) (hb : bytes ≤ 4096) (ty : TypeId) :
  ∃ a c W5, (Builtin.append_ #[t, t] ty #[v, .slice (some ⟨w.heap.size, 0, none⟩) 1 1]).run Tryz.prog X = .ok (.slice a (n + 1) c) W5 ∧ W5.ownsRow B e size (.slice a (n + 1) c) (n + 1) (xs ++ news) ∧ Kq [e] noM w W5 ∧ Below B w W5 ∧ ∀ b, b < w.heap.size → v.ownBlock ≠ some b → W5.heap[b]? = w.heap[b]? := by
 obtain ⟨i, hi, hz'⟩ := Option.map_eq_some_iff.1 hi
 simp only [Prod.mk.injEq] at hz'
 obtain ⟨hz0, hz1, hz2⟩ := hz'
 have hown := own_kept h (below_kept hX)
 have hBX : B ≤ X.heap.size := Nat.le_trans hB hX.size
 have hby : (n + 1) * bytes ≤ 140737488355328 := by
  have : (n + 1) * bytes ≤ 1048577 * 4096 := Nat.mul_le_mul (by omega) hb
  omega
 obtain ⟨v', W', hr, h2, h3, h4⟩ := run_append_own (P := Tryz.prog) X B t ty e i z size bytes ht hi hz0 hz1 hz2 hzs hsz v n xs hown ⟨w.heap.size, 0, none⟩ 1 1 news (by omega) (fun j u hj => by
  rw [addr0]
  simp [World.cell?, hX0, hj]) h1 (by unfold maxLen; omega) hby hBX
 obtain ⟨a, c, rfl, -, -⟩ := own_len h2
 refine ⟨a, c, W', hr, h2, (Kq.below hX).trans (Kq.grown h3 hown (by simp)), ?_⟩
 refine ⟨(hX.mono hB).trans ((Below.refl _ _).grown h3 hBX fun k hk => (hown.lt k hk).1), fun b hb hne => ?_⟩
 exact (h3.block b (Nat.lt_of_lt_of_le hb hX.size) (fun q => hne q.symm)).trans (hX.block b hb)

theorem FAt.kq {T : List TypeId} {M : Nat → Prop} {B : Nat} {w w' : World} {F F' : Fil} {P P' : Pts} (h : FAt B w F P) (k : Kq T M w w') (e1 : P'.fb = P.fb) (e2 : P'.pm = P.pm)
  (hfil : w'.heap[P'.fb]? = some (.cells (filC F' P') 97 (0, 0))) (hplc : (∃ n, n ≤ F'.classes.length ∧ MapF w' 36 P'.pm n (Af.plc F'.classes)) ∨ (F'.classes = F.classes ∧ ¬ M P.pm))
  (hreps : w'.ownsRow B 90 2 P'.vr F'.reps.length (F'.reps.flatMap repC) ∨ (F'.reps = F.reps ∧ P'.vr = P.vr ∧ 90 ∉ T))
  (halis : (w'.ownsRow B 54 1 P'.va F'.aliases.length P'.av ∧ P'.av.length = F'.aliases.length ∧ ∀ (i : Nat) v a, P'.av[i]? = some v → F'.aliases[i]? = some a → FNx B w' v a) ∨ (F'.aliases = F.aliases ∧ P'.va = P.va ∧ P'.av = P.av ∧ 54 ∉ T))
  (hcls : w'.ownsRow B 94 5 P'.vc F'.classes.length (F'.classes.flatMap clsC) ∨ (F'.classes = F.classes ∧ P'.vc = P.vc ∧ 94 ∉ T))
  (hrul : (w'.ownsRow B 79 7 P'.vu F'.rules.length ((F'.rules.zip P'.nv).flatMap fun p => rulC p.1 p.2) ∧ P'.nv.length = F'.rules.length ∧ ∀ (i : Nat) v r, P'.nv[i]? = some v → F'.rules[i]? = some r → FNx B w' v r.next) ∨ (F'.rules = F.rules ∧ P'.vu = P.vu ∧ P'.nv = P.nv ∧ 79 ∉ T))
  (hT : 36 ∉ T) (ok : FilOk F') : FAt B w' F' P' := by
 refine ⟨by rw [e1]; exact h.fbB, by rw [e2]; exact h.pmB, hfil, ?_, ?_, ?_, ?_, ?_, ?_, ?_, ok⟩
 ·rcases hplc with q | ⟨q, m⟩
  ·exact q
  ·obtain ⟨n, hn, hm⟩ := h.plc
   rw [q, e2]
   exact ⟨n, hn, hm.kq k m⟩
 ·rcases hreps with q | ⟨q1, q2, q3⟩
  ·exact q
  ·rw [q1, q2]; exact own_kq h.reps k q3
 ·rcases halis with q | ⟨q1, q2, q3, q4⟩
  ·exact q.1
  ·rw [q1, q2, q3]; exact own_kq h.alis k q4
 ·rcases halis with q | ⟨q1, q2, q3, q4⟩
  ·exact q.2
  ·rw [q1, q3]; exact ⟨h.aliF.1, fun i v a x1 x2 => fnx_kq (h.aliF.2 i v a x1 x2) k hT⟩
 ·rcases hcls with q | ⟨q1, q2, q3⟩
  ·exact q
  ·rw [q1, q2]; exact own_kq h.clss k q3
 ·rcases hrul with q | ⟨q1, q2, q3, q4⟩
  ·exact q.1
  ·rw [q1, q2, q3]; exact own_kq h.ruls k q4
 ·rcases hrul with q | ⟨q1, q2, q3, q4⟩
  ·exact q.2
  ·rw [q1, q3]; exact ⟨h.rulF.1, fun i v a x1 x2 => fnx_kq (h.rulF.2 i v a x1 x2) k hT⟩
theorem RAt.kq {T : List TypeId} {M : Nat → Prop} {B rb : Nat} {w w' : World} {R R' : Rdr} {P P' : Pts} (h : RAt B w rb R P) (k : Kq T M w w') (hF : FAt B w' R'.file P') (e1 : P'.pm = P.pm) (e2 : P'.hm = P.hm) (e3 : P'.rv = P.rv)
  (hrd : w'.heap[rb]? = some (.cells (rdrC R' P') 88 (0, 0))) (hl : w'.ownsRow B 3 1 P'.vl R'.file.rules.length (R'.file.rules.map linC)) (r1 : R'.rows = R.rows) (r2 : R'.heads = R.heads) (r3 : R'.behind = R.behind) (r4 : R'.line = R.line)
  (t2 : 135 ∉ T) (t3 : 9 ∉ T) (m1 : ¬ M P.hm) : RAt B w' rb R' P' := by
 obtain ⟨n, hn, hm⟩ := h.hds
 refine ⟨h.rbB, by rw [e2]; exact h.hmB, hrd, ?_, ⟨n, by rw [r2]; exact hn, by rw [r2, e2]; exact hm.kq k m1⟩, by rw [e1, e2]; exact h.hne, hl, hF, by rw [r2, r3, r4]; exact h.few, by rw [r1]; exact h.rok⟩
 rw [r1, e3]
 exact rows_kept h.rows (fun g cur q => k.cells g cur _ (0, 0) q t2) (fun g cur q => k.cells g cur _ (0, 0) q t3)
theorem RAt.ne {B rb : Nat} {R : Rdr} {P : Pts} {w : World} (h : RAt B w rb R P) : rb ≠ P.fb := by
 intro e
 have := h.rdr
 rw [e, h.file.fil] at this
 injection this with this
 injection this with _ this _
 exact absurd this (by decide)
theorem RAt.fset {B rb : Nat} {R : Rdr} {P : Pts} {w w0 : World} (h : RAt B w rb R P) (hb : Below w.heap.size w w0) {F' : Fil} (i : Nat) (v : Value) (hc : (filC R.file P).setIfInBounds i v = filC F' P) (q1 : F'.reps = R.file.reps) (q2 : F'.aliases = R.file.aliases) (q3 : F'.classes = R.file.classes) (q4 : F'.rules = R.file.rules) (ok : FilOk F') :
  RAt B (w0.setCell ⟨P.fb, i, none⟩ v) rb { R with file := F' } P ∧ Kt B P.pm P.hm w (w0.setCell ⟨P.fb, i, none⟩ v) := by
 have h' := h.below hb
 have k : Kq [97] noM w0 (w0.setCell ⟨P.fb, i, none⟩ v) := .kp (kp_set w0 P.fb i v) h'.file.fil (by simp)
 have k0 : Kq [97] noM w (w0.setCell ⟨P.fb, i, none⟩ v) := (Kq.below hb).trans k
 have hf : FAt B (w0.setCell ⟨P.fb, i, none⟩ v) F' P := h'.file.kq k rfl rfl (by rw [← hc]; exact set_heap1 h'.file.fil v) (.inr ⟨q3, fun x => x⟩) (.inr ⟨q1, rfl, by decide⟩) (.inr ⟨q2, rfl, rfl, by decide⟩) (.inr ⟨q3, rfl, by decide⟩) (.inr ⟨q4, rfl, rfl, by decide⟩) (by decide) ok
 refine ⟨h'.kq k hf rfl rfl rfl ((k.cells _ _ _ _ h'.rdr (by decide)).trans h'.rdr) ?_ rfl rfl rfl rfl (by decide) (by decide) (fun x => x), k0.kt ?_ (by decide) (fun g x => x.elim)⟩
 ·show World.ownsRow _ _ _ _ _ F'.rules.length (F'.rules.map linC)
  rw [q4]
  exact own_kq h'.lns k (by decide)
 ·exact (hb.mono h.base).setCell (p := ⟨P.fb, i, none⟩) h.file.fbB v
theorem oneF_bounds (k : Int) (l : Bs) : 0 ≤ One.oneF k l ∧ One.oneF k l ≤ 65535 := by
 unfold One.oneF
 split
 ·exact One.val_bounds k l
 ·omega
theorem newFlag_cls {R : Rdr} {f : Bs} {i : Nat} (h : One.oneE R.file.kind f = 0) (h2 : findC R.file.classes (One.oneF R.file.kind f) = some i) : newFlag R f = .error (R.line, 115) := by
 unfold newFlag
 rw [if_neg (fun e => e h), if_pos (.inl (by rw [h2]; rfl))]
theorem newFlag_pos {R : Rdr} {f : Bs} {x : Int} (h : newFlag R f = .ok x) : 1 ≤ x ∧ x ≤ 65535 ∧ findC R.file.classes x = none ∧ x ∉ R.file.specials := by
 unfold newFlag at h
 split at h
 ·cases h
 ·rename_i he
  split at h
  ·cases h
  ·rename_i hc
   injection h with h
   have hb := oneF_bounds R.file.kind f
   have h0 : One.oneF R.file.kind f ≠ 0 := by
    intro e
    apply he
    unfold One.oneE
    unfold One.oneF at e
    split at e
    ·rename_i hk
     rw [if_pos hk, if_pos e]; decide
    ·rename_i hk
     rw [if_neg hk]; decide
   rw [h] at hb h0 hc
   rw [not_or] at hc
   refine ⟨by omega, hb.2, ?_, hc.2⟩
   cases hq : findC R.file.classes x with
   | none => rfl
   | some i => rw [hq] at hc; exact absurd rfl hc.1
theorem newFlag_all {B rb : Nat} {R : Rdr} {P : Pts} {w : World} (h : RAt B w rb R P) (s : ByteArray) (hs : s.size ≤ 65536) :
  Calls Tryz.prog 100 #[ptr rb, .string s] w fun e w' => e = endX flgV (newFlag R s.data.toList) ∧ Below w.heap.size w w' := by
 obtain ⟨hb0, hb1⟩ := oneF_bounds R.file.kind s.data.toList
 cases hf : findC R.file.classes (One.oneF R.file.kind s.data.toList) with
 | none => exact newFlag_any h s hs hf hb0 hb1
 | some i =>
  by_cases he : One.oneE R.file.kind s.data.toList = 0
  ·obtain ⟨d0, -, dl, -, -, -, -⟩ := h.cells
   obtain ⟨k0, -, -, -, -, -, kz⟩ := h.file.cells
   have hlt := h.lt
   have hfl := h.file.lt
   obtain ⟨c, hc, -⟩ := findC_get hf
   have HO := hide (One.one_any R.file.kind s w (by unfold maxLen; omega))
   rw [he] at HO
   have HL := hide (fun W => leave_ok (ptr rb) W)
   have HC := hide (fun m => class_some (h.file.below (w' := w.drewN m) (below_drewN _ w m)) _ hb0 hb1 hf hc)
   rw [newFlag_cls he hf]
   have HV := hide (fun W (b : Below w.heap.size w W) => leaveIf_no rb R.line 115 W (by decide) (by decide) (lineB dl hlt b))
   clear h hf hb0 hb1 he hs hc kz dl
   generalize One.oneF R.file.kind s.data.toList = x at *
   unfold clsV at HC
   go_enter Tryz.func100, Tryz.ntmps100
   go_wp2_with (first | (go_at_call 130; refine (unhide HO).mono ?_; rintro e w2 ⟨rfl, m, rfl⟩) | (go_at_call 72; refine (unhide HL _).mono ?_; rintro e w3 ⟨rfl, rfl⟩))
   refine (unhide HC m).mono ?_
   rintro e w3 ⟨rfl, b3⟩
   have b4 : Below w.heap.size w w3 := (below_drewN w.heap.size w m).trans b3
   have e0 := (b4.cell (p := ⟨rb, 0, none⟩) hlt).trans d0
   have hsz := b4.size
   have hlt3 : rb < w3.heap.size := by omega
   have HB4 := hide b4
   clear b3 b4 d0 k0
   go_wp2_with fail
   have b5 := (unhide HB4).alloc hsz (.cells #[.int .u16 c.flag, .int .i64 c.kind, .bool c.cross, .int .i64 (c.first : Nat), .int .i64 (c.count : Nat)] 94)
   refine (unhide HV _ b5).mono ?_
   rintro e w6 ⟨rfl, rfl⟩
   exact ⟨rfl, rfl, b5⟩
  ·obtain ⟨d0, -, dl, -, -, -, -⟩ := h.cells
   obtain ⟨k0, -, -, -, -, -, kz⟩ := h.file.cells
   have hlt := h.lt
   have HO := hide (One.one_any R.file.kind s w (by unfold maxLen; omega))
   rw [newFlag_bad he]
   have HV := hide (fun m => leave_no rb R.line _ (w.drewN m) he (oneE_pos _ _) (lineB dl hlt (below_drewN _ w m)))
   clear h hf hb0 hb1 he hs kz
   generalize One.oneE R.file.kind s.data.toList = cd at *
   go_enter Tryz.func100, Tryz.ntmps100
   go_wp2_with (first | (go_at_call 130; refine (unhide HO).mono ?_; rintro e w2 ⟨rfl, m, rfl⟩) | (go_at_call 72; refine (unhide HV _).mono ?_; rintro e w3 ⟨rfl, rfl⟩))
   exact ⟨rfl, rfl, below_drewN _ w m⟩
theorem times_err {f : Rdr → Except Er Rdr} {e : Er} : ∀ {j n : Nat} {R Rj : Rdr}, times f j R = .ok Rj → f Rj = .error e → j < n → times f n R = .error e
 | 0, n, R, Rj, h, he, hn => by
  obtain ⟨m, rfl⟩ : ∃ m, n = m + 1 := ⟨n - 1, by omega⟩
  simp only [times, Except.ok.injEq] at h
  subst h
  simp [times, he]
 | j + 1, n, R, Rj, h, he, hn => by
  obtain ⟨m, rfl⟩ : ∃ m, n = m + 1 := ⟨n - 1, by omega⟩
  simp only [times] at h ⊢
  cases hf : f R with
  | error e' => rw [hf] at h; cases h
  | ok R1 => rw [hf] at h; exact times_err h he (by omega)
theorem times_ok {f : Rdr → Except Er Rdr} : ∀ {j : Nat} {R Rj R' : Rdr}, times f j R = .ok Rj → f Rj = .ok R' → times f (j + 1) R = .ok R'
 | 0, R, Rj, R', h, he => by
  simp only [times, Except.ok.injEq] at h
  subst h
  simp [times, he]
 | j + 1, R, Rj, R', h, he => by
  rw [times] at h ⊢
  cases hf : f R with
  | error e' => rw [hf] at h; cases h
  | ok R1 => rw [hf] at h; exact times_ok h he
theorem grow_fld {R : Rdr} {beg row : List Bs} {R1 : Rdr} (h : grow R beg = .ok (row, R1)) : ∃ l t, R.rows = (l, row) :: t ∧ R1 = { R with rows := t, line := l } := by
 unfold grow at h
 split at h
 ·cases h
 ·rename_i l row' t hr
  split at h
  ·injection h with h
   injection h with h1 h2
   subst h1
   exact ⟨l, t, hr, h2.symm⟩
  ·cases h
theorem rulStep_g {R : Rdr} {beg : List Bs} {c : Cls} {e : Er} (h : grow R beg = .error e) : rulStep beg c R = .error e := by unfold rulStep; rw [h]
theorem rulStep_r {R R1 : Rdr} {beg row : List Bs} {c : Cls} {e : Er} (h : grow R beg = .ok (row, R1)) (hr : rule R1.file R1.line c row = .error e) : rulStep beg c R = .error e := by unfold rulStep; rw [h]; simp [hr]
theorem rulStep_ok {R R1 : Rdr} {beg row : List Bs} {c : Cls} {p : Rul} (h : grow R beg = .ok (row, R1)) (hr : rule R1.file R1.line c row = .ok p) : rulStep beg c R = .ok { R1 with file := { R1.file with rules := R1.file.rules ++ [p] } } := by unfold rulStep; rw [h]; simp [hr]
theorem rule_line {F : Fil} {l : Nat} {c : Cls} {row : List Bs} {r : Rul} (h : rule F l c row = .ok r) : r.line = l := by
 unfold rule at h
 split at h
 ·cases h
 ·split at h
  ·cases h
  ·split at h
   ·cases h
   ·split at h
    ·split at h
     ·cases h
     ·injection h with h; rw [← h]
    ·injection h with h; rw [← h]
theorem findC_snoc {C : List Cls} {c : Cls} (h : findC C c.flag = none) (x : Int) : findC (C ++ [c]) x = if x = c.flag then some C.length else findC C x := by
 induction C with
 | nil =>
  simp only [List.nil_append, findC, List.length_nil]
  by_cases e : c.flag = x
  ·rw [if_pos e, if_pos e.symm]
  ·rw [if_neg e, if_neg (fun q => e q.symm)]; rfl
 | cons a t ih =>
  simp only [findC] at h
  split at h
  ·cases h
  ·rename_i hne
   have ht : findC t c.flag = none := by
    cases hq : findC t c.flag with
    | none => rfl
    | some i => rw [hq] at h; cases h
   simp only [List.cons_append, findC, List.length_cons]
   rw [ih ht]
   by_cases e : x = c.flag
   ·rw [if_pos e, if_pos e, if_neg (by rw [e]; exact hne)]; rfl
   ·rw [if_neg e, if_neg e]
theorem infoC : (Tryz.prog.info? 94).map (fun i => (i.zero, i.size, i.bytes)) = some (some (.agg #[.int .u16 0, .int .i64 0, .bool false, .int .i64 0, .int .i64 0]), 5, 40) := by kernel_rfl
theorem infoU : (Tryz.prog.info? 79).map (fun i => (i.zero, i.size, i.bytes)) = some (some (.agg #[.int .i64 0, .int .u16 0, .bool false, .string ⟨#[]⟩, .string ⟨#[]⟩, .string ⟨#[]⟩, .slice none 0 0]), 7, 88) := by kernel_rfl
theorem infoI : (Tryz.prog.info? 3).map (fun i => (i.zero, i.size, i.bytes)) = some (some (.int .i64 0), 1, 8) := by kernel_rfl
theorem putClass {B : Nat} {V : World} {F : Fil} {P : Pts} (h : FAt B V F P) (c : Cls) (h1 : 1 ≤ c.flag) (h2 : c.flag ≤ 65535) (hf : findC F.classes c.flag = none) (hcn : F.classes.length ≤ 65536) :
  ∃ V3, (Instr.mapUpdate 95 (.map (some P.pm)) (.int .u16 c.flag) (.int .i64 (F.classes.length : Nat))).run Tryz.prog V.drew = .ok () V3 ∧ (∃ n, n ≤ F.classes.length + 1 ∧ MapF V3 36 P.pm n (plc (F.classes ++ [c]))) ∧ Kp P.pm V V3 ∧ Kq [] (· = P.pm) V V3 ∧ Below B V V3 := by
 obtain ⟨n0, hn0, hm0⟩ := h.plc
 obtain ⟨V3, hmu, hput, hgr⟩ := (MapF.kept (w' := V.drew) hm0 rfl).put (v := .int .i64 (F.classes.length : Nat)) lawF Tryz.underlying95 (by unfold maxLen; omega) (keyF (x := c.flag) (by omega) (by omega)) trivial
 have kp : Kp P.pm V V3 := Kp.of_grown (w := V.drew) hgr
 obtain ⟨es, cc, e⟩ := hm0.isMap
 refine ⟨V3, hmu, ⟨n0 + 1, by omega, hput _ ?_ ?_⟩, kp, Kq.kpm kp e rfl, ((Below.refl B V).drew).trans ((Below.refl B V.drew).grown hgr ?_ ?_)⟩
 ·show (findC (F.classes ++ [c]) c.flag).map _ = _
  rw [findC_snoc hf, if_pos rfl]
  rfl
 ·intro y hy
  match y with
  | .int .u16 z =>
   show (findC (F.classes ++ [c]) z).map _ = (findC F.classes z).map _
   rw [findC_snoc hf, if_neg (fun e => hy (by rw [e]))]
  | .int .u8 _ | .int .i8 _ | .int .i16 _ | .int .u32 _ | .int .i32 _ | .int .u64 _ | .int .i64 _ | .bool _ | .float _ _ | .string _ | .nil => rfl
 ·exact Nat.le_of_lt (Nat.lt_of_le_of_lt h.pmB hm0.lt)
 ·intro k hk
  injection hk with hk
  rw [← hk]
  exact h.pmB
theorem RAt.newClass {B rb : Nat} {w w1 w2 : World} {R : Rdr} {P : Pts} {v' : Value} (h : RAt B w rb R P) (c : Cls) (hc : 1 ≤ c.flag ∧ c.flag ≤ 65535) (k1 : Kq [] (· = P.pm) w w1) (l1 : Below B w w1) (m1 : ∃ n, n ≤ R.file.classes.length + 1 ∧ MapF w1 36 P.pm n (plc (R.file.classes ++ [c])))
  (k2 : Kq [94] noM w1 w2) (l2 : Below B w1 w2) (o2 : w2.ownsRow B 94 5 v' (R.file.classes.length + 1) (R.file.classes.flatMap clsC ++ clsC c)) :
  RAt B (w2.setCell ⟨P.fb, 11, none⟩ v') rb { R with file := { R.file with classes := R.file.classes ++ [c] } } { P with vc := v' } ∧ Kt B P.pm P.hm w (w2.setCell ⟨P.fb, 11, none⟩ v') := by
 have k12 : Kq [97, 94] (· = P.pm) w w2 := (k1.wide (by simp) (fun _ x => x)).trans (k2.wide (by simp) (fun _ x => x.elim))
 have hfil : w2.heap[P.fb]? = some (.cells (filC R.file P) 97 (0, 0)) :=
  ((k2.cells _ _ _ _ ((k1.cells _ _ _ _ h.file.fil (by simp)).trans h.file.fil) (by decide)).trans ((k1.cells _ _ _ _ h.file.fil (by simp)).trans h.file.fil))
 have k3 : Kq [97, 94] (· = P.pm) w2 (w2.setCell ⟨P.fb, 11, none⟩ v') := .kp (kp_set w2 P.fb 11 v') hfil (by simp)
 have kk := k12.trans k3
 obtain ⟨n, hn, hm⟩ := m1
 have ok := h.file.ok
 have hf : FAt B (w2.setCell ⟨P.fb, 11, none⟩ v') { R.file with classes := R.file.classes ++ [c] } { P with vc := v' } := by
  refine h.file.kq kk rfl rfl (set_heap1 hfil v') (.inl ⟨n, by simpa using hn, (hm.kq k2 (fun x => x)).kq (M := noM) (T := [97]) (.kp (kp_set w2 P.fb 11 v') hfil (by simp)) (fun x => x)⟩) (.inr ⟨rfl, rfl, by decide⟩) (.inr ⟨rfl, rfl, rfl, by decide⟩) (.inl ?_) (.inr ⟨rfl, rfl, rfl, by decide⟩) (by decide) ⟨ok.kind, ok.spec, ok.specB, ?_, ok.reps, ok.ali, ok.aliS, ok.rul, ok.len⟩
  ·have := own_kq o2 (Kq.kp (T := [97]) (M := noM) (kp_set w2 P.fb 11 v') hfil (by simp)) (by decide)
   simpa using this
  ·intro d hd
   rcases List.mem_append.1 hd with q | q
   ·exact ok.cls d q
   ·simp at q; subst q; exact hc
 refine ⟨h.kq kk hf rfl rfl rfl ((kk.cells _ _ _ _ h.rdr (by decide)).trans h.rdr) (own_kq h.lns kk (by decide)) rfl rfl rfl rfl (by decide) (by decide) h.hne, kk.kt ?_ (by decide) (fun g x => .inl x)⟩
 exact (l1.trans l2).setCell (p := ⟨P.fb, 11, none⟩) h.file.fbB v'
theorem zip_snoc {a : List Rul} {b : List Value} (h : b.length = a.length) (r : Rul) (u : Value) : ((a ++ [r]).zip (b ++ [u])).flatMap (fun p => rulC p.1 p.2) = ((a.zip b).flatMap fun p => rulC p.1 p.2) ++ rulC r u := by
 rw [List.zip_append h.symm, List.flatMap_append]
 simp
theorem snoc_get {α : Type} {l : List α} {x y : α} {i : Nat} (h : (l ++ [x])[i]? = some y) : (i < l.length ∧ l[i]? = some y) ∨ (i = l.length ∧ y = x) := by
 by_cases hi : i < l.length
 ·rw [List.getElem?_append_left hi] at h
  exact .inl ⟨hi, h⟩
 ·rw [List.getElem?_append_right (by omega)] at h
  obtain ⟨q, q2⟩ := List.getElem?_eq_some_iff.1 h
  simp at q
  have : i = l.length := by omega
  subst this
  simp at q2
  exact .inr ⟨rfl, q2.symm⟩
theorem RAt.addRule {B rb : Nat} {w w4 w5 w7 : World} {R : Rdr} {P : Pts} {u v' l' : Value} (h : RAt B w rb R P) (r : Rul) (hr : r.line = R.line) (hn : R.file.rules.length < 1024) (k4 : Below w.heap.size w w4) (hu : FNx w.heap.size w4 u r.next)
  (k5 : Kq [79] noM w4 w5) (l5 : Below B w4 w5) (o5 : w5.ownsRow B 79 7 v' (R.file.rules.length + 1) (((R.file.rules.zip P.nv).flatMap fun p => rulC p.1 p.2) ++ rulC r u))
  (k7 : Kq [3] noM (w5.setCell ⟨P.fb, 12, none⟩ v') w7) (l7 : Below B (w5.setCell ⟨P.fb, 12, none⟩ v') w7) (o7 : w7.ownsRow B 3 1 l' (R.file.rules.length + 1) (R.file.rules.map linC ++ [.int .i64 (R.line : Nat)])) :
  RAt B (w7.setCell ⟨rb, 5, none⟩ l') rb { R with file := { R.file with rules := R.file.rules ++ [r] } } { P with vu := v', vl := l', nv := P.nv ++ [u] } ∧ Kt B P.pm P.hm w (w7.setCell ⟨rb, 5, none⟩ l') := by
 have hB := h.base
 have h4 := h.below k4
 have hfil : w5.heap[P.fb]? = some (.cells (filC R.file P) 97 (0, 0)) := (k5.cells _ _ _ _ h4.file.fil (by decide)).trans h4.file.fil
 have k6 : Kq [97] noM w5 (w5.setCell ⟨P.fb, 12, none⟩ v') := .kp (kp_set w5 P.fb 12 v') hfil (by simp)
 have hrd : w7.heap[rb]? = some (.cells (rdrC R P) 88 (0, 0)) := by
  have e1 := (k5.cells _ _ _ _ h4.rdr (by decide)).trans h4.rdr
  have e2 := (k6.cells _ _ _ _ e1 (by decide)).trans e1
  exact (k7.cells _ _ _ _ e2 (by decide)).trans e2
 have k8 : Kq [88] noM w7 (w7.setCell ⟨rb, 5, none⟩ l') := .kp (kp_set w7 rb 5 l') hrd (by simp)
 let T : List TypeId := [88, 97, 79, 3]
 have kk : Kq T noM w4 (w7.setCell ⟨rb, 5, none⟩ l') := (((k5.wide (by decide) (fun _ x => x)).trans (k6.wide (by decide) (fun _ x => x))).trans (k7.wide (by decide) (fun _ x => x))).trans (k8.wide (by decide) (fun _ x => x))
 have kw : Kq T noM w (w7.setCell ⟨rb, 5, none⟩ l') := (Kq.below k4).trans kk
 have hlow : Below B w (w7.setCell ⟨rb, 5, none⟩ l') := (((k4.mono hB).trans l5).trans (((Below.refl B w5).setCell (p := ⟨P.fb, 12, none⟩) h.file.fbB v').trans l7)).setCell (p := ⟨rb, 5, none⟩) h.rbB l'
 have ok := h.file.ok
 have hf : FAt B (w7.setCell ⟨rb, 5, none⟩ l') { R.file with rules := R.file.rules ++ [r] } { P with vu := v', vl := l', nv := P.nv ++ [u] } := by
  refine h4.file.kq kk rfl rfl ?_ (.inr ⟨rfl, fun x => x⟩) (.inr ⟨rfl, rfl, by decide⟩) (.inr ⟨rfl, rfl, rfl, by decide⟩) (.inr ⟨rfl, rfl, by decide⟩) (.inl ⟨?_, ?_, ?_⟩) (by decide) ⟨ok.kind, ok.spec, ok.specB, ok.cls, ok.reps, ok.ali, ok.aliS, ?_, ok.len⟩
  ·have e1 := set_heap1 (k := 12) hfil v'
   have e2 := (k7.cells _ _ _ _ e1 (by decide)).trans e1
   exact (k8.cells _ _ _ _ e2 (by decide)).trans e2
  ·have e1 := own_kq (own_kq (own_kq o5 k6 (by decide)) k7 (by decide)) k8 (by decide)
   show World.ownsRow _ _ _ _ _ (R.file.rules ++ [r]).length (((R.file.rules ++ [r]).zip (P.nv ++ [u])).flatMap fun p => rulC p.1 p.2)
   rw [zip_snoc h.file.rulF.1, List.length_append]
   exact e1
  ·simp [h.file.rulF.1]
  ·intro i v q hv hq
   rcases snoc_get hv with ⟨_, hv⟩ | ⟨hi, hv⟩
   ·rcases snoc_get hq with ⟨_, hq⟩ | ⟨hi2, hq⟩
    ·exact fnx_kq (h4.file.rulF.2 i v q hv hq) kk (by decide)
    ·have := h.file.rulF.1; omega
   ·rcases snoc_get hq with ⟨hi2, hq⟩ | ⟨hi2, hq⟩
    ·have := h.file.rulF.1; omega
    ·subst hv hq
     exact (fnx_kq hu kk (by decide)).low hB
  ·simp; omega
 refine ⟨h.kq kw hf rfl rfl rfl ?_ ?_ rfl rfl rfl rfl (by decide) (by decide) (fun x => x), kw.kt hlow (by decide) (fun g x => x.elim)⟩
 ·exact set_heap1 hrd l'
 ·have e1 := own_kq o7 k8 (by decide)
  show World.ownsRow _ _ _ _ _ (R.file.rules ++ [r]).length ((R.file.rules ++ [r]).map linC)
  rw [List.length_append, List.map_append]
  simpa [linC, hr] using e1
theorem infoR : (Tryz.prog.info? 90).map (fun i => (i.zero, i.size, i.bytes)) = some (some (.agg #[.string ⟨#[]⟩, .string ⟨#[]⟩]), 2, 32) := by kernel_rfl
theorem infoA : (Tryz.prog.info? 54).map (fun i => (i.zero, i.size, i.bytes)) = some (some (.slice none 0 0), 1, 24) := by kernel_rfl
theorem repStep_g {R : Rdr} {key : Bs} {e : Er} (h : grow R [key] = .error e) : repStep key R = .error e := by unfold repStep; rw [h]
theorem repStep_r {R R1 : Rdr} {key : Bs} {row : List Bs} {e : Er} (h : grow R [key] = .ok (row, R1)) (hr : repRow R1.line row = .error e) : repStep key R = .error e := by unfold repStep; rw [h]; simp [hr]
theorem repStep_ok {R R1 : Rdr} {key : Bs} {row : List Bs} {p : Bs × Bs} (h : grow R [key] = .ok (row, R1)) (hr : repRow R1.line row = .ok p) : repStep key R = .ok { R1 with file := { R1.file with reps := R1.file.reps ++ [p] } } := by unfold repStep; rw [h]; simp [hr]
theorem repRow_n {l : Nat} {row : List Bs} (h : row.length ≠ 3) : repRow l row = .error (l, 111) := by unfold repRow; rw [if_pos h]
theorem repRow_p {l : Nat} {row : List Bs} {e : Er} (h : row.length = 3) (hp : piece l (fld row 1) = .error e) : repRow l row = .error e := by unfold repRow; rw [if_neg (by omega), hp]
theorem repRow_q {l : Nat} {row : List Bs} {e : Er} {a : Bs} (h : row.length = 3) (hp : piece l (fld row 1) = .ok a) (hq : piece0 l (fld row 2) = .error e) : repRow l row = .error e := by unfold repRow; rw [if_neg (by omega), hp]; simp [hq]
theorem repRow_ok {l : Nat} {row : List Bs} {a b : Bs} (h : row.length = 3) (hp : piece l (fld row 1) = .ok a) (hq : piece0 l (fld row 2) = .ok b) : repRow l row = .ok (a, b) := by unfold repRow; rw [if_neg (by omega), hp]; simp [hq]
theorem doReps_n {R : Rdr} {hd : List Bs} {e : Er} (h : numb R.line (fld hd 1) 256 = .error e) : doReps R hd = .error e := by unfold doReps; rw [h]
theorem doReps_t {R : Rdr} {hd : List Bs} {n : Nat} (h : numb R.line (fld hd 1) 256 = .ok n) : doReps R hd = times (repStep (fld hd 0)) n R := by unfold doReps; rw [h]
theorem aliStep_g {R : Rdr} {key : Bs} {e : Er} (h : grow R [key] = .error e) : aliStep key R = .error e := by unfold aliStep; rw [h]
theorem aliStep_r {R R1 : Rdr} {key : Bs} {row : List Bs} {e : Er} (h : grow R [key] = .ok (row, R1)) (hr : aliRow R1.file R1.line row = .error e) : aliStep key R = .error e := by unfold aliStep; rw [h]; simp [hr]
theorem aliStep_ok {R R1 : Rdr} {key : Bs} {row : List Bs} {p : List Int} (h : grow R [key] = .ok (row, R1)) (hr : aliRow R1.file R1.line row = .ok p) : aliStep key R = .ok { R1 with file := { R1.file with aliases := R1.file.aliases ++ [p] } } := by unfold aliStep; rw [h]; simp [hr]
theorem aliRow_n {F : Fil} {l : Nat} {row : List Bs} (h : row.length ≠ 2) : aliRow F l row = .error (l, 111) := by unfold aliRow; rw [if_pos h]
theorem aliRow_e {F : Fil} {l : Nat} {row : List Bs} (h : row.length = 2) (he : So.rE F.kind (fld row 1) ≠ 0) : aliRow F l row = .error (l, (So.rE F.kind (fld row 1)).toNat) := by unfold aliRow; rw [if_neg (by omega), if_pos he]
theorem aliRow_ok {F : Fil} {l : Nat} {row : List Bs} (h : row.length = 2) (he : So.rE F.kind (fld row 1) = 0) : aliRow F l row = .ok (So.rS F.kind (fld row 1)) := by unfold aliRow; rw [if_neg (by omega), if_neg (fun e => e he)]
theorem doAliases_c {R : Rdr} {hd : List Bs} (h : R.file.classes ≠ []) : doAliases R hd = .error (R.line, 113) := by unfold doAliases; rw [if_pos h]
theorem doAliases_n {R : Rdr} {hd : List Bs} {e : Er} (h0 : R.file.classes = []) (h : numb R.line (fld hd 1) 1024 = .error e) : doAliases R hd = .error e := by unfold doAliases; rw [if_neg (fun e => e h0), h]
theorem doAliases_t {R : Rdr} {hd : List Bs} {n : Nat} (h0 : R.file.classes = []) (h : numb R.line (fld hd 1) 1024 = .ok n) : doAliases R hd = times (aliStep (fld hd 0)) n R := by unfold doAliases; rw [if_neg (fun e => e h0), h]
theorem numb_le {l : Nat} {f : Bs} {m n : Nat} (h : numb l f m = .ok n) : n ≤ m := by
 unfold numb at h
 split at h
 ·rename_i q
  injection h with h
  rw [← h]
  exact (num_pos q).2
 ·cases h
theorem str_at {n g m cap : Nat} {w : World} {L : List Bs} (h : StrRow n w (.slice (some ⟨g, 0, none⟩) m cap) (L.map Fld.str)) : g < w.heap.size ∧ m = L.length ∧ ∀ (j : Nat) x, L[j]? = some x → w.cell? ⟨g, j, none⟩ = some (.string (Fld.str x)) := by
 obtain ⟨g', cap', e, h1, h2, h3, h4, h5⟩ := str_cells h
 injection e with e1 e2 e3
 injection e1 with e1
 injection e1 with e1 _ _
 subst e1
 exact ⟨h1, e2, h5⟩
theorem step_app {P : Program} {ops : Array Oper} {o : Oper} {a : Act} {w : World} {K : Act → World → Prop} {Q : Exit → Act → World → Prop} {E : Prop}
  (hg : o.guard = none) (s x : Operand) (t : TypeId) (hop : o.op = Op.call { callee := Callee.builtin Builtin.append, args := #[s, x], argTypes := #[t, t] })
  (v u v' : Value) (w' : World) (hs : a.eval s = v) (hx : a.eval x = u) (hrun : (Builtin.append_ #[t, t] o.type #[v, u]).run P w = .ok v' w') (hK : K (a.put o.dst v') w') :
  if Region.wanted o (yielded ops a.tmps) = true then Oper.wp P o a w K Q else E := by
 have hw : Region.wanted o (yielded ops a.tmps) = true := by simp [Region.wanted, hg]
 rw [if_pos hw]
 unfold Oper.wp
 simp [execOp, hop, resolve, invoke, builtin, hs, hx, hrun, Result.andThen]
 exact hK
theorem RAt.addRep {B rb : Nat} {w w4 w5 : World} {R : Rdr} {P : Pts} {v' : Value} (h : RAt B w rb R P) (p : Bs × Bs) (hn : R.file.reps.length < 256) (k4 : Below w.heap.size w w4)
  (k5 : Kq [90] noM w4 w5) (l5 : Below B w4 w5) (o5 : w5.ownsRow B 90 2 v' (R.file.reps.length + 1) (R.file.reps.flatMap repC ++ repC p)) :
  RAt B (w5.setCell ⟨P.fb, 9, none⟩ v') rb { R with file := { R.file with reps := R.file.reps ++ [p] } } { P with vr := v' } ∧ Kt B P.pm P.hm w (w5.setCell ⟨P.fb, 9, none⟩ v') := by
 have hB := h.base
 have h4 := h.below k4
 have hfil : w5.heap[P.fb]? = some (.cells (filC R.file P) 97 (0, 0)) := (k5.cells _ _ _ _ h4.file.fil (by decide)).trans h4.file.fil
 have k6 : Kq [97] noM w5 (w5.setCell ⟨P.fb, 9, none⟩ v') := .kp (kp_set w5 P.fb 9 v') hfil (by simp)
 let T : List TypeId := [97, 90]
 have kk : Kq T noM w4 (w5.setCell ⟨P.fb, 9, none⟩ v') := (k5.wide (by decide) (fun _ x => x)).trans (k6.wide (by decide) (fun _ x => x))
 have kw : Kq T noM w (w5.setCell ⟨P.fb, 9, none⟩ v') := (Kq.below k4).trans kk
 have hlow : Below B w (w5.setCell ⟨P.fb, 9, none⟩ v') := ((k4.mono hB).trans l5).setCell (p := ⟨P.fb, 9, none⟩) h.file.fbB v'
 have ok := h.file.ok
 have hf : FAt B (w5.setCell ⟨P.fb, 9, none⟩ v') { R.file with reps := R.file.reps ++ [p] } { P with vr := v' } := by
  refine h4.file.kq kk rfl rfl (set_heap1 (k := 9) hfil v') (.inr ⟨rfl, fun x => x⟩) (.inl ?_) (.inr ⟨rfl, rfl, rfl, by decide⟩) (.inr ⟨rfl, rfl, by decide⟩) (.inr ⟨rfl, rfl, rfl, by decide⟩) (by decide) ⟨ok.kind, ok.spec, ok.specB, ok.cls, ?_, ok.ali, ok.aliS, ok.rul, ok.len⟩
  ·have e1 := own_kq o5 k6 (by decide)
   simpa using e1
  ·simp; omega
 refine ⟨h.kq kw hf rfl rfl rfl ((kw.cells _ _ _ _ h.rdr (by decide)).trans h.rdr) (own_kq h.lns kw (by decide)) rfl rfl rfl rfl (by decide) (by decide) (fun x => x), kw.kt hlow (by decide) (fun g x => x.elim)⟩
theorem RAt.addAli {B rb : Nat} {w w4 w5 : World} {R : Rdr} {P : Pts} {u v' : Value} (h : RAt B w rb R P) (p : List Int) (hs : So.setOf p = p ∧ p.length ≤ 1048577) (hn : R.file.aliases.length < 1024) (k4 : Below w.heap.size w w4) (hu : FNx w.heap.size w4 u p)
  (k5 : Kq [54] noM w4 w5) (l5 : Below B w4 w5) (o5 : w5.ownsRow B 54 1 v' (R.file.aliases.length + 1) (P.av ++ [u])) :
  RAt B (w5.setCell ⟨P.fb, 10, none⟩ v') rb { R with file := { R.file with aliases := R.file.aliases ++ [p] } } { P with va := v', av := P.av ++ [u] } ∧ Kt B P.pm P.hm w (w5.setCell ⟨P.fb, 10, none⟩ v') := by
 have hB := h.base
 have h4 := h.below k4
 have hfil : w5.heap[P.fb]? = some (.cells (filC R.file P) 97 (0, 0)) := (k5.cells _ _ _ _ h4.file.fil (by decide)).trans h4.file.fil
 have k6 : Kq [97] noM w5 (w5.setCell ⟨P.fb, 10, none⟩ v') := .kp (kp_set w5 P.fb 10 v') hfil (by simp)
 let T : List TypeId := [97, 54]
 have kk : Kq T noM w4 (w5.setCell ⟨P.fb, 10, none⟩ v') := (k5.wide (by decide) (fun _ x => x)).trans (k6.wide (by decide) (fun _ x => x))
 have kw : Kq T noM w (w5.setCell ⟨P.fb, 10, none⟩ v') := (Kq.below k4).trans kk
 have hlow : Below B w (w5.setCell ⟨P.fb, 10, none⟩ v') := ((k4.mono hB).trans l5).setCell (p := ⟨P.fb, 10, none⟩) h.file.fbB v'
 have ok := h.file.ok
 have hf : FAt B (w5.setCell ⟨P.fb, 10, none⟩ v') { R.file with aliases := R.file.aliases ++ [p] } { P with va := v', av := P.av ++ [u] } := by
  refine h4.file.kq kk rfl rfl (set_heap1 (k := 10) hfil v') (.inr ⟨rfl, fun x => x⟩) (.inr ⟨rfl, rfl, by decide⟩) (.inl ⟨?_, ?_, ?_⟩) (.inr ⟨rfl, rfl, by decide⟩) (.inr ⟨rfl, rfl, rfl, by decide⟩) (by decide) ⟨ok.kind, ok.spec, ok.specB, ok.cls, ok.reps, ?_, ?_, ok.rul, ok.len⟩
  ·have e1 := own_kq o5 k6 (by decide)
   simpa using e1
  ·simp [h.file.aliF.1]
  ·intro i v q hv hq
   rcases snoc_get hv with ⟨_, hv⟩ | ⟨hi, hv⟩
   ·rcases snoc_get hq with ⟨_, hq⟩ | ⟨hi2, hq⟩
    ·exact fnx_kq (h4.file.aliF.2 i v q hv hq) kk (by decide)
    ·have := h.file.aliF.1; omega
   ·rcases snoc_get hq with ⟨hi2, hq⟩ | ⟨hi2, hq⟩
    ·have := h.file.aliF.1; omega
    ·subst hv hq
     exact (fnx_kq hu kk (by decide)).low hB
  ·simp; omega
  ·intro a ha
   rcases List.mem_append.1 ha with q | q
   ·exact ok.aliS a q
   ·simp at q; subst q; exact hs
 refine ⟨h.kq kw hf rfl rfl rfl ((kw.cells _ _ _ _ h.rdr (by decide)).trans h.rdr) (own_kq h.lns kw (by decide)) rfl rfl rfl rfl (by decide) (by decide) (fun x => x), kw.kt hlow (by decide) (fun g x => x.elim)⟩
structure LP (B rb : Nat) (w W : World) (R : Rdr) (P P0 : Pts) (hv : Value) (hd : List Bs) : Prop where
 at_ : RAt B W rb R P
 kt : Kt B P0.pm P0.hm w W
 row : StrRow B W hv (hd.map Fld.str)
 eq : P.fb = P0.fb ∧ P.pm = P0.pm ∧ P.hm = P0.hm
theorem LP.start {B rb : Nat} {w : World} {R : Rdr} {P : Pts} {hv : Value} {hd : List Bs} (h : RAt B w rb R P) (hr : StrRow B w hv (hd.map Fld.str)) : LP B rb w w R P P hv hd := ⟨h, Kt.refl _ _ _ _, hr, rfl, rfl, rfl⟩
theorem LP.below {B rb : Nat} {w W W' : World} {R : Rdr} {P P0 : Pts} {hv : Value} {hd : List Bs} (h : LP B rb w W R P P0 hv hd) (b : Below W.heap.size W W') : LP B rb w W' R P P0 hv hd :=
 ⟨h.at_.below b, h.kt.trans (Kt.of_below b h.at_.base), str_kept h.row (below_kept b), h.eq⟩
theorem LP.grow {B rb : Nat} {w W W' : World} {R R1 : Rdr} {P P0 : Pts} {hv rv : Value} {hd : List Bs} (h : LP B rb w W R P P0 hv hd) (k : Kp rb W W') (l : Below B W W') (r : RAt B W' rb R1 { P with rv := rv }) : LP B rb w W' R1 { P with rv := rv } P0 hv hd := by
 have kt : Kt B P0.pm P0.hm W W' := by rw [← h.eq.2.1, ← h.eq.2.2]; exact h.at_.kt k l
 exact ⟨r, h.kt.trans kt, kt.str h.row, h.eq⟩
theorem LP.turn {B rb : Nat} {w W W' : World} {R R1 : Rdr} {P P' P0 : Pts} {hv : Value} {hd : List Bs} (h : LP B rb w W R P P0 hv hd) (r : RAt B W' rb R1 P' ∧ Kt B P.pm P.hm W W') (e : P'.fb = P.fb ∧ P'.pm = P.pm ∧ P'.hm = P.hm) : LP B rb w W' R1 P' P0 hv hd := by
 have kt : Kt B P0.pm P0.hm W W' := by rw [← h.eq.2.1, ← h.eq.2.2]; exact r.2
 exact ⟨r.1, h.kt.trans kt, kt.str h.row, e.1.trans h.eq.1, e.2.1.trans h.eq.2.1, e.2.2.trans h.eq.2.2⟩
theorem LP.yes {B rb : Nat} {w W : World} {R : Rdr} {P P0 : Pts} {hv : Value} {hd : List Bs} {X : Except Er Rdr} (h : LP B rb w W R P P0 hv hd) (hX : X = .ok R) : Res B rb P0 w X (.returned (.tuple #[])) W := Res.yes hX h.kt h.at_ h.eq.1 h.eq.2.1 h.eq.2.2
theorem LP.no {B rb : Nat} {w W W' : World} {R : Rdr} {P P0 : Pts} {hv : Value} {hd : List Bs} {X : Except Er Rdr} {er : Er} (h : LP B rb w W R P P0 hv hd) (b : Below W.heap.size W W') (hX : X = .error er) : Res B rb P0 w X (.panicked (chn er)) W' := Res.no hX (h.kt.trans (Kt.of_below b h.at_.base))
theorem LP.no2 {B rb : Nat} {w W W' : World} {R : Rdr} {P P0 : Pts} {hv : Value} {hd : List Bs} {X : Except Er Rdr} {er : Er} (h : LP B rb w W R P P0 hv hd) (k : Kp rb W W') (l : Below B W W') (hX : X = .error er) : Res B rb P0 w X (.panicked (chn er)) W' := by
 refine Res.no hX (h.kt.trans ?_)
 rw [← h.eq.2.1, ← h.eq.2.2]
 exact h.at_.kt k l
theorem str_new (W : World) (L : List Bs) (h : L.length ≤ 1000) (_h0 : L ≠ []) : StrRow W.heap.size (W.alloc (.cells (L.map fun x => Value.string (Fld.str x)).toArray 9)) (.slice (some ⟨W.heap.size, 0, none⟩) L.length L.length) (L.map Fld.str) := by
 refine ⟨W.heap.size, L.length, _, by simp, Nat.le_refl _, alloc_new W _, by simp, by unfold maxLen; omega, by simp, ?_⟩
 rw [List.take_of_length_le (by simp)]
 simp
theorem grow_rows {R R1 : Rdr} {beg row : List Bs} (h : Af.grow R beg = .ok (row, R1)) : ∃ l t, R.rows = (l, row) :: t ∧ R1.rows = t ∧ R1.line = l ∧ R1.file = R.file ∧ R1.heads = R.heads ∧ R1.behind = R.behind := by
 obtain ⟨l, t, h1, h2⟩ := grow_fld h
 subst h2
 exact ⟨l, t, h1, rfl, rfl, rfl, rfl, rfl⟩
theorem grow_len {R R1 : Rdr} {beg row : List Bs} (hk : RowsOk R.rows) (h : Af.grow R beg = .ok (row, R1)) : row ≠ [] ∧ ∀ f ∈ row, f.length ≤ 65536 := by
 obtain ⟨l, t, h1, -⟩ := grow_fld h
 have := hk (l, row) (by rw [h1]; simp)
 exact ⟨this.2.1, this.2.2⟩
theorem doLeast_n {R : Rdr} {f : Bs} {e : Er} (h : numb R.line f 64 = .error e) : doLeast R f = .error e := by unfold doLeast; rw [h]
theorem doLeast_0 {R : Rdr} {f : Bs} (h : numb R.line f 64 = .ok 0) : doLeast R f = .error (R.line, 13) := by unfold doLeast; rw [h]; rfl
theorem doLeast_ok {R : Rdr} {f : Bs} {n : Nat} (h : numb R.line f 64 = .ok n) (h0 : n ≠ 0) : doLeast R f = .ok { R with file := { R.file with least := n } } := by unfold doLeast; rw [h]; simp [h0]
theorem readLeast_any {B rb : Nat} {R : Rdr} {P : Pts} {w : World} (h : RAt B w rb R P) (k : Value) (hd : List Bs) (hv : Value) (hrow : StrRow B w hv (hd.map Fld.str)) (hlen : hd.length = 2) (hf : ∀ f ∈ hd, f.length ≤ 65536) :
  Calls Tryz.prog 77 #[ptr rb, hv, k] w (Res B rb P w (doLeast R (fld hd 1))) := by
 obtain ⟨d0, -, hl, -, -, -, -⟩ := h.cells
 have hb := h.lt
 have HH := hide h
 obtain ⟨g, cap, rfl, hg, h1, h2, -, hcl⟩ := str_cells hrow
 unfold maxLen at h2
 have q1 := hcl 1 _ (fld_get (by omega))
 have hf1 := hf _ (List.mem_of_getElem? (fld_get (row := hd) (i := 1) (by omega)))
 have HN := hide (number_any rb R.line (Fld.str (fld hd 1)) 64 w (by rw [fstr_wd, Wd.str_size]; omega) (by decide) hl)
 have e1 : (Fld.str (fld hd 1)).data.toList = fld hd 1 := by simp [Fld.str]
 rw [e1] at HN
 have HL := hide hl
 rw [hlen] at h1 ⊢
 clear hcl hf hf1 e1 hrow hlen hl
 cases hn : numb R.line (fld hd 1) 64 with
 | error er =>
  have HX := hide (doLeast_n hn)
  have HNN := hide (noOf (unhide HN) hn)
  clear HN hn h d0
  generalize Fld.str (fld hd 1) = r1 at *
  go_enter Tryz.func77, Tryz.ntmps77
  go_wp2_with (go_at_call 101; refine (unhide HNN).mono ?_; rintro e w4 ⟨rfl, rfl⟩)
  exact ⟨rfl, Res.no (unhide HX) (Kt.refl _ _ _ _)⟩
 | ok n =>
  have HNN := hide (okOf (unhide HN) hn)
  by_cases h0 : n = 0
  ·subst h0
   have HX := hide (doLeast_0 hn)
   have HV := hide (leaveIf_no rb R.line 13 w (by decide) (by decide) (unhide HL))
   clear HN hn h d0
   generalize Fld.str (fld hd 1) = r1 at *
   go_enter Tryz.func77, Tryz.ntmps77
   go_wp2_with (first | (go_at_call 101; refine (unhide HNN).mono ?_; rintro e w4 ⟨rfl, rfl⟩) | (go_at_call 82; refine (unhide HV).mono ?_; rintro e w5 ⟨rfl, rfl⟩))
   exact ⟨rfl, Res.no (unhide HX) (Kt.refl _ _ _ _)⟩
  ·have HX := hide (doLeast_ok hn h0)
   obtain ⟨kc, kz⟩ : w.cell? ⟨P.fb, 8, none⟩ = some (.int .i64 (R.file.least : Nat)) ∧ ∀ j, w.frozen? ⟨P.fb, j, none⟩ = false := by
    have := h.file.fil
    simp [World.cell?, World.frozen?, this, filC]
   have hfb := h.file.lt
   have ok := h.file.ok
   have HF := hide (h.fset (Below.refl _ w) (F' := { R.file with least := n }) 8 (.int .i64 (n : Nat)) rfl rfl rfl rfl rfl ⟨ok.kind, ok.spec, ok.specB, ok.cls, ok.reps, ok.ali, ok.aliS, ok.rul, ok.len⟩)
   have hni : ((n : Int) == 0) = false := by simpa using h0
   have h0i : ¬ (n : Int) = 0 := by omega
   clear HN hn h ok h0
   generalize Fld.str (fld hd 1) = r1 at *
   go_enter Tryz.func77, Tryz.ntmps77
   go_wp2_with (first | (go_at_call 101; refine (unhide HNN).mono ?_; rintro e w4 ⟨rfl, rfl⟩) | (go_at_call 82; refine (leaveIf_f _ _ _ _ (by first | rfl | exact hni)).mono ?_; rintro e w5 ⟨rfl, rfl⟩))
   go_end0
   exact Res.yes (unhide HX) (unhide HF).2 (unhide HF).1 rfl rfl rfl
theorem doLetters_no {R : Rdr} {f : Bs} (h : VlW.okB f = false) : doLetters R f = .error (R.line, 21) := by unfold doLetters; rw [h]; rfl
theorem doLetters_ok {R : Rdr} {f : Bs} (h : VlW.okB f = true) : doLetters R f = .ok { R with file := { R.file with letters := Wd.uq [] f } } := by unfold doLetters; rw [if_pos h]
theorem readTry_any {B rb : Nat} {R : Rdr} {P : Pts} {w : World} (h : RAt B w rb R P) (k : Value) (hd : List Bs) (hv : Value) (hrow : StrRow B w hv (hd.map Fld.str)) (hlen : hd.length = 2) (hf : ∀ f ∈ hd, f.length ≤ 65536) :
  Calls Tryz.prog 75 #[ptr rb, hv, k] w (Res B rb P w (doLetters R (fld hd 1))) := by
 obtain ⟨d0, -, hl, -, -, -, -⟩ := h.cells
 have hb := h.lt
 have HH := hide h
 obtain ⟨g, cap, rfl, hg, h1, h2, -, hcl⟩ := str_cells hrow
 unfold maxLen at h2
 have q1 := hcl 1 _ (fld_get (by omega))
 have hf1 := hf _ (List.mem_of_getElem? (fld_get (row := hd) (i := 1) (by omega)))
 have e1 : (Fld.str (fld hd 1)).data.toList = fld hd 1 := by simp [Fld.str]
 have hsz : (Fld.str (fld hd 1)).size ≤ 140737488355328 := by rw [fstr_wd, Wd.str_size]; omega
 rw [hlen] at h1 ⊢
 clear hcl hf hf1 hrow hlen
 cases ho : VlW.okB (fld hd 1) with
 | false =>
  have HX := hide (doLetters_no (R := R) ho)
  have HT := hide (LtR.letters_bad (Fld.str (fld hd 1)) w hsz (by rw [e1]; exact ho))
  have HV := hide (leave_no rb R.line 21 w (by decide) (by decide) hl)
  clear ho h d0 hsz e1 hl
  generalize Fld.str (fld hd 1) = r1 at *
  go_enter Tryz.func75, Tryz.ntmps75
  go_wp2_with (first | (go_at_call 99; refine (unhide HT).mono ?_; rintro e w2 ⟨rfl, rfl⟩) | (go_at_call 72; refine (unhide HV).mono ?_; rintro e w3 ⟨rfl, rfl⟩))
  exact ⟨rfl, Res.no (unhide HX) (Kt.refl _ _ _ _)⟩
 | true =>
  have HX := hide (doLetters_ok (R := R) ho)
  have HT := hide (LtW.letters_ok (Fld.str (fld hd 1)) w hsz (by rw [e1]; exact ho))
  rw [e1] at HT
  have hfb := h.file.lt
  have ok := h.file.ok
  have HF := hide (fun w0 (b : Below w.heap.size w w0) => h.fset b (F' := { R.file with letters := Wd.uq [] (fld hd 1) }) 2 (.string (Wd.str (Wd.uq [] (fld hd 1)))) rfl rfl rfl rfl rfl ⟨ok.kind, ok.spec, ok.specB, ok.cls, ok.reps, ok.ali, ok.aliS, ok.rul, ok.len⟩)
  have HC : Hid (∀ w0, Below w.heap.size w w0 → w0.cell? ⟨rb, 0, none⟩ = some (.pointer (some ⟨P.fb, 0, none⟩)) ∧ w0.cell? ⟨P.fb, 2, none⟩ = some (.string (Wd.str R.file.letters)) ∧ P.fb < w0.heap.size ∧ ∀ j, w0.frozen? ⟨P.fb, j, none⟩ = false) := fun w0 b => by
   have h0 := h.below b
   have := h0.file.fil
   refine ⟨h0.cells.1, by simp [World.cell?, this, filC], h0.file.lt, fun j => by simp [World.frozen?, this]⟩
  have HL := hide (fun W => leave_ok (ptr rb) W)
  clear ho h d0 hsz e1 hl ok hfb
  generalize Fld.str (fld hd 1) = r1 at *
  go_enter Tryz.func75, Tryz.ntmps75
  go_wp2_with (first | (go_at_call 99; refine (unhide HT).mono ?_; rintro e w2 ⟨rfl, b2⟩; obtain ⟨f1, f2, f3, f4⟩ := unhide HC _ b2; have HB2 := hide b2; clear b2) | (go_at_call 72; refine (unhide HL _).mono ?_; rintro e w3 ⟨rfl, rfl⟩))
  go_end0
  exact Res.yes (unhide HX) (unhide HF _ (unhide HB2)).2 (unhide HF _ (unhide HB2)).1 rfl rfl rfl
theorem clone_txt (s : ByteArray) (w : World) (hs : s.size ≤ 67108864) : Calls Tryz.prog 98 #[.string s] w fun e w' => e = .returned (.string s) ∧ Below w.heap.size w w' := by
 have HC := hide (fun W => Tryz.stringslite_Clone s W (by omega))
 go_enter Tryz.func98, Tryz.ntmps98
 go_wp2_with (go_at_call 128; refine (unhide HC _).mono ?_; rintro e w1 ⟨rfl, hb⟩; have HB := hide hb; clear hb)
 go_ret
 exact ⟨rfl, unhide HB⟩
theorem doCharset_no {R : Rdr} {f : Bs} (h : VlW.okB f = false) : doCharset R f = .error (R.line, 21) := by unfold doCharset; rw [h]; rfl
theorem doCharset_ok {R : Rdr} {f : Bs} (h : VlW.okB f = true) : doCharset R f = .ok { R with file := { R.file with charset := f } } := by unfold doCharset; rw [if_pos h]
theorem readCharset_any {B rb : Nat} {R : Rdr} {P : Pts} {w : World} (h : RAt B w rb R P) (k : Value) (hd : List Bs) (hv : Value) (hrow : StrRow B w hv (hd.map Fld.str)) (hlen : hd.length = 2) (hf : ∀ f ∈ hd, f.length ≤ 65536) :
  Calls Tryz.prog 74 #[ptr rb, hv, k] w (Res B rb P w (doCharset R (fld hd 1))) := by
 obtain ⟨d0, -, hl, -, -, -, -⟩ := h.cells
 have hb := h.lt
 have HH := hide h
 obtain ⟨g, cap, rfl, hg, h1, h2, ⟨gcur, hgc⟩, hcl⟩ := str_cells hrow
 have HNG : Hid (P.fb ≠ g) := fun e => by
  rw [← e, h.file.fil] at hgc
  injection hgc with hgc
  injection hgc with _ hgc _
  exact absurd hgc (by decide)
 clear hgc
 unfold maxLen at h2
 have q1 := hcl 1 _ (fld_get (by omega))
 have hf1 := hf _ (List.mem_of_getElem? (fld_get (row := hd) (i := 1) (by omega)))
 have e1 : (Fld.str (fld hd 1)).data.toList = fld hd 1 := by simp [Fld.str]
 have hsz : (Fld.str (fld hd 1)).size ≤ 65536 := by rw [fstr_wd, Wd.str_size]; omega
 have HC := hide (checkBytes_any rb R.line (Fld.str (fld hd 1)) w hsz hb hl)
 rw [e1] at HC
 rw [hlen] at h1 ⊢
 clear hcl hf hrow hlen
 cases ho : VlW.okB (fld hd 1) with
 | false =>
  have HX := hide (doCharset_no (R := R) ho)
  have HT := hide (noOf (unhide HC) (ckB_no ho))
  have HB := hide h.base
  clear ho h d0 hsz e1 hl HC hf1
  generalize Fld.str (fld hd 1) = r1 at *
  go_enter Tryz.func74, Tryz.ntmps74
  go_wp2_with (go_at_call 97; refine (unhide HT).mono ?_; rintro e w2 ⟨rfl, b2⟩)
  exact ⟨rfl, Res.no (unhide HX) (Kt.of_below b2 (unhide HB))⟩
 | true =>
  have HX := hide (doCharset_ok (R := R) ho)
  have HT := hide (okOf (unhide HC) (ckB_ok ho))
  have HCT := hide (fun W => clone_txt (Fld.str (fld hd 1)) W (by omega))
  have ok := h.file.ok
  have HF := hide (fun w0 (b : Below w.heap.size w w0) => h.fset b (F' := { R.file with charset := fld hd 1 }) 1 (.string (Fld.str (fld hd 1))) rfl rfl rfl rfl rfl ⟨ok.kind, ok.spec, ok.specB, ok.cls, ok.reps, ok.ali, ok.aliS, ok.rul, hf1⟩)
  have HCC : Hid (∀ w0, Below w.heap.size w w0 → w0.cell? ⟨rb, 0, none⟩ = some (.pointer (some ⟨P.fb, 0, none⟩)) ∧ w0.cell? ⟨P.fb, 1, none⟩ = some (.string (Wd.str R.file.charset)) ∧ P.fb < w0.heap.size ∧ ∀ j, w0.frozen? ⟨P.fb, j, none⟩ = false) := fun w0 b => by
   have h0 := h.below b
   have := h0.file.fil
   refine ⟨h0.cells.1, by simp [World.cell?, this, filC], h0.file.lt, fun j => by simp [World.frozen?, this]⟩
  have HNE : Hid (P.fb ≠ rb) := fun e => h.ne e.symm
  clear ho h d0 hsz e1 hl HC hf1 ok
  generalize Fld.str (fld hd 1) = r1 at *
  go_enter Tryz.func74, Tryz.ntmps74
  go_wp2_with (go_at_call 97; refine (unhide HT).mono ?_; rintro e w2 ⟨rfl, b2⟩; have HB2 := hide b2; clear b2)
  obtain ⟨f1, -, -, -⟩ := unhide HCC _ (unhide HB2)
  have g1 := ((unhide HB2).cell (p := ⟨g, 1, none⟩) hg).trans q1
  have sA : (w2.drew.cell? ⟨rb, 0, none⟩ = some (.pointer (some ⟨P.fb, 0, none⟩)) ∧ w2.drew.cell? ⟨g, 1, none⟩ = some (.string r1)) := ⟨f1, g1⟩
  clear f1 g1
  go_region_held2 (fun w' => w'.cell? ⟨rb, 0, none⟩ = some (.pointer (some ⟨P.fb, 0, none⟩)) ∧ w'.cell? ⟨g, 1, none⟩ = some (.string r1)) (first | (with_reducible exact s6) | (with_reducible exact s5) | (with_reducible exact sA)) (first | (go_at_call 98; refine (unhide HCT _).mono ?_; rintro e w5 ⟨rfl, b5⟩; have HB5 := hide (btr (unhide HB2).drew b5); obtain ⟨n1, n2, n3, n4⟩ := unhide HCC _ (unhide HB5); have s5 : (w5.cell? ⟨rb, 0, none⟩ = some (.pointer (some ⟨P.fb, 0, none⟩)) ∧ w5.cell? ⟨g, 1, none⟩ = some (.string r1)) := ⟨n1, ((unhide HB5).cell (p := ⟨g, 1, none⟩) hg).trans q1⟩; have s6 : ((w5.setCell ⟨P.fb, 1, none⟩ (.string r1)).cell? ⟨rb, 0, none⟩ = some (.pointer (some ⟨P.fb, 0, none⟩)) ∧ (w5.setCell ⟨P.fb, 1, none⟩ (.string r1)).cell? ⟨g, 1, none⟩ = some (.string r1)) := ⟨(World.cell?_setCell_far _ _ _ _ (unhide HNE)).trans s5.1, (World.cell?_setCell_far _ _ _ _ (unhide HNG)).trans s5.2⟩; clear b5 n1))
  go_wp2
  go_end0
  exact Res.yes (unhide HX) (unhide HF _ (unhide HB5)).2 (unhide HF _ (unhide HB5)).1 rfl rfl rfl
theorem calls_nof {g : FuncId} {args : Array Value} {w W : World} {er : Er} {Q : Ending → World → Prop} (r : Value) (b : Below w.heap.size w W) (h : ∀ W, Below w.heap.size w W → Calls Tryz.prog g args W fun e w' => e = .panicked (chn er) ∧ Below W.heap.size W w') (k : ∀ w', Below w.heap.size w w' → Q (.panicked (chn er)) w') (_d : Hid False → Q (.returned r) W) : Calls Tryz.prog g args W Q :=
 (h W b).mono fun e w' q => by rw [q.1]; exact k w' (b.trans (q.2.mono b.size))
theorem doSpecial_no {i : Nat} {R : Rdr} {f : Bs} {e : Er} (h : newFlag R f = .error e) : doSpecial i R f = .error e := by unfold doSpecial; rw [h]
theorem doSpecial_ok {i : Nat} {R : Rdr} {f : Bs} {x : Int} (h : newFlag R f = .ok x) : doSpecial i R f = .ok { R with file := { R.file with specials := R.file.specials.set i x } } := by unfold doSpecial; rw [h]
theorem five {l : List Int} (h : l.length = 5) : ∃ a b c d e, l = [a, b, c, d, e] := by
 match l, h with
 | [a, b, c, d, e], _ => exact ⟨a, b, c, d, e, rfl⟩
theorem spec_ok {F : Fil} (ok : FilOk F) (i : Nat) (x : Int) (h0 : 0 ≤ x) (h1 : x ≤ 65535) : FilOk { F with specials := F.specials.set i x } := by
 refine ⟨ok.kind, by simpa using ok.spec, fun y hy => ?_, ok.cls, ok.reps, ok.ali, ok.aliS, ok.rul, ok.len⟩
 rcases List.mem_or_eq_of_mem_set hy with q | q
 ·exact ok.specB y q
 ·subst q; exact ⟨h0, h1⟩
theorem filC_spec {W : World} {F : Fil} {P : Pts} {i : Nat} (hi : i < 5) (h : W.heap[P.fb]? = some (.cells (filC F P) 97 (0, 0))) : W.cell? ⟨P.fb, 3 + i, none⟩ = some (.int .u16 (F.specials.getD i 0)) := by
 rcases i with _ | _ | _ | _ | _ | i <;> first | omega | simp [World.cell?, h, filC]
theorem spec_setP {F : Fil} {P : Pts} {i : Nat} (hi : i < 5) (ok : FilOk F) (x : Int) : (filC F P).setIfInBounds (3 + i) (.int .u16 x) = filC { F with specials := F.specials.set i x } P := by
 obtain ⟨s0, s1, s2, s3, s4, hsp⟩ := five ok.spec
 rcases i with _ | _ | _ | _ | _ | i <;> first | omega | simp [filC, hsp]
theorem readSpecial_any {B rb i : Nat} (hi : i < 5) {R : Rdr} {P : Pts} {w : World} (h : RAt B w rb R P) (hd : List Bs) (hv : Value) (hrow : StrRow B w hv (hd.map Fld.str)) (hlen : hd.length = 2) (hf : ∀ f ∈ hd, f.length ≤ 65536) :
  Calls Tryz.prog 76 #[ptr rb, hv, .int .i64 (i : Nat)] w (Res B rb P w (doSpecial i R (fld hd 1))) := by
 obtain ⟨d0, -, hl, -, -, -, -⟩ := h.cells
 have hb := h.lt
 have hfb := h.file.lt
 have HH := hide h
 have hi5 : (i : Int) < 5 := by omega
 have hi0 : ¬ (i : Int) < 0 := by omega
 obtain ⟨g, cap, rfl, hg, h1, h2, ⟨gcur, hgc⟩, hcl⟩ := str_cells hrow
 have HNG : Hid (P.fb ≠ g) := fun e => by
  rw [← e, h.file.fil] at hgc
  injection hgc with hgc
  injection hgc with _ hgc _
  exact absurd hgc (by decide)
 clear hgc
 have HNE : Hid (P.fb ≠ rb) := fun e => h.ne e.symm
 unfold maxLen at h2
 have q1 := hcl 1 _ (fld_get (by omega))
 have hf1 := hf _ (List.mem_of_getElem? (fld_get (row := hd) (i := 1) (by omega)))
 have HN := hide (fun W (b : Below w.heap.size w W) => newFlag_all (h.below b) (Fld.str (fld hd 1)) (by rw [fstr_wd, Wd.str_size]; omega))
 have e1 : (Fld.str (fld hd 1)).data.toList = fld hd 1 := by simp [Fld.str]
 rw [e1] at HN
 rw [hlen] at h1 ⊢
 clear hcl hf hrow hlen hf1 e1
 cases hn : newFlag R (fld hd 1) with
 | error er =>
  have HX := hide (doSpecial_no (i := i) hn)
  have HNN := hide (fun W b => noOf (unhide HN W b) hn)
  obtain ⟨k3, kz⟩ : (∃ u, w.cell? ⟨P.fb, 3 + i, none⟩ = some u) ∧ ∀ j, w.frozen? ⟨P.fb, j, none⟩ = false := by
   have := h.file.fil
   exact ⟨⟨_, filC_spec hi this⟩, fun j => by simp [World.frozen?, this]⟩
  obtain ⟨u, ku⟩ := k3
  clear HN hn h hl
  generalize Fld.str (fld hd 1) = r1 at *
  have sA : (w.drew.cell? ⟨rb, 0, none⟩ = some (.pointer (some ⟨P.fb, 0, none⟩)) ∧ w.drew.cell? ⟨g, 1, none⟩ = some (.string r1)) := ⟨d0, q1⟩
  have s6 : ∀ v, ((w.setCell ⟨P.fb, 3 + i, none⟩ v).drew.cell? ⟨rb, 0, none⟩ = some (.pointer (some ⟨P.fb, 0, none⟩)) ∧ (w.setCell ⟨P.fb, 3 + i, none⟩ v).drew.cell? ⟨g, 1, none⟩ = some (.string r1)) := fun v => ⟨(World.cell?_setCell_far w ⟨P.fb, _, none⟩ _ v (unhide HNE)).trans d0, (World.cell?_setCell_far w ⟨P.fb, _, none⟩ _ v (unhide HNG)).trans q1⟩
  go_enter Tryz.func76, Tryz.ntmps76
  go_wp2_with fail
  go_region_held2 (fun w' => (w'.cell? ⟨rb, 0, none⟩ = some (.pointer (some ⟨P.fb, 0, none⟩)) ∧ w'.cell? ⟨g, 1, none⟩ = some (.string r1))) (first | (with_reducible exact s6 _) | (with_reducible exact sA)) (first | (go_at_call 100; refine calls_nof (.int .u16 0) (by (repeat (first | exact Below.refl _ _ | refine Below.drew ?_ | refine Below.alloc ?_ (by first | (simp; done) | (simp; omega)) _ | refine Below.setCell ?_ (by first | (simp; done) | (simp; omega)) _))) (unhide HNN) (fun w4 b4 => ⟨rfl, Res.no (unhide HX) (Kt.of_below b4 (unhide HH).base)⟩) ?_; intro HF))
  all_goals exact (unhide HF).elim
 | ok x =>
  have HX := hide (doSpecial_ok (i := i) hn)
  have HNN := hide (fun W b => okOf (unhide HN W b) hn)
  unfold flgV at HNN
  obtain ⟨x1, x2, -, -⟩ := newFlag_pos hn
  have HF := hide (fun w0 (b : Below w.heap.size w w0) => h.fset b (F' := { R.file with specials := R.file.specials.set i x }) (3 + i) (.int .u16 x) (spec_setP hi h.file.ok x) rfl rfl rfl rfl (spec_ok h.file.ok i x (by omega) x2))
  have HCC : Hid (∀ w0, Below w.heap.size w w0 → w0.cell? ⟨rb, 0, none⟩ = some (.pointer (some ⟨P.fb, 0, none⟩)) ∧ w0.cell? ⟨P.fb, 3 + i, none⟩ = some (.int .u16 (R.file.specials.getD i 0)) ∧ P.fb < w0.heap.size ∧ ∀ j, w0.frozen? ⟨P.fb, j, none⟩ = false) := fun w0 b => by
   have h0 := h.below b
   have := h0.file.fil
   refine ⟨h0.cells.1, filC_spec hi this, h0.file.lt, fun j => by simp [World.frozen?, this]⟩
  clear HN hn h hl x1 x2
  generalize Fld.str (fld hd 1) = r1 at *
  have sA : (w.drew.cell? ⟨rb, 0, none⟩ = some (.pointer (some ⟨P.fb, 0, none⟩)) ∧ w.drew.cell? ⟨g, 1, none⟩ = some (.string r1)) := ⟨d0, q1⟩
  go_enter Tryz.func76, Tryz.ntmps76
  go_wp2_with fail
  go_region_held2 (fun w' => (w'.cell? ⟨rb, 0, none⟩ = some (.pointer (some ⟨P.fb, 0, none⟩)) ∧ w'.cell? ⟨g, 1, none⟩ = some (.string r1))) (first | (with_reducible exact s6) | (with_reducible exact s5) | (with_reducible exact sA)) (first | (go_at_call 100; refine (unhide HNN _ (by (repeat (first | exact Below.refl _ _ | refine Below.drew ?_ | refine Below.alloc ?_ (by first | (simp; done) | (simp; omega)) _ | refine Below.setCell ?_ (by first | (simp; done) | (simp; omega)) _)))).mono ?_; rintro e w5 ⟨rfl, b5⟩; have HB5 := hide (btr ((Below.refl _ w).drew) b5); obtain ⟨n1, n2, n3, n4⟩ := unhide HCC _ (unhide HB5); have s5 : (w5.cell? ⟨rb, 0, none⟩ = some (.pointer (some ⟨P.fb, 0, none⟩)) ∧ w5.cell? ⟨g, 1, none⟩ = some (.string r1)) := ⟨n1, ((unhide HB5).cell (p := ⟨g, 1, none⟩) hg).trans q1⟩; have s6 : ((w5.setCell ⟨P.fb, 3 + i, none⟩ (.int .u16 x)).cell? ⟨rb, 0, none⟩ = some (.pointer (some ⟨P.fb, 0, none⟩)) ∧ (w5.setCell ⟨P.fb, 3 + i, none⟩ (.int .u16 x)).cell? ⟨g, 1, none⟩ = some (.string r1)) := ⟨(World.cell?_setCell_far _ _ _ _ (unhide HNE)).trans s5.1, (World.cell?_setCell_far _ _ _ _ (unhide HNG)).trans s5.2⟩; clear b5 n1))
  go_wp2
  go_end0
  exact Res.yes (unhide HX) (unhide HF _ (unhide HB5)).2 (unhide HF _ (unhide HB5)).1 rfl rfl rfl
end Af
namespace Af
theorem eq5 (s0 s1 s2 s3 s4 : Int) (w : World) : Sem.run Tryz.prog (Op.equalIn 10000 37 (.agg #[.int .u16 s0, .int .u16 s1, .int .u16 s2, .int .u16 s3, .int .u16 s4]) (.agg #[.int .u16 0, .int .u16 0, .int .u16 0, .int .u16 0, .int .u16 0])) w = .ok (decide (s0 = 0 ∧ s1 = 0 ∧ s2 = 0 ∧ s3 = 0 ∧ s4 = 0)) w := by
 obtain ⟨i, hi, hz⟩ := Option.map_eq_some_iff.1 So.infoF
 rw [show (10000 : Nat) = 9999 + 1 from rfl, run_equalIn_array w 9999 _ _ Tryz.underlying37 hi]
 have hc : Tryz.prog.cellsOf 36 = 1 := by kernel_rfl
 rw [hc, show List.range 5 = [0, 1, 2, 3, 4] from rfl]
 have p0 : ∀ (a b c d e : Value) (W : World), (part 36 #[a, b, c, d, e] 0).run Tryz.prog W = .ok a W := fun a b c d e W => by kernel_rfl
 have p1 : ∀ (a b c d e : Value) (W : World), (part 36 #[a, b, c, d, e] 1).run Tryz.prog W = .ok b W := fun a b c d e W => by kernel_rfl
 have p2 : ∀ (a b c d e : Value) (W : World), (part 36 #[a, b, c, d, e] 2).run Tryz.prog W = .ok c W := fun a b c d e W => by kernel_rfl
 have p3 : ∀ (a b c d e : Value) (W : World), (part 36 #[a, b, c, d, e] 3).run Tryz.prog W = .ok d W := fun a b c d e W => by kernel_rfl
 have p4 : ∀ (a b c d e : Value) (W : World), (part 36 #[a, b, c, d, e] 4).run Tryz.prog W = .ok e W := fun a b c d e W => by kernel_rfl
 have he : ∀ (x y : Int) (W : World), (Op.equalIn 9999 36 (.int .u16 x) (.int .u16 y)).run Tryz.prog W = .ok (x == y) W := fun x y W => by kernel_rfl
 simp only [Op.eqItems, Sem.run_bind, Nat.mul_one, p0, Result.andThen_ok, he]
 by_cases a0 : s0 = 0
 ·by_cases a1 : s1 = 0
  ·by_cases a2 : s2 = 0
   ·by_cases a3 : s3 = 0
    ·by_cases a4 : s4 = 0 <;> simp [a0, a1, a2, a3, a4, p1, p2, p3, p4, he]
    ·simp [a0, a1, a2, a3, p1, p2, p3, p4, he]
   ·simp [a0, a1, a2, p1, p2, p3, p4, he]
  ·simp [a0, a1, p1, p2, p3, p4, he]
 ·simp [a0]
open RowB
def nilP (fb pm hm : Nat) : Pts := ⟨fb, pm, hm, .slice none 0 0, .slice none 0 0, .slice none 0 0, .slice none 0 0, .slice none 0 0, .slice none 0 0, [], []⟩
def Fil0 : Fil := ⟨1, [], [], [0, 0, 0, 0, 0], 3, [], [], [], []⟩
def Rdr0 : Rdr := ⟨Fil0, [], 0, 0, []⟩
theorem ok0 : FilOk Fil0 := ⟨.inl rfl, rfl, by decide, by simp [Fil0], by simp [Fil0], by simp [Fil0], by simp [Fil0], by simp [Fil0], by simp [Fil0]⟩
def filA (pm : Nat) : Array Value := #[.int .i64 1, .string ⟨#[]⟩, .string ⟨#[]⟩, .int .u16 0, .int .u16 0, .int .u16 0, .int .u16 0, .int .u16 0, .int .i64 3, .slice none 0 0, .slice none 0 0, .slice none 0 0, .slice none 0 0, .map (some pm)]
def rdrA (fb hm : Nat) : Array Value := #[.pointer (some ⟨fb, 0, none⟩), .slice none 0 0, .int .i64 0, .int .i64 0, .map (some hm), .slice none 0 0]
theorem new_at (w : World) : RAt w.heap.size ((((w.alloc (.map #[] 0)).alloc (.cells (filA w.heap.size) 97)).alloc (.map #[] 0)).alloc (.cells (rdrA (w.heap.size + 1) (w.heap.size + 2)) 88)) (w.heap.size + 3) Rdr0 (nilP (w.heap.size + 1) w.heap.size (w.heap.size + 2)) := by
 have n0 := alloc_new w (.map #[] 0)
 have n1 := alloc_new (w.alloc (.map #[] 0)) (.cells (filA w.heap.size) 97)
 have n2 := alloc_new ((w.alloc (.map #[] 0)).alloc (.cells (filA w.heap.size) 97)) (.map #[] 0)
 have n3 := alloc_new (((w.alloc (.map #[] 0)).alloc (.cells (filA w.heap.size) 97)).alloc (.map #[] 0)) (.cells (rdrA (w.heap.size + 1) (w.heap.size + 2)) 88)
 simp only [World.size_alloc] at n1 n2 n3
 have m0 := MapF.made w 36
 have m2 := MapF.made ((w.alloc (.map #[] 0)).alloc (.cells (filA w.heap.size) 97)) 9
 simp only [World.size_alloc] at m2
 have e1 := alloc_heap1 (alloc_heap1 n1 (.map #[] 0)) (.cells (rdrA (w.heap.size + 1) (w.heap.size + 2)) 88)
 have hf : FAt w.heap.size ((((w.alloc (.map #[] 0)).alloc (.cells (filA w.heap.size) 97)).alloc (.map #[] 0)).alloc (.cells (rdrA (w.heap.size + 1) (w.heap.size + 2)) 88)) Fil0 (nilP (w.heap.size + 1) w.heap.size (w.heap.size + 2)) := by
  refine ⟨by simp [nilP], by simp [nilP], e1, ⟨0, Nat.zero_le _, ?_⟩, World.ownsRow_nil _ _ _ _, World.ownsRow_nil _ _ _ _, ⟨rfl, fun i v a h => by simp [nilP] at h⟩, World.ownsRow_nil _ _ _ _, World.ownsRow_nil _ _ _ _, ⟨rfl, fun i v a h => by simp [nilP] at h⟩, ok0⟩
  have := m0.kept (w' := (((w.alloc (.map #[] 0)).alloc (.cells (filA w.heap.size) 97)).alloc (.map #[] 0)).alloc (.cells (rdrA (w.heap.size + 1) (w.heap.size + 2)) 88)) ((alloc_heap1 (alloc_heap1 (alloc_heap1 n0 _) _) _).trans n0.symm)
  have e : (fun _ : Lit => (none : Option Value)) = plc Fil0.classes := by
   funext y
   unfold plc
   split <;> rfl
  rw [e] at this
  exact this
 refine ⟨by simp, by simp [nilP], n3, ⟨none, 0, rfl, Nat.le_refl _, Nat.zero_le _, fun _ => rfl, fun h => absurd rfl h⟩, ⟨0, Nat.zero_le _, ?_⟩, by simp [nilP], World.ownsRow_nil _ _ _ _, hf, ⟨by simp [Rdr0], by simp [Rdr0], by simp [Rdr0]⟩, fun p hp => by simp [Rdr0] at hp⟩
 have := m2.kept (w' := (((w.alloc (.map #[] 0)).alloc (.cells (filA w.heap.size) 97)).alloc (.map #[] 0)).alloc (.cells (rdrA (w.heap.size + 1) (w.heap.size + 2)) 88)) ((alloc_heap1 n2 _).trans n2.symm)
 have e : (fun _ : Lit => (none : Option Value)) = cnt Rdr0.heads := by
  funext y
  unfold cnt
  split
  ·simp [Rdr0]
  ·rfl
 rw [e] at this
 exact this
theorem newReader_any (w : World) : Calls Tryz.prog 33 #[] w fun e w' => e = .returned (ptr (w.heap.size + 3)) ∧ RAt w.heap.size w' (w.heap.size + 3) Rdr0 (nilP (w.heap.size + 1) w.heap.size (w.heap.size + 2)) ∧ Below w.heap.size w w' := by
 have hmm := @run_makeMap Tryz.prog
 go_enter Tryz.func33, Tryz.ntmps33
 go_wp2
 go_ret
 exact ⟨rfl, new_at w, ((((Below.refl _ w).alloc (Nat.le_refl _) _).alloc (by simp) _).alloc (by simp; omega) _).alloc (by simp; omega) _⟩
theorem field_len (l : Bs) : (∀ f ∈ (Fld.st l).1, f.length ≤ l.length) ∧ (Fld.st l).2.length ≤ l.length := by
 refine Fld.snoc_ind (P := fun l => (∀ f ∈ (Fld.st l).1, f.length ≤ l.length) ∧ (Fld.st l).2.length ≤ l.length) ?_ ?_ l
 ·simp [Fld.st_nil]
 ·rintro l c ⟨h1, h2⟩
  rw [Fld.st_snoc]
  unfold Fld.stp
  by_cases hb : Fld.blank c = true
  ·rw [if_pos hb]
   refine ⟨fun f hf => ?_, by simp⟩
   simp only at hf
   split at hf
   ·have := h1 f hf; simp; omega
   ·rcases List.mem_append.1 hf with q | q
    ·have := h1 f q; simp; omega
    ·simp at q; subst q; simp; omega
  ·rw [if_neg hb]
   exact ⟨fun f hf => by have := h1 f hf; simp; omega, by simp; omega⟩
theorem fieldsOf_each (l : Bs) : ∀ f ∈ Fld.fieldsOf l, f.length ≤ l.length := by
 intro f hf
 obtain ⟨h1, h2⟩ := field_len l
 unfold Fld.fieldsOf Fld.fin at hf
 split at hf
 ·exact h1 f hf
 ·rcases List.mem_append.1 hf with q | q
  ·exact h1 f q
  ·simp at q; subst q; exact h2
theorem rows_ok (l : Bs) (h : l.length ≤ 65536) : RowsOk (Rw.rowsOf l) := by
 intro p hp
 unfold Rw.rowsOf Rw.rowsP at hp
 obtain ⟨x, hx, hp⟩ := List.mem_flatMap.1 hp
 obtain ⟨j, hj⟩ := List.getElem?_of_mem hx
 obtain ⟨q1, li, q2, q3⟩ := Ln.num_get _ _ _ _ hj
 have hjl := (List.getElem?_eq_some_iff.1 hj).1
 have hlen := Ln.items_length l
 have hl2 := Ln.linesOf_len l
 unfold Rw.rowOf at hp
 split at hp
 ·cases hp
 ·rename_i hne
  simp only [List.mem_singleton] at hp
  subst hp
  refine ⟨by show x.1 ≤ 65536; omega, fun e => hne (by show (Rw.keep _).isEmpty = true; rw [show Rw.keep (Fld.fieldsOf x.2.data.toList) = [] from e]; rfl), fun f hf => ?_⟩
  have hf2 : f ∈ Fld.fieldsOf x.2.data.toList := by
   have hf : f ∈ Rw.keep (Fld.fieldsOf x.2.data.toList) := hf
   rw [Rw.keep_take] at hf
   exact List.mem_of_mem_take hf
  have := fieldsOf_each _ f hf2
  rw [q3] at this
  have e : (Fld.str li).data.toList = li := by simp [Fld.str]
  rw [e] at this
  have := Ln.linesOf_each l h li (List.mem_of_getElem? q2)
  omega
theorem rows_few (l : Bs) : (Rw.rowsOf l).length ≤ l.length := by
 have := Rw.rowsP_len (Ln.items l)
 rw [Ln.items_length] at this
 exact Nat.le_trans this (Ln.linesOf_len l)
theorem fits_get {n : Nat} {W : World} : ∀ {E : List (Nat × Value)} {R : List (Nat × List Bs)}, Fits n W E R → ∀ (j : Nat) r, R[j]? = some r → ∃ e, E[j]? = some e ∧ e.1 = r.1 ∧ StrRow n W e.2 (r.2.map Fld.str)
 | [], [], _, j, r, h => by simp at h
 | [], _ :: _, h, _, _, _ => h.elim
 | _ :: _, [], h, _, _, _ => h.elim
 | e :: E, s :: R, h, 0, r, hj => by
  simp only [List.getElem?_cons_zero, Option.some.injEq] at hj
  subst hj
  exact ⟨e, rfl, h.1.1, h.1.2⟩
 | e :: E, s :: R, h, j + 1, r, hj => by
  rw [List.getElem?_cons_succ] at hj
  obtain ⟨e', h1, h2⟩ := fits_get h.2 j r hj
  exact ⟨e', by rw [List.getElem?_cons_succ]; exact h1, h2⟩
theorem rowsAt_of {B n : Nat} {W : World} {v : Value} {R : List (Nat × List Bs)} (h : RowsAre n 135 W v R) (hB : B ≤ n) (hne : ∀ p ∈ R, p.2 ≠ []) : RowsAt B W v R := by
 obtain ⟨E, hf, ho, -, -⟩ := h
 have hl := hf.length
 obtain ⟨hx, ⟨e1, e2⟩ | ⟨g, cap, cur, e1, h1, hg, h2, h3, h4, h5⟩⟩ := id ho
 ·have : R = [] := by cases R with | nil => rfl | cons _ _ => simp at hl; omega
  subst this
  exact ⟨none, 0, e1, Nat.le_refl _, Nat.zero_le _, fun _ => rfl, fun h => absurd rfl h⟩
 ·refine ⟨some ⟨g, 0, none⟩, cap, by rw [e1, hl], by omega, h3, (fun e => by cases e), fun _ => ⟨g, 0, cur, rfl, by omega, hg, fun j l fs hj => ?_⟩⟩
  obtain ⟨e, a1, a2, a3⟩ := fits_get hf j _ hj
  obtain ⟨b1, b2⟩ := cellsE_get E j e a1
  have hjl := (List.getElem?_eq_some_iff.1 a1).1
  have key : ∀ i, i < E.length * 2 → cur[i]? = (cellsE E)[i]? := fun i hi => by
   rw [← h5, List.getElem?_take_of_lt hi]
   simp
  refine ⟨e.2, ?_, ?_, a3.mono hB, hne _ (List.mem_of_getElem? hj)⟩
  ·rw [Nat.zero_add, key _ (by omega), b1, a2]
  ·rw [Nat.zero_add, key _ (by omega), b2]
theorem rows_slice {n : Nat} {t : TypeId} {W : World} {v : Value} {R : List (Nat × List Bs)} (h : RowsAre n t W v R) : ∃ a c m, v = .slice a m c := by
 obtain ⟨E, hf, ho, -, -⟩ := h
 obtain ⟨a, c, e, -, -⟩ := own_len ho
 exact ⟨a, c, _, e⟩
def cutR (R : Rdr) (l : Bs) : Rdr := { R with rows := Rw.rowsOf l, behind := (Ln.linesOf l).length + 1 }
theorem RAt.cut {B rb : Nat} {R : Rdr} {P : Pts} {w w1 : World} {v : Value} (h : RAt B w rb R P) (k : Below w.heap.size w w1) (l : Bs) (hl : l.length ≤ 65536) (hr : RowsAre w.heap.size 135 w1 v (Rw.rowsOf l)) :
  RAt B ((w1.setCell ⟨rb, 1, none⟩ v).setCell ⟨rb, 3, none⟩ (.int .i64 (((Ln.linesOf l).length + 1 : Nat)))) rb (cutR R l) { P with rv := v } ∧ Kt B P.pm P.hm w ((w1.setCell ⟨rb, 1, none⟩ v).setCell ⟨rb, 3, none⟩ (.int .i64 (((Ln.linesOf l).length + 1 : Nat)))) := by
 have h1 := h.below k
 have kp : Kp rb w1 ((w1.setCell ⟨rb, 1, none⟩ v).setCell ⟨rb, 3, none⟩ (.int .i64 (((Ln.linesOf l).length + 1 : Nat)))) := kp_trans (kp_set w1 rb 1 _) (kp_set _ rb 3 _)
 have hlen := Ln.linesOf_len l
 refine ⟨h1.turn kp (set_heap1 (set_heap1 h1.rdr _) _) ?_ (own_kept h1.lns (kp.kept h1.rdr (ne_cells (by decide)))) rfl rfl rfl ⟨by show (Ln.linesOf l).length + 1 ≤ 65537; omega, h.few.2.2⟩ (rows_ok l hl), ?_⟩
 ·exact rows_kept (rowsAt_of hr h.base (fun p hp => (rows_ok l hl p hp).2.1)) (kp.kept h1.rdr (ne_cells (by decide))) (kp.kept h1.rdr (ne_cells (by decide)))
 ·exact (Kt.of_below k h.base).trans (Kt.of_kp kp (((Below.refl B w1).setCell (p := ⟨rb, 1, none⟩) h.rbB _).setCell (p := ⟨rb, 3, none⟩) h.rbB _) h1.rdr (by decide))
theorem cut_any {B rb : Nat} {R : Rdr} {P : Pts} {w : World} (h : RAt B w rb R P) (hM : Mx B w) (s : ByteArray) :
  Calls Tryz.prog 57 #[ptr rb, .string s] w (Res B rb P w (if 65536 < s.data.toList.length then .error (R.line, 10) else .ok (cutR R s.data.toList))) := by
 obtain ⟨d0, d1, hl, d3, -, -, dz⟩ := h.cells
 have hb := h.lt
 have hz : s.data.toList.length = s.size := by simp
 by_cases hq : 65536 < s.size
 ·have HS := hide (fun W => SplW.split_long s W (by omega))
  have HV := hide (leave_no rb R.line 10 w (by decide) (by decide) hl)
  rw [if_pos (by omega)]
  have HB := hide h.base
  clear h hM d0 d1 hl d3 hz hq
  go_enter Tryz.func57, Tryz.ntmps57
  go_wp2_with (first | (go_at_call 71; refine (unhide HS _).mono ?_; rintro e w2 ⟨rfl, rfl⟩) | (go_at_call 72; refine (unhide HV).mono ?_; rintro e w3 ⟨rfl, rfl⟩))
  exact ⟨rfl, Res.no rfl (Kt.refl _ _ _ _)⟩
 ·rw [if_neg (by omega)]
  have HS := hide (SplW.split_short s w (by omega) hM.ea)
  have HRW := hide (fun W (b : Below w.heap.size w W) => RowW.rows_short s W (by omega) (hM.low (b.mono h.base)).ea)
  have HL := hide (fun W => leave_ok (ptr rb) W)
  have HC : Hid (∀ w0, Below w.heap.size w w0 → w0.cell? ⟨rb, 1, none⟩ = some P.rv ∧ w0.cell? ⟨rb, 3, none⟩ = some (.int .i64 (R.behind : Nat)) ∧ rb < w0.heap.size ∧ ∀ j, w0.frozen? ⟨rb, j, none⟩ = false) := fun w0 b => by
   have h0 := h.below b
   exact ⟨h0.cells.2.1, h0.cells.2.2.2.1, h0.lt, h0.cells.2.2.2.2.2.2⟩
  have HK := hide (fun w0 w1 (b : Below w.heap.size w w0) (c : Below w0.heap.size w0 w1) v hr => (h.below b).cut c s.data.toList (by omega) (v := v) hr)
  have HB := hide h.base
  have hsm := Ln.linesOf_len s.data.toList
  obtain ⟨N, hN⟩ : ∃ N, (Ln.linesOf s.data.toList).length = N := ⟨_, rfl⟩
  have HNN := hide hN
  rw [hN] at hsm HS HK
  have hsm2 : N ≤ 65536 := by omega
  clear h hM d0 d1 hl d3 hz hq dz hN hsm
  go_enter Tryz.func57, Tryz.ntmps57
  go_wp2_with (first | (go_at_call 71; refine (unhide HS).mono ?_; rintro e w2 ⟨v, rfl, o2, b2⟩; obtain ⟨av, cv, rfl, -, -⟩ := own_len o2; have HB2 := hide b2; clear o2 b2) | (go_at_call 72; refine (unhide HL _).mono ?_; rintro e w3 ⟨rfl, rfl⟩) | (go_at_call 62; refine (unhide HRW _ (unhide HB2)).mono ?_; rintro e w4 ⟨v4, rfl, o4, b4⟩; obtain ⟨av4, cv4, n4, rfl⟩ := rows_slice o4; obtain ⟨f1, f2, f3, f4⟩ := unhide HC _ (btr (unhide HB2) b4); have HB4 := hide b4; have HO4 := hide o4; clear o4 b4))
  go_end0
  obtain ⟨hr, kt⟩ := unhide HK _ _ (unhide HB2) (unhide HB4) _ (unhide HO4)
  rw [show ((N + 1 : Nat) : Int) = (N : Int) + 1 by omega] at hr kt
  exact Res.yes rfl ((Kt.of_below (unhide HB2) (unhide HB)).trans kt) hr rfl rfl rfl
end Af
end Go.Proofs.YtidhbhdcoanfcaaGreatDoor
