/- Layer 8: the law's own helpers: twin, same, is, wakes. -/
import Derived.WalkSpells
import Derived.WalkLawsBesides
import Derived.Deep.QuietTactic
import Derived.BigQuiet
import Derived.Deep.DeepFit
import Derived.Test.YtamlfmohalkemaaZg
namespace Go.Proofs.Ytamlfmohalkemaa
open Go.RowKit Go.Shelf
namespace Sm

theorem wpList_append_run {P : Program} {w : World} {ops : Array Oper} {rest : List Oper} {o : Oper} {a : Act} {Q : Exit → Act → World → Prop} (hgd : o.guard = none) (s x : Operand) (t t' : TypeId)
    (ho : o.op = .call { callee := .builtin .append, args := #[s, x], argTypes := #[t, t'] }) (v f : Value) (hs : a.eval s = v) (hx : a.eval x = f) (v2 : Value) (w2 : World) (hrun : (Builtin.append_ #[t, t'] o.type #[v, f]).run P w = .ok v2 w2)
    (h : wpList P ops Q rest (a.put o.dst v2) w2) : wpList P ops Q (o :: rest) a w := by
  refine wpList_plain hgd fun K hK => ?_
  unfold Oper.wp
  simp [execOp, ho, resolve, invoke, builtin, hs, hx, hrun, Result.andThen]
  exact hK _ _ h
theorem below_drewN (B : Nat) (w : World) (n : Nat) : Below B w (w.drewN n) := ⟨rfl, rfl, rfl, Nat.le_refl _, fun _ _ => rfl⟩
theorem twin_run {W : World} {v : Value} {A : List Tx} (h : RowAt W v A W.heap.size) (hz : A.length ≤ 8796093022208) (ty : TypeId) :
    ∃ a c W', (Builtin.append_ #[24, 24] ty #[.slice none 0 0, v]).run Try.prog W = .ok (.slice a A.length c) W' ∧ Own W' (.slice a A.length c) A ∧ (∀ g, (Value.slice a A.length c).ownBlock = some g → W.heap.size ≤ g) ∧ Below W.heap.size W W' := by
  obtain ⟨i, hi, hz'⟩ := Option.map_eq_some_iff.1 info9
  simp only [Prod.mk.injEq] at hz'
  obtain ⟨hz0, hz1, hz2⟩ := hz'
  obtain ⟨ao, cap, rfl, hat⟩ := h
  rcases ao with _ | ad
  · have hX : A = [] := by
      rcases Nat.eq_zero_or_pos A.length with h | h
      · exact List.eq_nil_of_length_eq_zero h
      · obtain ⟨g, off, e, _⟩ := hat h; cases e
    subst hX
    refine ⟨none, 0, W, ?_, World.ownsRow_nil _ _ _ _, (fun g hg => by cases hg), Below.refl _ _⟩
    exact run_append_owned_none (P := Try.prog) (w := W) 0 24 ty 9 i 1 Try.underlying24 hi (.slice none 0 0) 0 [] (World.ownsRow_nil _ _ _ _)
  · obtain ⟨v', W', hrun, ho, hg, hb⟩ := append_blk (P := Try.prog) W 24 ty 9 i _ 1 16 Try.underlying24 hi hz0 hz1 hz2 rfl (by decide) (.slice none 0 0) 0 [] (World.ownsRow_nil _ _ _ _) ad A.length cap (txs A) (by simp [txs]) (fun j u hj => by
      have hjl := (List.getElem?_eq_some_iff.1 hj).1
      have hjl' : j < A.length := by simpa [txs] using hjl
      obtain ⟨g, off, e, hg, hc⟩ := hat (by omega)
      injection e with e
      subst e
      have hx := List.getElem?_eq_getElem (l := A) (i := j) hjl'
      rw [Go.WideShapes.add_plain, hc _ _ hx, ← hj]
      simp [txs, hx]) (by intro u hu; simp [txs] at hu; obtain ⟨a, _, rfl⟩ := hu; rfl) (by unfold maxLen; omega) (by omega)
    rw [Nat.zero_add, List.nil_append] at ho
    have ho' : Own W' v' A := ho
    obtain ⟨a, c, rfl⟩ := ho'.slice
    refine ⟨a, c, W', hrun, ho', fun g hg' => ?_, (Below.refl _ W).grown hg (Nat.le_refl _) (fun k hk => by cases hk)⟩
    rcases hb with e | e
    · rw [e] at hg'; cases hg'
    · rw [e] at hg'; injection hg' with hg'; omega

set_option maxRecDepth 100000 in
theorem twin_any {w : World} {v : Value} {A : List Tx} (h : RowAt w v A w.heap.size) (hz : A.length ≤ 8796093022208) :
    Calls Try.prog 9 #[v] w fun e w' => ∃ a c, e = .returned (.slice a A.length c) ∧ Own w' (.slice a A.length c) A ∧ (∀ g, (Value.slice a A.length c).ownBlock = some g → w.heap.size ≤ g) ∧ Below w.heap.size w w' := by
  obtain ⟨a, c, W', hrun, h1, h2, h3⟩ := twin_run h hz 24
  obtain ⟨ao, c0, rfl, -⟩ := h
  have HAP := hide hrun
  have HF := hide (⟨h1, h2, h3⟩ : _ ∧ _ ∧ _)
  clear hrun h1 h2 h3
  go_enter Try.func9, Try.ntmps9
  go_wp2_with (at_builtin; refine wpList_append_run rfl _ _ 24 24 rfl _ _ rfl rfl (.slice a A.length c) W' (unhide HAP) ?_)
  go_ret
  exact ⟨a, c, rfl, unhide HF⟩

set_option maxRecDepth 100000 in
set_option maxHeartbeats 1000000 in
theorem same_true {w : World} {a b : Value} {A : List Tx} (h1 : RowAt w a A w.heap.size) (h2 : RowAt w b A w.heap.size) (hz : A.length ≤ 8796093022208) :
    Calls Try.prog 18 #[a, b] w fun e w' => e = .returned (.bool true) ∧ Below w.heap.size w w' := by
  obtain ⟨ao, ca, rfl, ha⟩ := h1
  obtain ⟨bo, cb, rfl, hb⟩ := h2
  have HA := hide ha
  have HB := hide hb
  clear ha hb
  go_enter Try.func18, Try.ntmps18
  go_wp2
  go_loopw [13] (fun p wr => ∃ (k : Nat), p = .int .i64 (k : Int) ∧ k ≤ A.length ∧ Hid (Below w.heap.size w wr)) (fun p _ => A.length - (intOf p).toNat)
  case atStart => exact ⟨0, rfl, Nat.zero_le _, Below.refl _ _⟩
  case round =>
    obtain ⟨k, rfl, hk, HBw⟩ := hrel
    by_cases hkl : k < A.length
    · obtain ⟨g, off, rfl, hg, hc⟩ := unhide HA (by omega)
      obtain ⟨g', off', rfl, hg', hc'⟩ := unhide HB (by omega)
      obtain ⟨x, hx⟩ : ∃ x, A[k]? = some x := ⟨_, List.getElem?_eq_getElem hkl⟩
      have c1 : wr.cell? ⟨g, off + k, none⟩ = some (.string x) := ((unhide HBw).cell (p := ⟨g, off + k, none⟩) hg).trans (hc k x hx)
      have c2 : wr.cell? ⟨g', off' + k, none⟩ = some (.string x) := ((unhide HBw).cell (p := ⟨g', off' + k, none⟩) hg').trans (hc' k x hx)
      clear hc hc' hx
      have hk1 : (k : Int) < (A.length : Int) := by omega
      go_wp2
      go_quiet (fail)
      go_wp2
      go_roundw
      case rel => exact ⟨k + 1, by go_num, by omega, (unhide HBw).trans (below_drewN _ _ _)⟩
      case measure => simp [intOf]; omega
    · go_wp2
      go_ret
      exact ⟨rfl, unhide HBw⟩

set_option maxRecDepth 100000 in
set_option maxHeartbeats 1000000 in
theorem is_true {sv c : Value} {L : List Tx} {B : Nat} {w₀ w : World} (h : Gives Try.prog sv L B w₀) (hb : Below B w₀ w) (hB : B ≤ w.heap.size) (hz : L.length ≤ 1099511627776) (hr : RowAt w c L w.heap.size) :
    Calls Try.prog 14 #[.agg #[sv], c] w fun e w' => e = .returned (.bool true) ∧ Below w.heap.size w w' := by
  have hr' := hr
  obtain ⟨ao, cc, rfl, -⟩ := hr'
  have H := hide h
  have HB := hide hb
  have HR := hide hr
  clear h hb hr
  go_enter Try.func14, Try.ntmps14
  go_wp2_with fail
  have b0 : Below w.heap.size w (w.alloc (.cells #[sv] 27)) := (Below.refl _ w).alloc (Nat.le_refl _) _
  have bx0 := Boxed.new w 27 sv
  refine (count_any (unhide H) ((unhide HB).trans (b0.mono hB)) (by simp; omega) (by omega)).mono ?_
  rintro e w1 ⟨rfl, hb1⟩
  have b1 := b0.trans (hb1.mono (by simp))
  have bx1 : Boxed w1 w.heap.size 27 sv := (hb1.block _ (by simp)).trans bx0
  have s1 : w.heap.size + 1 ≤ w1.heap.size := by have := hb1.size; simpa using this
  have HF := hide (⟨b1, bx1⟩ : _ ∧ _)
  have hc1 := bx1.cell
  clear b0 bx0 b1 bx1 hb1
  go_wp2_with fail
  obtain ⟨b1, bx1⟩ := unhide HF
  refine (list_any (unhide H) ((unhide HB).trans (b1.mono hB)) (by omega) (by omega) (L.length : Int)).mono ?_
  rintro e w2 ⟨sl, rfl, ho2, hn2, hb2⟩
  rw [Int.toNat_natCast, List.take_length] at ho2
  have b2 := b1.trans (hb2.mono (by omega))
  have bx2 : Boxed w2 w.heap.size 27 sv := (hb2.block _ (by omega)).trans bx1
  have s2 := hb2.size
  obtain ⟨a2, c2, rfl⟩ := ho2.slice
  have HF2 := hide (⟨b2, bx2, ho2.row (B := w2.heap.size) fun g hg => (own_lt ho2 hg).2⟩ : _ ∧ _ ∧ _)
  clear HF b1 bx1 hc1 ho2 hn2 hb2 b2 bx2
  go_wp2_with fail
  obtain ⟨b2, bx2, r2⟩ := unhide HF2
  refine (same_true r2 (((unhide HR).below b2).mono (by omega)) (by omega)).mono ?_
  rintro e w3 ⟨rfl, hb3⟩
  have b3 := b2.trans (hb3.mono (by omega))
  have bx3 : Boxed w3 w.heap.size 27 sv := (hb3.block _ (by omega)).trans bx2
  have s3 := hb3.size
  have hc3 := bx3.cell
  have HF3 := hide (⟨b3, bx3⟩ : _ ∧ _)
  clear HF2 b2 bx2 r2 hb3 b3 bx3
  go_wp2_with fail
  obtain ⟨b3, bx3⟩ := unhide HF3
  refine (list_any (unhide H) ((unhide HB).trans (b3.mono hB)) (by omega) (by omega) 1099511627776).mono ?_
  rintro e w4 ⟨sl, rfl, ho4, hn4, hb4⟩
  rw [List.take_of_length_le (by show L.length ≤ (1099511627776 : Int).toNat; omega)] at ho4
  have b4 := b3.trans (hb4.mono (by omega))
  have s4 := hb4.size
  obtain ⟨a4, c4, rfl⟩ := ho4.slice
  have HF4 := hide (⟨b4, ho4.row (B := w4.heap.size) fun g hg => (own_lt ho4 hg).2⟩ : _ ∧ _)
  clear HF3 b3 bx3 hc3 ho4 hn4 hb4 b4
  go_wp2_with fail
  obtain ⟨b4, r4⟩ := unhide HF4
  refine (same_true r4 (((unhide HR).below b4).mono (by omega)) (by omega)).mono ?_
  rintro e w5 ⟨rfl, hb5⟩
  have HF5 := hide (b4.trans (hb5.mono (by omega)))
  clear HF4 b4 r4 hb5
  go_wp2
  go_ret
  exact ⟨rfl, unhide HF5⟩

/-- a list that is written out -/
theorem row_new (w : World) (A : List Tx) (t : TypeId) : RowAt (w.alloc (.cells (txs A).toArray t)) (.slice (some ⟨w.heap.size, 0, none⟩) A.length A.length) A (w.heap.size + 1) := by
  refine ⟨_, _, rfl, fun _ => ⟨_, 0, rfl, by omega, fun j x hj => ?_⟩⟩
  have := World.alloc_heap_new w (.cells (txs A).toArray t)
  simp only [World.cell?, this, Nat.zero_add]
  simp [txs, hj]

abbrev ta : Tx := ⟨#[97]⟩
abbrev tb : Tx := ⟨#[98]⟩
theorem ofS_bab : ofS [tb, ta, tb] = [ta, tb] := by
  have hab : lt ta tb = true := by
    rw [lt_iff]
    decide
  refine rs_ext (ofS_rs _) (rs_cons.2 ⟨by simp [hab], rs_cons.2 ⟨by simp, rs_nil⟩⟩) fun x => ?_
  rw [ofS_mem]
  simp only [List.mem_cons, List.not_mem_nil, or_false]
  constructor
  · rintro (e | e | e)
    · exact .inr e
    · exact .inl e
    · exact .inr e
  · rintro (e | e)
    · exact .inr (.inl e)
    · exact .inl e
set_option maxRecDepth 100000 in
set_option maxHeartbeats 1000000 in
theorem wakes_true (w : World) : Calls Try.prog 13 #[] w fun e w' => e = .returned (.bool true) ∧ Below w.heap.size w w' := by
  go_enter Try.func13, Try.ntmps13
  go_wp2_with fail
  have b0 : Below w.heap.size w (w.alloc (.cells #[.string tb, .string ta, .string tb] 9)) := (Below.refl _ w).alloc (Nat.le_refl _) _
  have r0 := row_new w [tb, ta, tb] 9
  refine (of_any (A := [tb, ta, tb]) (by rw [World.size_alloc]; exact r0) (by simp)).mono ?_
  rintro e w1 ⟨gf, lb, rfl, hg1, hb1⟩
  rw [ofS_bab] at hg1
  have b1 := b0.trans (hb1.mono (by simp))
  have HF := hide (⟨hg1, b1⟩ : _ ∧ _)
  have s1 := b1.size
  clear b0 r0 hg1 hb1 b1
  go_wp2_with fail
  obtain ⟨hg1, b1⟩ := unhide HF
  have b2 : Below w1.heap.size w1 (w1.alloc (.cells #[.string ta, .string tb] 9)) := (Below.refl _ w1).alloc (Nat.le_refl _) _
  refine (is_true (L := [ta, tb]) hg1.gives b2 (by simp) (by simp) (by rw [World.size_alloc]; exact row_new w1 [ta, tb] 9)).mono ?_
  rintro e w3 ⟨rfl, hb3⟩
  have HF3 := hide (b1.trans ((b2.trans (hb3.mono (by simp))).mono s1))
  clear HF hg1 b1 b2 hb3
  go_wp2
  go_ret
  exact ⟨rfl, unhide HF3⟩
end Sm
end Go.Proofs.Ytamlfmohalkemaa
