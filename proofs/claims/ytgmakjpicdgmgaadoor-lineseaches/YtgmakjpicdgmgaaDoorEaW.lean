/- The walk of the law on the lines one at a time: it answers true. -/
import Derived.Test.YtgmakjpicdgmgaaDoorWake
import Derived.Test.YtgmakjpicdgmgaaDoorEachW
import Derived.Test.YtgmakjpicdgmgaaDoorSpR
import Derived.Test.YtgmakjpicdgmgaaDoorSame
import Derived.WalkSmall
namespace Go.Proofs.YtgmakjpicdgmgaaDoor
open Go.RowKit Go.Shelf
namespace EaW
open FldW EachW
attribute [local go_sem] Oper.semAt_some

def bl (s : ByteArray) : List (List UInt8) := if s.size ≤ 65536 then Ln.linesOf s.data.toList else []
theorem gives_bl (s : ByteArray) : gives s = Ln.num 1 (bl s) := by
  unfold gives bl
  split <;> rfl
theorem bl_len (s : ByteArray) : (bl s).length ≤ 65536 := by
  unfold bl
  split
  · rename_i h
    have := Ln.linesOf_len s.data.toList
    simp at this
    omega
  · simp
theorem ref_split_any (s : ByteArray) (w : World) :
    Calls Tryd.prog 10 #[.string s] w fun e w' => ∃ v q, e = .returned (.tuple #[v, .int .i64 q]) ∧ w'.ownsRow w.heap.size 9 1 v (bl s).length (vals (bl s)) ∧ Below w.heap.size w w' := by
  by_cases hs : s.size ≤ 65536
  · refine (LnR.ref_split_short s w hs).mono ?_
    rintro e w' ⟨v, rfl, hO, hB⟩
    rw [show bl s = Ln.linesOf s.data.toList from if_pos hs]
    exact ⟨v, 0, rfl, hO, hB⟩
  · refine (LnR.ref_split_long s w (by omega)).mono ?_
    rintro e w' ⟨rfl, hw⟩
    obtain rfl := hw.symm
    rw [show bl s = [] from if_neg hs]
    exact ⟨_, 10, rfl, World.ownsRow_nil _ _ _ _, Below.refl _ _⟩

theorem notNil (x : Nat) (W : World) : (binOp .eql 32 (.func (.func 26) #[] #[.pointer (some ⟨x, 0, none⟩)]) .nilFunc).run Tryd.prog W = .ok (.bool false) W := by kernel_rfl

/-- between two rounds: so many lines have come, and they were the lines -/
def AtI (h : Nat) (t : Int) (s : ByteArray) (pre : List EachW.Item) (W : World) : Prop := Boxed W (h + 1) 3 (.int .i64 (pre.length : Int)) ∧ Boxed W h 3 (.int .i64 t) ∧ raw pre <+: gives s
theorem atI_own (h : Nat) (t : Int) (s : ByteArray) : Own (AtI h t s) := by
  rintro p X Y row ⟨h1, h2, h3⟩ hg hrow
  refine ⟨h1.kept hg (fun e' => ?_), h2.kept hg (fun e' => ?_), h3⟩
  · obtain ⟨o, ho, hc⟩ := hrow _ e'.symm
    rw [show X.heap[h + 1]? = _ from h1] at ho; cases ho; cases hc
  · obtain ⟨o, ho, hc⟩ := hrow _ e'.symm
    rw [show X.heap[h]? = _ from h2] at ho; cases ho; cases hc
theorem at_next {h : Nat} {t : Int} {s : ByteArray} {pre : List EachW.Item} {x : EachW.Item} {W : World} (hI1 : Boxed W (h + 1) 3 (.int .i64 (pre.length : Int))) (hI2 : Boxed W h 3 (.int .i64 t)) (hok : raw (pre ++ [x]) <+: gives s) :
    AtI h t s (pre ++ [x]) (W.setCell ⟨h + 1, 0, none⟩ (.int .i64 ((pre.length : Int) + 1))) := by
  refine ⟨?_, hI2.kept (grownBy_setCell' W (h + 1) _) (by simp), hok⟩
  rw [List.length_append, List.length_singleton]
  exact hI1.set _
/-- how the body is left -/
def OutI (h : Nat) (t : Int) (s : ByteArray) (c : Code) (pre : List EachW.Item) (W : World) : Prop := (c = .ret ∧ ¬ raw pre <+: gives s) ∨ (c = .exit 2 ∧ t = 1 ∧ AtI h t s pre W)
theorem outI_own (h : Nat) (t : Int) (s : ByteArray) (c : Code) : Own (OutI h t s c) := by
  rintro p X Y row (⟨h1, h2⟩ | ⟨h1, h2, h3⟩) hg hrow
  · exact .inl ⟨h1, h2⟩
  · exact .inr ⟨h1, h2, atI_own h t s p X Y row h3 hg hrow⟩
theorem next_ok (s : ByteArray) (p : List EachW.Item) (x : EachW.Item) (hx : raw (p ++ [x]) <+: gives s) : p.length < (bl s).length ∧ x.1.1 = p.length + 1 ∧ ∃ l, (bl s)[p.length]? = some l ∧ x.1.2 = Fld.str l := by
  rw [raw_snoc, gives_bl] at hx
  obtain ⟨t, ht⟩ := hx
  have hg : (Ln.num 1 (bl s))[p.length]? = some x.1 := by
    rw [← ht, List.append_assoc, List.getElem?_append_right (by rw [raw_length]; exact Nat.le_refl _), raw_length]
    simp
  obtain ⟨h1, l, h2, h3⟩ := Ln.num_get (bl s) 1 p.length x.1 hg
  exact ⟨(List.getElem?_eq_some_iff.1 h2).1, by omega, l, h2, h3⟩
theorem next_of (s : ByteArray) (p : List EachW.Item) (x : EachW.Item) (h : raw p <+: gives s) (h0 : p.length < (bl s).length) (h1 : x.1.1 = p.length + 1) (l : List UInt8) (h2 : (bl s)[p.length]? = some l) (h3 : x.1.2 = Fld.str l) : raw (p ++ [x]) <+: gives s := by
  rw [gives_bl] at h ⊢
  obtain ⟨t, ht⟩ := h
  have hl : p.length < (Ln.num 1 (bl s)).length := by rw [Ln.num_length]; exact h0
  have hg : (Ln.num 1 (bl s))[p.length]? = some (Ln.num 1 (bl s))[p.length] := List.getElem?_eq_getElem hl
  obtain ⟨e1, l2, e2, e3⟩ := Ln.num_get (bl s) 1 p.length _ hg
  have hx : x.1 = (Ln.num 1 (bl s))[p.length] := by
    rw [h2] at e2
    cases e2
    exact Prod.ext (by omega) (by rw [h3, e3])
  cases t with
  | nil =>
    have := congrArg List.length ht
    rw [List.append_nil, raw_length, Ln.num_length] at this
    omega
  | cons y t =>
    have hy : (Ln.num 1 (bl s))[p.length]? = some y := by
      rw [← ht, List.getElem?_append_right (by rw [raw_length]; exact Nat.le_refl _), raw_length]
      simp
    rw [hg] at hy
    refine ⟨t, ?_⟩
    rw [raw_snoc, ← ht, hx, Option.some.inj hy]
    simp
/-- what lies in memory ahead of a turn -/
structure Base (nS nB nT n₁ : Nat) (w W : World) (s : ByteArray) (stop : Int) (ab : Option Addr) (cb : Nat) : Prop where
  st : Boxed W nS 3 (.int .i64 stop)
  rs : Boxed W (nS + 1) 4 (.bool false)
  bb : Boxed W nB 22 (.slice ab (bl s).length cb)
  row : W.ownsRow n₁ 9 1 (.slice ab (bl s).length cb) (bl s).length (vals (bl s))
  tx : W.cell? ⟨nT, 0, none⟩ = some (.string s)
  mx : MaxIs W
  lt : nT < W.heap.size
  gl : 0 < W.heap.size
  bw : Below w.heap.size w W
  le : w.heap.size ≤ W.heap.size
theorem boxed_below {W W' : World} {B : Nat} {t : TypeId} {v : Value} (h : Boxed W B t v) (hB : Below W.heap.size W W') : Boxed W' B t v := (hB.block B h.lt).trans h
theorem Base.below {nS nB nT n₁ : Nat} {w W W' : World} {s : ByteArray} {stop : Int} {ab : Option Addr} {cb : Nat} (h : Base nS nB nT n₁ w W s stop ab cb) (hB : Below W.heap.size W W') : Base nS nB nT n₁ w W' s stop ab cb :=
  ⟨boxed_below h.st hB, boxed_below h.rs hB, boxed_below h.bb hB, Same.owns_below h.row hB, (hB.cell (p := ⟨nT, 0, none⟩) h.lt).trans h.tx, h.mx.below h.gl hB, Nat.lt_of_lt_of_le h.lt hB.size, Nat.lt_of_lt_of_le h.gl hB.size, h.bw.trans (hB.mono h.le), Nat.le_trans h.le hB.size⟩

theorem getlt {W : World} {D : Nat} {o : Obj} (h : W.heap[D]? = some o) : D < W.heap.size := (Array.getElem?_eq_some_iff.1 h).1
/-- three kept blocks of deferred calls are taken one after another -/
theorem three {w X : World} {r D0 D1 D2 : Nat} (k2 : X.heap[D2]? = some (.deferred (some []))) (k1 : X.heap[D1]? = some (.deferred (some []))) (k0 : X.heap[D0]? = some (.deferred (some []))) (h01 : D0 < D1) (h12 : D1 < D2) (h0 : w.heap.size ≤ D0)
    (hc : X.cell? ⟨r, 0, none⟩ = some (.bool true)) (hb : Below w.heap.size w X) :
    (X.putObj D2 (.deferred none)).heap[D1]? = some (.deferred (some [])) ∧ ((X.putObj D2 (.deferred none)).putObj D1 (.deferred none)).heap[D0]? = some (.deferred (some [])) ∧
      (((X.putObj D2 (.deferred none)).putObj D1 (.deferred none)).putObj D0 (.deferred none)).cell? ⟨r, 0, none⟩ = some (.bool true) ∧
      Below w.heap.size w (((X.putObj D2 (.deferred none)).putObj D1 (.deferred none)).putObj D0 (.deferred none)) := by
  have q1 : (X.putObj D2 (.deferred none)).heap[D1]? = some (.deferred (some [])) := by rw [World.putObj_heap_other (by omega)]; exact k1
  have q0 : ((X.putObj D2 (.deferred none)).putObj D1 (.deferred none)).heap[D0]? = some (.deferred (some [])) := by rw [World.putObj_heap_other (by omega), World.putObj_heap_other (by omega)]; exact k0
  have c2 := cell_kept hc (grownBy_putObj' X D2 (.deferred none)) (fun r e => by cases e; exact ⟨_, k2, rfl⟩)
  have c1 := cell_kept c2 (grownBy_putObj' _ D1 (.deferred none)) (fun r e => by cases e; exact ⟨_, q1, rfl⟩)
  have c0 := cell_kept c1 (grownBy_putObj' _ D0 (.deferred none)) (fun r e => by cases e; exact ⟨_, q0, rfl⟩)
  refine ⟨q1, q0, c0, ?_⟩
  exact ((hb.trans (belowK_b (w := w) (Nat.le_refl _) X D2 _ _ (by omega) k2 rfl rfl)).trans (belowK_b (w := w) (Nat.le_refl _) _ D1 _ _ (by omega) q1 rfl rfl)).trans (belowK_b (w := w) (Nat.le_refl _) _ D0 _ _ (by omega) q0 rfl rfl)

set_option maxRecDepth 100000 in
set_option maxHeartbeats 2000000 in
theorem walk (s : ByteArray) (stop : Int) (w : World) (hM : MaxIs w) :
    Calls Tryd.prog 4 #[.string s, .int .i64 stop] w fun e w' => e = .returned (.bool true) ∧ Below w.heap.size w w' := by
  have hnn := notNil
  refine (callsIn_wide (n := 9)).1 ?_
  refine callsIn_of_wp_marks Tryd.func4 rfl trivial ?_ rfl
  simp only [Tryd.ntmps4, List.size_toArray, List.length_cons, List.length_nil, Nat.reduceAdd, Nat.reduceSub, Array.replicate_succ, Array.replicate_zero, List.push_toArray, List.append_toArray, List.nil_append, List.cons_append]
  gi_wp2_with (first | (refine ⟨trivial, ?_⟩; gi_at_call 10; refine (callsIn_wide.2 (ref_split_any s _)).mono ?_; rintro e w2 ⟨vb, qb, rfl, hOb, hBb⟩; obtain ⟨ab, cb, rfl⟩ : ∃ ab cb, vb = .slice ab (bl s).length cb := by (obtain ⟨_, ⟨rfl, h0⟩ | ⟨g, cap, cur, rfl, _⟩⟩ := hOb; exact ⟨none, 0, by rw [h0]⟩; exact ⟨_, cap, rfl⟩)) | (refine ⟨trivial, ?_⟩; gi_at_call 13; refine (each_in _ s _).mono ?_; rintro e w3 ⟨rfl, rfl⟩) | (refine ⟨trivial, ?_⟩; gi_at_call 11; refine (callsIn_wide.2 (Wake.wakes_any _)).mono ?_; rintro e w4 ⟨rfl, hB4⟩))
  have hSt := ((Boxed.new w 3 (.int .i64 stop)).alloc (.cells #[.bool false] 4))
  have hRs := Boxed.new (w.alloc (.cells #[.int .i64 stop] 3)) 4 (.bool false)
  rw [World.size_alloc] at hRs
  have hBa : Below w.heap.size w ((w.alloc (.cells #[.int .i64 stop] 3)).alloc (.cells #[.bool false] 4)) := ((Below.refl _ _).alloc (Nat.le_refl _) _).alloc (by simp) _
  have hsz : ((w.alloc (.cells #[.int .i64 stop] 3)).alloc (.cells #[.bool false] 4)).heap.size = w.heap.size + 2 := by simp
  have hB2 : Below w.heap.size w w2 := hBa.trans (hBb.mono (by rw [hsz]; omega))
  have bB := (Boxed.new w2 22 (.slice ab (bl s).length cb)).alloc (.cells #[.string s] 9)
  have bX := Boxed.new (w2.alloc (.cells #[.slice ab (bl s).length cb] 22)) 9 (.string s)
  rw [World.size_alloc] at bX
  have hB3 : Below w2.heap.size w2 ((w2.alloc (.cells #[.slice ab (bl s).length cb] 22)).alloc (.cells #[.string s] 9)) := ((Below.refl _ _).alloc (Nat.le_refl _) _).alloc (by simp) _
  have hg0 : 0 < w.heap.size := by
    obtain ⟨m, hm⟩ := hM
    exact World.block_lt_of_cell? w ⟨0, 0, none⟩ hm
  have hbase : Base w.heap.size w2.heap.size (w2.heap.size + 1) (w.heap.size + 2) w w4 s stop ab cb := by
    have h3 : Base w.heap.size w2.heap.size (w2.heap.size + 1) (w.heap.size + 2) w ((w2.alloc (.cells #[.slice ab (bl s).length cb] 22)).alloc (.cells #[.string s] 9)) s stop ab cb :=
      ⟨boxed_below (boxed_below hSt hBb) hB3, boxed_below (boxed_below hRs hBb) hB3, bB, by rw [← hsz]; exact Same.owns_below hOb hB3, bX.cell, hM.below hg0 (hB2.trans (hB3.mono hB2.size)), bX.lt, Nat.lt_of_lt_of_le hg0 (Nat.le_trans hB2.size hB3.size), hB2.trans (hB3.mono hB2.size), Nat.le_trans hB2.size hB3.size⟩
    exact h3.below hB4
  have HBASE := hide hbase
  clear hSt hRs hBa hsz hB2 bB bX hB3 hg0 hbase hOb hBb hB4
  refine wpIn_loop_rounds 4 ?_
  rw [roundsIn_succ]
  gi_wp2
  have hbase := unhide HBASE
  have hBs : Below w4.heap.size w4 ((w4.alloc (.cells #[.int .i64 0] 3)).alloc (.cells #[.int .i64 0] 3)) := ((Below.refl _ _).alloc (Nat.le_refl _) _).alloc (by simp) _
  have hbs := hbase.below hBs
  have bT := (Boxed.new w4 3 (.int .i64 0)).alloc (.cells #[.int .i64 0] 3)
  have bA := Boxed.new (w4.alloc (.cells #[.int .i64 0] 3)) 3 (.int .i64 0)
  rw [World.size_alloc] at bA
  refine wpIn_rangeFunc_ownG rfl (by omega) (gf := 26) (lb := #[.pointer (some ⟨w2.heap.size + 1, 0, none⟩)]) rfl trivial (enters_of Tryd.func26 (by kernel_rfl) rfl)
    (each_stops _ (by omega) (w2.heap.size + 1) w4.heap.size s _ hbs.lt hbase.gl (by simp; omega) hbs.tx hbs.mx) belowK_t (belowK_b (by simp; omega)) (Below.refl _ _) (fun _ => rfl)
    (fun pre W => AtI w4.heap.size 0 s pre W ∧ Below w4.heap.size w4 W)
    (fun c pre W => OutI w4.heap.size 0 s c pre W ∧ (c = .ret ∨ Below w4.heap.size w4 W))
    (OwnFrom.and (Own.from (atI_own _ _ _) _) (ownFrom_below (Nat.le_refl _) (by simp; omega)))
    (fun c => OwnFrom.and (Own.from (outI_own _ _ _ c) _) (by rintro p X Y row (h | h) hg hr; exact .inl h; exact .inr (ownFrom_below (β := List EachW.Item) (Nat.le_refl _) (by simp; omega) p X Y row h hg hr)))
    ⟨⟨bA, bT, List.nil_prefix⟩, hBs⟩
    (fun x => { tmps := #[.string s, .int .i64 stop, undef, .pointer (some ⟨w.heap.size, 0, none⟩), .pointer (some ⟨w.heap.size + 1, 0, none⟩), .pointer (some ⟨w2.heap.size, 0, none⟩), .int .i64 qb, .func (.func 26) #[] #[.pointer (some ⟨w2.heap.size + 1, 0, none⟩)], .int .i64 0, .pointer (some ⟨w4.heap.size, 0, none⟩), .pointer (some ⟨w4.heap.size + 1, 0, none⟩), .int .i64 (x.1.1 : Int), .string x.1.2, .tuple #[.slice ab (bl s).length cb, .int .i64 qb], .string s, .tuple #[.slice ab (bl s).length cb, .int .i64 qb], .slice ab (bl s).length cb, .int .i64 qb, .string s, .func (.func 26) #[] #[.pointer (some ⟨w2.heap.size + 1, 0, none⟩)], .func (.func 26) #[] #[.pointer (some ⟨w2.heap.size + 1, 0, none⟩)], .bool false, .bool false, .bool true, .bool false, .bool false, .int .i64 0, .bool true, .int .i64 0, .func (.func 26) #[] #[.pointer (some ⟨w2.heap.size + 1, 0, none⟩)], .int .i64 (x.1.1 : Int), .string x.1.2, undef, undef, undef, undef, undef, undef, undef, undef, undef, undef, undef, undef, undef, undef, undef, undef, undef, undef, undef, undef, undef, undef, undef, undef, undef, undef, undef, undef, undef, undef, undef, undef, undef, undef, undef, undef, undef, undef], defers := [] }) ?assign0 ?body0 ?done0 ?stop0
  case assign0 =>
    intro l x W K hK
    gi_wp2
    exact hK
  case body0 =>
    rintro l pre x W ⟨⟨hat, htu, hpre⟩, hB⟩ hlt
    have hbW := hbase.below hB
    have cA := hat.cell
    have fA := hat.frozen
    have cT := htu.cell
    have cB := hbW.bb.cell
    have cS := hbW.st.cell
    have cR := hbW.rs.cell
    have fR := hbW.rs.frozen
    have hln := bl_len s
    have hpl : pre.length ≤ (bl s).length := by
      have h1 := hpre.length_le
      rw [raw_length, gives_bl, Ln.num_length] at h1
      exact h1
    have hRow : 0 < (bl s).length → ∃ g, ab = some ⟨g, 0, none⟩ ∧ ∀ (j : Nat) l, (bl s)[j]? = some l → W.cell? ⟨g, j, none⟩ = some (.string (Fld.str l)) := by
      intro h0
      obtain ⟨ao, c2, e, _, h1 | ⟨g2, o2, e2, hx⟩⟩ := Same.isStrs_of_owns hbW.row
      · simp at h1
        rw [h1] at h0
        simp at h0
      · obtain ⟨_, ⟨e0, h00⟩ | ⟨g3, cap3, cur3, e3, _⟩⟩ := hbW.row
        · omega
        · injection e3 with e4
          refine ⟨g3, e4, fun j l hj => ?_⟩
          injection e with e5
          rw [← e5, e4] at e2
          injection e2 with e6
          injection e6 with e7 e8
          subst e7
          subst e8
          have := hx j (Fld.str l) (by simp [hj])
          simpa using this
    have HROW := hide hRow
    have HW := hide hbW
    have HPRE := hide hpre
    clear hRow hbW hpre
    generalize hz : (bl s).length = z at *
    have HZ := hide hz
    clear hz
    by_cases hok : raw (pre ++ [x]) <+: gives s
    · obtain ⟨h0, h1, l', h2, h3⟩ := next_ok s pre x hok
      rw [unhide HZ] at h0
      obtain ⟨g, rfl, hcell⟩ := unhide HROW (by omega)
      have cL := hcell _ _ h2
      have HOK := hide hok
      have HAT := hide hat
      have HTU := hide htu
      have h1' : (x.1.1 : Int) = (pre.length : Int) + 1 := by omega
      have hxa : x.1.1 = pre.length + 1 := h1
      clear hcell h2 hok h1 hat htu
      rw [h1', h3]
      clear h1' h3 hxa
      have hge : ¬ (z : Int) ≤ (pre.length : Int) := by omega
      gi_wp2
      exact ⟨(KeepsOthers.setCell _ _ _).from _, (Below.refl w4.heap.size W).setCell (p := ⟨w4.heap.size + 1, 0, none⟩) (by simp) _, at_next (unhide HAT) (unhide HTU) (unhide HOK), hB.setCell (p := ⟨w4.heap.size + 1, 0, none⟩) (by simp) _⟩
    · have HNO := hide hok
      clear hok
      by_cases hA : (z : Int) ≤ (pre.length : Int)
      · gi_wp2
        exact ⟨(KeepsOthers.setCell _ _ _).from _, .inl ⟨rfl, unhide HNO⟩, .inl rfl⟩
      · obtain ⟨g, rfl, hcell⟩ := unhide HROW (by omega)
        obtain ⟨l', h2⟩ : ∃ l', (bl s)[pre.length]? = some l' := ⟨_, List.getElem?_eq_getElem (by rw [unhide HZ]; omega)⟩
        have cL := hcell _ _ h2
        have HNX := hide (next_of s pre x (unhide HPRE) (by rw [unhide HZ]; omega))
        by_cases hB2 : x.1.1 = pre.length + 1
        · by_cases hC : x.1.2 = Fld.str l'
          · exact absurd (unhide HNX hB2 l' h2 hC) (unhide HNO)
          · have h1' : (x.1.1 : Int) = (pre.length : Int) + 1 := by omega
            have hCn : (x.1.2.toList == (Fld.str l').toList) = false := by
              rw [beq_eq_false_iff_ne, Lib.toList_data, Lib.toList_data]
              intro e
              apply hC
              apply ByteArray.ext
              apply Array.ext'
              exact e
            clear hB2 hC h2 hcell
            rw [h1']
            clear h1'
            generalize x.1.2 = xs at *
            generalize Fld.str l' = fl at *
            gi_wp2
            exact ⟨(KeepsOthers.setCell _ _ _).from _, .inl ⟨rfl, unhide HNO⟩, .inl rfl⟩
        · have hBn : ((x.1.1 : Int) != (pre.length : Int) + 1) = true := by
            rw [bne_iff_ne]
            omega
          clear hB2 h2 hcell
          gi_wp2
          exact ⟨(KeepsOthers.setCell _ _ _).from _, .inl ⟨rfl, unhide HNO⟩, .inl rfl⟩
  case stop0 =>
    rintro D c pre W hD hSp ⟨⟨rfl, hno⟩ | ⟨_, h01, _⟩, _⟩ hK
    · exact absurd hSp hno
    · exact absurd h01 (by decide)
  case done0 =>
    rintro D0 ys W0 hD0 hys ⟨⟨hat, htu, _⟩, hB⟩ hK0
    have hyl : ys.length = (bl s).length := by rw [← raw_length, hys, gives_bl, Ln.num_length]
    rw [hyl] at hat
    have cA := hat.cell
    have cT := htu.cell
    have hln := bl_len s
    have hb0 := hbase.below hB
    have HB0 := hide hb0
    clear hb0 hat htu hB hys hyl hbs bT bA hBs hbase
    gi_wp2
    rw [roundsIn_succ]
    gi_wp2
    have hbase := unhide HB0
    have hBs : Below W0.heap.size W0 ((W0.alloc (.cells #[.int .i64 1] 3)).alloc (.cells #[.int .i64 0] 3)) := ((Below.refl _ _).alloc (Nat.le_refl _) _).alloc (by simp) _
    have hbs := hbase.below hBs
    have bT := (Boxed.new W0 3 (.int .i64 1)).alloc (.cells #[.int .i64 0] 3)
    have bA := Boxed.new (W0.alloc (.cells #[.int .i64 1] 3)) 3 (.int .i64 0)
    rw [World.size_alloc] at bA
    refine wpIn_rangeFunc_ownG rfl (by omega) (gf := 26) (lb := #[.pointer (some ⟨w2.heap.size + 1, 0, none⟩)]) rfl trivial (enters_of Tryd.func26 (by kernel_rfl) rfl)
      (each_stops _ (by omega) (w2.heap.size + 1) W0.heap.size s _ hbs.lt hbase.gl (by simp; omega) hbs.tx hbs.mx) belowK_t (belowK_b (by simp; omega)) (Below.refl _ _) (fun _ => rfl)
      (fun pre W => AtI W0.heap.size 1 s pre W ∧ Below W0.heap.size W0 W)
      (fun c pre W => OutI W0.heap.size 1 s c pre W ∧ (c = .ret ∨ Below W0.heap.size W0 W))
      (OwnFrom.and (Own.from (atI_own _ _ _) _) (ownFrom_below (Nat.le_refl _) (by simp; omega)))
      (fun c => OwnFrom.and (Own.from (outI_own _ _ _ c) _) (by rintro p X Y row (h | h) hg hr; exact .inl h; exact .inr (ownFrom_below (β := List EachW.Item) (Nat.le_refl _) (by simp; omega) p X Y row h hg hr)))
      ⟨⟨bA, bT, List.nil_prefix⟩, hBs⟩
      (fun x => { tmps := #[.string s, .int .i64 stop, undef, .pointer (some ⟨w.heap.size, 0, none⟩), .pointer (some ⟨w.heap.size + 1, 0, none⟩), .pointer (some ⟨w2.heap.size, 0, none⟩), .int .i64 qb, .func (.func 26) #[] #[.pointer (some ⟨w2.heap.size + 1, 0, none⟩)], .int .i64 ((bl s).length : Int), .pointer (some ⟨W0.heap.size, 0, none⟩), .pointer (some ⟨W0.heap.size + 1, 0, none⟩), .int .i64 (x.1.1 : Int), .string x.1.2, .tuple #[.slice ab (bl s).length cb, .int .i64 qb], .string s, .tuple #[.slice ab (bl s).length cb, .int .i64 qb], .slice ab (bl s).length cb, .int .i64 qb, .string s, .func (.func 26) #[] #[.pointer (some ⟨w2.heap.size + 1, 0, none⟩)], .func (.func 26) #[] #[.pointer (some ⟨w2.heap.size + 1, 0, none⟩)], .bool false, .bool false, .bool true, .bool false, .bool false, .int .i64 1, .bool true, .int .i64 1, .func (.func 26) #[] #[.pointer (some ⟨w2.heap.size + 1, 0, none⟩)], .int .i64 (x.1.1 : Int), .string x.1.2, undef, undef, undef, undef, undef, undef, undef, undef, undef, undef, undef, undef, undef, undef, undef, undef, undef, undef, undef, undef, undef, undef, undef, undef, undef, undef, undef, .int .i64 0, .bool true, .int .i64 0, .int .i64 ((bl s).length : Int), .int .i64 ((bl s).length : Int), .int .i64 1, undef, undef, undef, undef, undef], defers := [] }) ?assign1 ?body1 ?done1 ?stop1
    case assign1 =>
      intro l x W K hK
      gi_wp2
      exact hK
    case body1 =>
      rintro l pre x W ⟨⟨hat, htu, hpre⟩, hB⟩ hlt
      have hbW := hbase.below hB
      have cA := hat.cell
      have fA := hat.frozen
      have cT := htu.cell
      have cB := hbW.bb.cell
      have cS := hbW.st.cell
      have cR := hbW.rs.cell
      have fR := hbW.rs.frozen
      have hln := bl_len s
      have hpl : pre.length ≤ (bl s).length := by
        have h1 := hpre.length_le
        rw [raw_length, gives_bl, Ln.num_length] at h1
        exact h1
      have hRow : 0 < (bl s).length → ∃ g, ab = some ⟨g, 0, none⟩ ∧ ∀ (j : Nat) l, (bl s)[j]? = some l → W.cell? ⟨g, j, none⟩ = some (.string (Fld.str l)) := by
        intro h0
        obtain ⟨ao, c2, e, _, h1 | ⟨g2, o2, e2, hx⟩⟩ := Same.isStrs_of_owns hbW.row
        · simp at h1
          rw [h1] at h0
          simp at h0
        · obtain ⟨_, ⟨e0, h00⟩ | ⟨g3, cap3, cur3, e3, _⟩⟩ := hbW.row
          · omega
          · injection e3 with e4
            refine ⟨g3, e4, fun j l hj => ?_⟩
            injection e with e5
            rw [← e5, e4] at e2
            injection e2 with e6
            injection e6 with e7 e8
            subst e7
            subst e8
            have := hx j (Fld.str l) (by simp [hj])
            simpa using this
      have HROW := hide hRow
      have HW := hide hbW
      have HPRE := hide hpre
      clear hRow hbW hpre
      generalize hz : (bl s).length = z at *
      have HZ := hide hz
      clear hz
      by_cases hok : raw (pre ++ [x]) <+: gives s
      · obtain ⟨h0, h1, l', h2, h3⟩ := next_ok s pre x hok
        rw [unhide HZ] at h0
        obtain ⟨g, rfl, hcell⟩ := unhide HROW (by omega)
        have cL := hcell _ _ h2
        have HOK := hide hok
        have HAT := hide hat
        have HTU := hide htu
        have h1' : (x.1.1 : Int) = (pre.length : Int) + 1 := by omega
        have hxa : x.1.1 = pre.length + 1 := h1
        clear hcell h2 hok h1 hat htu
        rw [h1', h3]
        clear h1' h3 hxa
        have hge : ¬ (z : Int) ≤ (pre.length : Int) := by omega
        have hlt0 : w.heap.size < W0.heap.size := hbase.st.lt
        have cS2 : ∀ u, (W.setCell ⟨W0.heap.size + 1, 0, none⟩ u).cell? ⟨w.heap.size, 0, none⟩ = some (.int .i64 stop) := fun u => ((unhide HW).st.kept (grownBy_setCell' W (W0.heap.size + 1) u) (by intro e; injection e with e; omega)).cell
        by_cases hst : stop ≤ (pre.length : Int) + 1
        · gi_wp2
          exact ⟨(KeepsOthers.setCell _ _ _).from _, .inr ⟨rfl, rfl, at_next (unhide HAT) (unhide HTU) (unhide HOK)⟩, .inr (hB.setCell (p := ⟨W0.heap.size + 1, 0, none⟩) (by simp) _)⟩
        · gi_wp2
          exact ⟨(KeepsOthers.setCell _ _ _).from _, (Below.refl W0.heap.size W).setCell (p := ⟨W0.heap.size + 1, 0, none⟩) (by simp) _, at_next (unhide HAT) (unhide HTU) (unhide HOK), hB.setCell (p := ⟨W0.heap.size + 1, 0, none⟩) (by simp) _⟩
      · have HNO := hide hok
        clear hok
        by_cases hA : (z : Int) ≤ (pre.length : Int)
        · gi_wp2
          exact ⟨(KeepsOthers.setCell _ _ _).from _, .inl ⟨rfl, unhide HNO⟩, .inl rfl⟩
        · obtain ⟨g, rfl, hcell⟩ := unhide HROW (by omega)
          obtain ⟨l', h2⟩ : ∃ l', (bl s)[pre.length]? = some l' := ⟨_, List.getElem?_eq_getElem (by rw [unhide HZ]; omega)⟩
          have cL := hcell _ _ h2
          have HNX := hide (next_of s pre x (unhide HPRE) (by rw [unhide HZ]; omega))
          by_cases hB2 : x.1.1 = pre.length + 1
          · by_cases hC : x.1.2 = Fld.str l'
            · exact absurd (unhide HNX hB2 l' h2 hC) (unhide HNO)
            · have h1' : (x.1.1 : Int) = (pre.length : Int) + 1 := by omega
              have hCn : (x.1.2.toList == (Fld.str l').toList) = false := by
                rw [beq_eq_false_iff_ne, Lib.toList_data, Lib.toList_data]
                intro e
                apply hC
                apply ByteArray.ext
                apply Array.ext'
                exact e
              clear hB2 hC h2 hcell
              rw [h1']
              clear h1'
              generalize x.1.2 = xs at *
              generalize Fld.str l' = fl at *
              gi_wp2
              exact ⟨(KeepsOthers.setCell _ _ _).from _, .inl ⟨rfl, unhide HNO⟩, .inl rfl⟩
          · have hBn : ((x.1.1 : Int) != (pre.length : Int) + 1) = true := by
              rw [bne_iff_ne]
              omega
            clear hB2 h2 hcell
            gi_wp2
            exact ⟨(KeepsOthers.setCell _ _ _).from _, .inl ⟨rfl, unhide HNO⟩, .inl rfl⟩
    case stop1 =>
      rintro D1 c pre1 W1 hD1 hSp ⟨⟨rfl, hno⟩ | ⟨rfl, _, hat, htu, _⟩, hoo⟩ hK1
      · exact absurd hSp hno
      · have hB : Below W0.heap.size W0 W1 := by
          rcases hoo with h | h
          · cases h
          · exact h
        have cA := hat.cell
        have cT := htu.cell
        have hln := bl_len s
        have hb1 := hbase.below hB
        have HB1 := hide hb1
        have HBW1 := hide hB
        clear hb1 hat htu hB hbs bT bA hBs hbase
        gi_wp2
        rw [roundsIn_succ]
        gi_wp2
        have hbase := unhide HB1
        have hBs : Below W1.heap.size W1 ((W1.alloc (.cells #[.int .i64 2] 3)).alloc (.cells #[.int .i64 0] 3)) := ((Below.refl _ _).alloc (Nat.le_refl _) _).alloc (by simp) _
        have hbs := hbase.below hBs
        have bT := (Boxed.new W1 3 (.int .i64 2)).alloc (.cells #[.int .i64 0] 3)
        have bA := Boxed.new (W1.alloc (.cells #[.int .i64 2] 3)) 3 (.int .i64 0)
        rw [World.size_alloc] at bA
        refine wpIn_rangeFunc_ownG rfl (by omega) (gf := 26) (lb := #[.pointer (some ⟨w2.heap.size + 1, 0, none⟩)]) rfl trivial (enters_of Tryd.func26 (by kernel_rfl) rfl)
          (each_stops _ (by omega) (w2.heap.size + 1) W1.heap.size s _ hbs.lt hbase.gl (by simp; omega) hbs.tx hbs.mx) belowK_t (belowK_b (by simp; omega)) (Below.refl _ _) (fun _ => rfl)
          (fun pre W => AtI W1.heap.size 2 s pre W ∧ Below W1.heap.size W1 W)
          (fun c pre W => OutI W1.heap.size 2 s c pre W ∧ (c = .ret ∨ Below W1.heap.size W1 W))
          (OwnFrom.and (Own.from (atI_own _ _ _) _) (ownFrom_below (Nat.le_refl _) (by simp; omega)))
          (fun c => OwnFrom.and (Own.from (outI_own _ _ _ c) _) (by rintro p X Y row (h | h) hg hr; exact .inl h; exact .inr (ownFrom_below (β := List EachW.Item) (Nat.le_refl _) (by simp; omega) p X Y row h hg hr)))
          ⟨⟨bA, bT, List.nil_prefix⟩, hBs⟩
          (fun x => { tmps := #[.string s, .int .i64 stop, undef, .pointer (some ⟨w.heap.size, 0, none⟩), .pointer (some ⟨w.heap.size + 1, 0, none⟩), .pointer (some ⟨w2.heap.size, 0, none⟩), .int .i64 qb, .func (.func 26) #[] #[.pointer (some ⟨w2.heap.size + 1, 0, none⟩)], .int .i64 ((bl s).length : Int), .pointer (some ⟨W1.heap.size, 0, none⟩), .pointer (some ⟨W1.heap.size + 1, 0, none⟩), .int .i64 (x.1.1 : Int), .string x.1.2, .tuple #[.slice ab (bl s).length cb, .int .i64 qb], .string s, .tuple #[.slice ab (bl s).length cb, .int .i64 qb], .slice ab (bl s).length cb, .int .i64 qb, .string s, .func (.func 26) #[] #[.pointer (some ⟨w2.heap.size + 1, 0, none⟩)], .func (.func 26) #[] #[.pointer (some ⟨w2.heap.size + 1, 0, none⟩)], .bool false, .bool false, .bool true, .bool false, .bool false, .int .i64 2, .bool true, .int .i64 2, .func (.func 26) #[] #[.pointer (some ⟨w2.heap.size + 1, 0, none⟩)], .int .i64 (x.1.1 : Int), .string x.1.2, undef, undef, undef, undef, undef, undef, undef, undef, undef, undef, undef, undef, undef, undef, undef, undef, undef, undef, undef, undef, undef, undef, undef, undef, undef, undef, undef, .int .i64 1, .bool false, .int .i64 0, .int .i64 ((bl s).length : Int), .int .i64 ((bl s).length : Int), .int .i64 2, undef, undef, undef, undef, undef], defers := [] }) ?assign2a ?body2a ?done2a ?stop2a
        case assign2a =>
          intro l x W K hK
          gi_wp2
          exact hK
        case body2a =>
          rintro l pre x W ⟨⟨hat, htu, hpre⟩, hB⟩ hlt
          have hbW := hbase.below hB
          have cA := hat.cell
          have fA := hat.frozen
          have cT := htu.cell
          have cB := hbW.bb.cell
          have cS := hbW.st.cell
          have cR := hbW.rs.cell
          have fR := hbW.rs.frozen
          have hln := bl_len s
          have hpl : pre.length ≤ (bl s).length := by
            have h1 := hpre.length_le
            rw [raw_length, gives_bl, Ln.num_length] at h1
            exact h1
          have hRow : 0 < (bl s).length → ∃ g, ab = some ⟨g, 0, none⟩ ∧ ∀ (j : Nat) l, (bl s)[j]? = some l → W.cell? ⟨g, j, none⟩ = some (.string (Fld.str l)) := by
            intro h0
            obtain ⟨ao, c2, e, _, h1 | ⟨g2, o2, e2, hx⟩⟩ := Same.isStrs_of_owns hbW.row
            · simp at h1
              rw [h1] at h0
              simp at h0
            · obtain ⟨_, ⟨e0, h00⟩ | ⟨g3, cap3, cur3, e3, _⟩⟩ := hbW.row
              · omega
              · injection e3 with e4
                refine ⟨g3, e4, fun j l hj => ?_⟩
                injection e with e5
                rw [← e5, e4] at e2
                injection e2 with e6
                injection e6 with e7 e8
                subst e7
                subst e8
                have := hx j (Fld.str l) (by simp [hj])
                simpa using this
          have HROW := hide hRow
          have HW := hide hbW
          have HPRE := hide hpre
          clear hRow hbW hpre
          generalize hz : (bl s).length = z at *
          have HZ := hide hz
          clear hz
          by_cases hok : raw (pre ++ [x]) <+: gives s
          · obtain ⟨h0, h1, l', h2, h3⟩ := next_ok s pre x hok
            rw [unhide HZ] at h0
            obtain ⟨g, rfl, hcell⟩ := unhide HROW (by omega)
            have cL := hcell _ _ h2
            have HOK := hide hok
            have HAT := hide hat
            have HTU := hide htu
            have h1' : (x.1.1 : Int) = (pre.length : Int) + 1 := by omega
            have hxa : x.1.1 = pre.length + 1 := h1
            clear hcell h2 hok h1 hat htu
            rw [h1', h3]
            clear h1' h3 hxa
            have hge : ¬ (z : Int) ≤ (pre.length : Int) := by omega
            gi_wp2
            exact ⟨(KeepsOthers.setCell _ _ _).from _, (Below.refl W1.heap.size W).setCell (p := ⟨W1.heap.size + 1, 0, none⟩) (by simp) _, at_next (unhide HAT) (unhide HTU) (unhide HOK), hB.setCell (p := ⟨W1.heap.size + 1, 0, none⟩) (by simp) _⟩
          · have HNO := hide hok
            clear hok
            by_cases hA : (z : Int) ≤ (pre.length : Int)
            · gi_wp2
              exact ⟨(KeepsOthers.setCell _ _ _).from _, .inl ⟨rfl, unhide HNO⟩, .inl rfl⟩
            · obtain ⟨g, rfl, hcell⟩ := unhide HROW (by omega)
              obtain ⟨l', h2⟩ : ∃ l', (bl s)[pre.length]? = some l' := ⟨_, List.getElem?_eq_getElem (by rw [unhide HZ]; omega)⟩
              have cL := hcell _ _ h2
              have HNX := hide (next_of s pre x (unhide HPRE) (by rw [unhide HZ]; omega))
              by_cases hB2 : x.1.1 = pre.length + 1
              · by_cases hC : x.1.2 = Fld.str l'
                · exact absurd (unhide HNX hB2 l' h2 hC) (unhide HNO)
                · have h1' : (x.1.1 : Int) = (pre.length : Int) + 1 := by omega
                  have hCn : (x.1.2.toList == (Fld.str l').toList) = false := by
                    rw [beq_eq_false_iff_ne, Lib.toList_data, Lib.toList_data]
                    intro e
                    apply hC
                    apply ByteArray.ext
                    apply Array.ext'
                    exact e
                  clear hB2 hC h2 hcell
                  rw [h1']
                  clear h1'
                  generalize x.1.2 = xs at *
                  generalize Fld.str l' = fl at *
                  gi_wp2
                  exact ⟨(KeepsOthers.setCell _ _ _).from _, .inl ⟨rfl, unhide HNO⟩, .inl rfl⟩
              · have hBn : ((x.1.1 : Int) != (pre.length : Int) + 1) = true := by
                  rw [bne_iff_ne]
                  omega
                clear hB2 h2 hcell
                gi_wp2
                exact ⟨(KeepsOthers.setCell _ _ _).from _, .inl ⟨rfl, unhide HNO⟩, .inl rfl⟩
        case stop2a =>
          rintro D c pre W hD hSp ⟨⟨rfl, hno⟩ | ⟨_, h01, _⟩, _⟩ hK
          · exact absurd hSp hno
          · exact absurd h01 (by decide)
        case done2a =>
          rintro D2 ys W2 hD2 hys ⟨⟨hat, htu, _⟩, hB⟩ hK2
          have hyl : ys.length = (bl s).length := by rw [← raw_length, hys, gives_bl, Ln.num_length]
          rw [hyl] at hat
          have cA := hat.cell
          have cT := htu.cell
          have hln := bl_len s
          have hb2 := hbase.below hB
          have cB := hb2.bb.cell
          have cR := hb2.rs.cell
          have fR := hb2.rs.frozen
          have HB2 := hide hb2
          have HBW2 := hide hB
          have HK2 := hide hK2
          clear hb2 hat htu hB hys hyl hbs bT bA hBs hbase hK2
          gi_wp2
          rw [roundsIn_succ]
          gi_wp2
          go_goals
          rw [show (((bl s).length : Int) + ((bl s).length : Int) == 2 * ((bl s).length : Int)) = true from by rw [beq_iff_eq]; omega]
          have hK2 := unhide HK2
          have b1 := unhide HBW1
          have b2 := unhide HBW2
          have base2 := unhide HB2
          have l0 := getlt hK0
          have l1 := getlt hK1
          have k1 := (b2.block D1 l1).trans hK1
          have k0 := (b2.block D0 (Nat.lt_of_lt_of_le l0 b1.size)).trans ((b1.block D0 l0).trans hK0)
          have g0 : w.heap.size ≤ D0 := by
            have := (unhide HBASE).le
            simp only [World.size_alloc] at hD0
            omega
          have g1 : W0.heap.size ≤ D1 := by
            simp only [World.size_alloc] at hD1
            omega
          have g2 : W1.heap.size ≤ D2 := by
            simp only [World.size_alloc] at hD2
            omega
          have hc : (W2.setCell ⟨w.heap.size + 1, 0, none⟩ (.bool true)).cell? ⟨w.heap.size + 1, 0, none⟩ = some (.bool true) := World.cell?_setCell_same' _ _ _ (by rw [cR]; rfl)
          have m2 := (KeepsOthers.setCell W2 ⟨w.heap.size + 1, 0, none⟩ (.bool true)).same D2 _ hK2 rfl
          have m1 := (KeepsOthers.setCell W2 ⟨w.heap.size + 1, 0, none⟩ (.bool true)).same D1 _ k1 rfl
          have m0 := (KeepsOthers.setCell W2 ⟨w.heap.size + 1, 0, none⟩ (.bool true)).same D0 _ k0 rfl
          obtain ⟨q1, q0, c0, hbb⟩ := three m2 m1 m0 (by omega) (by omega) g0 hc (base2.bw.setCell (p := ⟨w.heap.size + 1, 0, none⟩) (by simp) _)
          refine ⟨by simp, .inl ⟨_, _, rfl, run_takeDeferred m2, ?_⟩⟩
          refine ⟨by simp, .inl ⟨_, _, rfl, run_takeDeferred q1, ?_⟩⟩
          refine ⟨by simp, .inl ⟨_, _, rfl, run_takeDeferred q0, ?_⟩⟩
          refine ⟨.bool true, ?_, rfl, hbb⟩
          simp [results, Tryd.f4, go_sem, c0]
    case done1 =>
      rintro D1 pre1 W1 hD1 hys ⟨⟨hat, htu, _⟩, hB⟩ hK1
      have cA := hat.cell
      have cT := htu.cell
      have hln := bl_len s
      have hb1 := hbase.below hB
      have HB1 := hide hb1
      have HBW1 := hide hB
      clear hb1 hat htu hB hbs bT bA hBs hbase
      gi_wp2
      rw [roundsIn_succ]
      gi_wp2
      have hbase := unhide HB1
      have hBs : Below W1.heap.size W1 ((W1.alloc (.cells #[.int .i64 2] 3)).alloc (.cells #[.int .i64 0] 3)) := ((Below.refl _ _).alloc (Nat.le_refl _) _).alloc (by simp) _
      have hbs := hbase.below hBs
      have bT := (Boxed.new W1 3 (.int .i64 2)).alloc (.cells #[.int .i64 0] 3)
      have bA := Boxed.new (W1.alloc (.cells #[.int .i64 2] 3)) 3 (.int .i64 0)
      rw [World.size_alloc] at bA
      refine wpIn_rangeFunc_ownG rfl (by omega) (gf := 26) (lb := #[.pointer (some ⟨w2.heap.size + 1, 0, none⟩)]) rfl trivial (enters_of Tryd.func26 (by kernel_rfl) rfl)
        (each_stops _ (by omega) (w2.heap.size + 1) W1.heap.size s _ hbs.lt hbase.gl (by simp; omega) hbs.tx hbs.mx) belowK_t (belowK_b (by simp; omega)) (Below.refl _ _) (fun _ => rfl)
        (fun pre W => AtI W1.heap.size 2 s pre W ∧ Below W1.heap.size W1 W)
        (fun c pre W => OutI W1.heap.size 2 s c pre W ∧ (c = .ret ∨ Below W1.heap.size W1 W))
        (OwnFrom.and (Own.from (atI_own _ _ _) _) (ownFrom_below (Nat.le_refl _) (by simp; omega)))
        (fun c => OwnFrom.and (Own.from (outI_own _ _ _ c) _) (by rintro p X Y row (h | h) hg hr; exact .inl h; exact .inr (ownFrom_below (β := List EachW.Item) (Nat.le_refl _) (by simp; omega) p X Y row h hg hr)))
        ⟨⟨bA, bT, List.nil_prefix⟩, hBs⟩
        (fun x => { tmps := #[.string s, .int .i64 stop, undef, .pointer (some ⟨w.heap.size, 0, none⟩), .pointer (some ⟨w.heap.size + 1, 0, none⟩), .pointer (some ⟨w2.heap.size, 0, none⟩), .int .i64 qb, .func (.func 26) #[] #[.pointer (some ⟨w2.heap.size + 1, 0, none⟩)], .int .i64 ((bl s).length : Int), .pointer (some ⟨W1.heap.size, 0, none⟩), .pointer (some ⟨W1.heap.size + 1, 0, none⟩), .int .i64 (x.1.1 : Int), .string x.1.2, .tuple #[.slice ab (bl s).length cb, .int .i64 qb], .string s, .tuple #[.slice ab (bl s).length cb, .int .i64 qb], .slice ab (bl s).length cb, .int .i64 qb, .string s, .func (.func 26) #[] #[.pointer (some ⟨w2.heap.size + 1, 0, none⟩)], .func (.func 26) #[] #[.pointer (some ⟨w2.heap.size + 1, 0, none⟩)], .bool false, .bool false, .bool true, .bool false, .bool false, .int .i64 2, .bool true, .int .i64 2, .func (.func 26) #[] #[.pointer (some ⟨w2.heap.size + 1, 0, none⟩)], .int .i64 (x.1.1 : Int), .string x.1.2, undef, undef, undef, undef, undef, undef, undef, undef, undef, undef, undef, undef, undef, undef, undef, undef, undef, undef, undef, undef, undef, undef, undef, undef, undef, undef, undef, .int .i64 1, .bool false, .int .i64 0, .int .i64 ((bl s).length : Int), .int .i64 ((bl s).length : Int), .int .i64 2, undef, undef, undef, undef, undef], defers := [] }) ?assign2b ?body2b ?done2b ?stop2b
      case assign2b =>
        intro l x W K hK
        gi_wp2
        exact hK
      case body2b =>
        rintro l pre x W ⟨⟨hat, htu, hpre⟩, hB⟩ hlt
        have hbW := hbase.below hB
        have cA := hat.cell
        have fA := hat.frozen
        have cT := htu.cell
        have cB := hbW.bb.cell
        have cS := hbW.st.cell
        have cR := hbW.rs.cell
        have fR := hbW.rs.frozen
        have hln := bl_len s
        have hpl : pre.length ≤ (bl s).length := by
          have h1 := hpre.length_le
          rw [raw_length, gives_bl, Ln.num_length] at h1
          exact h1
        have hRow : 0 < (bl s).length → ∃ g, ab = some ⟨g, 0, none⟩ ∧ ∀ (j : Nat) l, (bl s)[j]? = some l → W.cell? ⟨g, j, none⟩ = some (.string (Fld.str l)) := by
          intro h0
          obtain ⟨ao, c2, e, _, h1 | ⟨g2, o2, e2, hx⟩⟩ := Same.isStrs_of_owns hbW.row
          · simp at h1
            rw [h1] at h0
            simp at h0
          · obtain ⟨_, ⟨e0, h00⟩ | ⟨g3, cap3, cur3, e3, _⟩⟩ := hbW.row
            · omega
            · injection e3 with e4
              refine ⟨g3, e4, fun j l hj => ?_⟩
              injection e with e5
              rw [← e5, e4] at e2
              injection e2 with e6
              injection e6 with e7 e8
              subst e7
              subst e8
              have := hx j (Fld.str l) (by simp [hj])
              simpa using this
        have HROW := hide hRow
        have HW := hide hbW
        have HPRE := hide hpre
        clear hRow hbW hpre
        generalize hz : (bl s).length = z at *
        have HZ := hide hz
        clear hz
        by_cases hok : raw (pre ++ [x]) <+: gives s
        · obtain ⟨h0, h1, l', h2, h3⟩ := next_ok s pre x hok
          rw [unhide HZ] at h0
          obtain ⟨g, rfl, hcell⟩ := unhide HROW (by omega)
          have cL := hcell _ _ h2
          have HOK := hide hok
          have HAT := hide hat
          have HTU := hide htu
          have h1' : (x.1.1 : Int) = (pre.length : Int) + 1 := by omega
          have hxa : x.1.1 = pre.length + 1 := h1
          clear hcell h2 hok h1 hat htu
          rw [h1', h3]
          clear h1' h3 hxa
          have hge : ¬ (z : Int) ≤ (pre.length : Int) := by omega
          gi_wp2
          exact ⟨(KeepsOthers.setCell _ _ _).from _, (Below.refl W1.heap.size W).setCell (p := ⟨W1.heap.size + 1, 0, none⟩) (by simp) _, at_next (unhide HAT) (unhide HTU) (unhide HOK), hB.setCell (p := ⟨W1.heap.size + 1, 0, none⟩) (by simp) _⟩
        · have HNO := hide hok
          clear hok
          by_cases hA : (z : Int) ≤ (pre.length : Int)
          · gi_wp2
            exact ⟨(KeepsOthers.setCell _ _ _).from _, .inl ⟨rfl, unhide HNO⟩, .inl rfl⟩
          · obtain ⟨g, rfl, hcell⟩ := unhide HROW (by omega)
            obtain ⟨l', h2⟩ : ∃ l', (bl s)[pre.length]? = some l' := ⟨_, List.getElem?_eq_getElem (by rw [unhide HZ]; omega)⟩
            have cL := hcell _ _ h2
            have HNX := hide (next_of s pre x (unhide HPRE) (by rw [unhide HZ]; omega))
            by_cases hB2 : x.1.1 = pre.length + 1
            · by_cases hC : x.1.2 = Fld.str l'
              · exact absurd (unhide HNX hB2 l' h2 hC) (unhide HNO)
              · have h1' : (x.1.1 : Int) = (pre.length : Int) + 1 := by omega
                have hCn : (x.1.2.toList == (Fld.str l').toList) = false := by
                  rw [beq_eq_false_iff_ne, Lib.toList_data, Lib.toList_data]
                  intro e
                  apply hC
                  apply ByteArray.ext
                  apply Array.ext'
                  exact e
                clear hB2 hC h2 hcell
                rw [h1']
                clear h1'
                generalize x.1.2 = xs at *
                generalize Fld.str l' = fl at *
                gi_wp2
                exact ⟨(KeepsOthers.setCell _ _ _).from _, .inl ⟨rfl, unhide HNO⟩, .inl rfl⟩
            · have hBn : ((x.1.1 : Int) != (pre.length : Int) + 1) = true := by
                rw [bne_iff_ne]
                omega
              clear hB2 h2 hcell
              gi_wp2
              exact ⟨(KeepsOthers.setCell _ _ _).from _, .inl ⟨rfl, unhide HNO⟩, .inl rfl⟩
      case stop2b =>
        rintro D c pre W hD hSp ⟨⟨rfl, hno⟩ | ⟨_, h01, _⟩, _⟩ hK
        · exact absurd hSp hno
        · exact absurd h01 (by decide)
      case done2b =>
        rintro D2 ys W2 hD2 hys ⟨⟨hat, htu, _⟩, hB⟩ hK2
        have hyl : ys.length = (bl s).length := by rw [← raw_length, hys, gives_bl, Ln.num_length]
        rw [hyl] at hat
        have cA := hat.cell
        have cT := htu.cell
        have hln := bl_len s
        have hb2 := hbase.below hB
        have cB := hb2.bb.cell
        have cR := hb2.rs.cell
        have fR := hb2.rs.frozen
        have HB2 := hide hb2
        have HBW2 := hide hB
        have HK2 := hide hK2
        clear hb2 hat htu hB hys hyl hbs bT bA hBs hbase hK2
        gi_wp2
        rw [roundsIn_succ]
        gi_wp2
        go_goals
        rw [show (((bl s).length : Int) + ((bl s).length : Int) == 2 * ((bl s).length : Int)) = true from by rw [beq_iff_eq]; omega]
        have hK2 := unhide HK2
        have b1 := unhide HBW1
        have b2 := unhide HBW2
        have base2 := unhide HB2
        have l0 := getlt hK0
        have l1 := getlt hK1
        have k1 := (b2.block D1 l1).trans hK1
        have k0 := (b2.block D0 (Nat.lt_of_lt_of_le l0 b1.size)).trans ((b1.block D0 l0).trans hK0)
        have g0 : w.heap.size ≤ D0 := by
          have := (unhide HBASE).le
          simp only [World.size_alloc] at hD0
          omega
        have g1 : W0.heap.size ≤ D1 := by
          simp only [World.size_alloc] at hD1
          omega
        have g2 : W1.heap.size ≤ D2 := by
          simp only [World.size_alloc] at hD2
          omega
        have hc : (W2.setCell ⟨w.heap.size + 1, 0, none⟩ (.bool true)).cell? ⟨w.heap.size + 1, 0, none⟩ = some (.bool true) := World.cell?_setCell_same' _ _ _ (by rw [cR]; rfl)
        have m2 := (KeepsOthers.setCell W2 ⟨w.heap.size + 1, 0, none⟩ (.bool true)).same D2 _ hK2 rfl
        have m1 := (KeepsOthers.setCell W2 ⟨w.heap.size + 1, 0, none⟩ (.bool true)).same D1 _ k1 rfl
        have m0 := (KeepsOthers.setCell W2 ⟨w.heap.size + 1, 0, none⟩ (.bool true)).same D0 _ k0 rfl
        obtain ⟨q1, q0, c0, hbb⟩ := three m2 m1 m0 (by omega) (by omega) g0 hc (base2.bw.setCell (p := ⟨w.heap.size + 1, 0, none⟩) (by simp) _)
        refine ⟨by simp, .inl ⟨_, _, rfl, run_takeDeferred m2, ?_⟩⟩
        refine ⟨by simp, .inl ⟨_, _, rfl, run_takeDeferred q1, ?_⟩⟩
        refine ⟨by simp, .inl ⟨_, _, rfl, run_takeDeferred q0, ?_⟩⟩
        refine ⟨.bool true, ?_, rfl, hbb⟩
        simp [results, Tryd.f4, go_sem, c0]
end EaW
end Go.Proofs.YtgmakjpicdgmgaaDoor
