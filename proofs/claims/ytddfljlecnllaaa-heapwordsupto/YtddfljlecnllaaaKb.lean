/- Layer 7: the document's heap; the laws' ref, like, alike; the document's least. -/
import Derived.Test.YtddfljlecnllaaaKa
namespace Go.Proofs.Ytddfljlecnllaaa
open Go.RowKit
namespace Hp
/-- the document's items in a row of their own, that lies in no block of F -/
def RRow (w : World) (v : Value) (S : List It) (F : Nat → Prop) : Prop := w.ownsRow 0 43 2 v S.length (rowI S) ∧ ∀ g, v.ownBlock = some g → ¬ F g
theorem its_of_row {w : World} {v : Value} {S : List It} {F : Nat → Prop} {t : TypeId} (h1 : w.ownsRow 0 t 2 v S.length (rowI S)) (h2 : ∀ g, v.ownBlock = some g → ¬ F g) : Its w v S F := by
  rcases id h1.2 with ⟨e, e0⟩ | ⟨g, cap, cur, e, _, hx, _⟩
  · exact ⟨none, 0, by rw [e, e0], fun h0 => by omega⟩
  · subst e
    refine ⟨_, _, rfl, fun _ => ⟨g, 0, rfl, (Array.getElem?_eq_some_iff.1 hx).1, h2 g rfl, fun j x hj => ?_⟩⟩
    have hjl := (List.getElem?_eq_some_iff.1 hj).1
    obtain ⟨a1, a2⟩ := rowI_get hj
    rw [Nat.zero_add]
    exact ⟨by rw [h1.cellAt (j * 2) (by omega)]; exact a1, by rw [h1.cellAt (j * 2 + 1) (by omega)]; exact a2⟩
theorem infoR : (Try.prog.info? 43).map (fun i => (i.zero, i.size, i.bytes)) = some (some (.agg #[.int .i64 0, .int .i64 0]), 2, 16) := by kernel_rfl
/-- one item of the document behind a row of them -/
theorem push_ref {W : World} {v : Value} {A : List It} (hown : W.ownsRow 0 43 2 v A.length (rowI A)) (b : Nat) (x : It) (h0 : W.cell? ⟨b, 0, none⟩ = some (.int .i64 x.1)) (h1 : W.cell? ⟨b, 1, none⟩ = some (.int .i64 x.2)) (hz : A.length ≤ 1099511627776) (ty : TypeId) (c : Nat) :
    ∃ v' W', (Builtin.append_ #[28, 28] ty #[v, .slice (some ⟨b, 0, none⟩) 1 c]).run Try.prog W = .ok v' W' ∧ W'.ownsRow 0 43 2 v' (A ++ [x]).length (rowI (A ++ [x])) ∧ W.grownBy W' v.ownBlock ∧ (v'.ownBlock = v.ownBlock ∨ v'.ownBlock = some W.heap.size) := by
  obtain ⟨i, hi, hz'⟩ := Option.map_eq_some_iff.1 infoR
  simp only [Prod.mk.injEq] at hz'
  obtain ⟨hz0, hz1, hz2⟩ := hz'
  have q := append_blk (P := Try.prog) W 28 ty 43 i _ 2 16 Try.underlying28 hi hz0 hz1 hz2 rfl (by decide) v A.length (rowI A) hown ⟨b, 0, none⟩ 1 c [.int .i64 x.1, .int .i64 x.2] rfl (fun j u hj => by
    rw [addr0]
    rcases j with _ | _ | j
    · simp at hj; subst hj; exact h0
    · simp at hj; subst hj; exact h1
    · simp at hj) (by intro u hu; simp at hu; rcases hu with rfl | rfl <;> rfl) (by unfold maxLen; omega) (by omega)
  rw [rowI_app, List.length_append]
  exact q
/-- a row that grows, newer than w -/
structure Grow (w : World) (v : Value) (S : List It) (wr : World) : Prop where
  row : wr.ownsRow 0 43 2 v S.length (rowI S)
  new : ∀ g, v.ownBlock = some g → w.heap.size ≤ g
  old : Below w.heap.size w wr
theorem Grow.start (w : World) : Grow w (.slice none 0 0) [] w := ⟨World.ownsRow_nil _ _ _ _, fun g hg => (by cases hg), Below.refl _ _⟩
theorem Grow.below {w wr W : World} {v : Value} {S : List It} (h : Grow w v S wr) (hb : Below wr.heap.size wr W) : Grow w v S W :=
  ⟨own_kept h.row fun g hg => hb.block g (h.row.lt g hg).2, h.new, h.old.trans (hb.mono h.old.size)⟩
/-- an item was put behind the row, its one cell made new -/
theorem Grow.push {w wr : World} {v : Value} {S : List It} (h : Grow w v S wr) (x : It) (hz : S.length ≤ 1099511627776) (ty : TypeId) :
    ∃ a c W', (Builtin.append_ #[28, 28] ty #[v, .slice (some ⟨wr.heap.size, 0, none⟩) 1 1]).run Try.prog (wr.alloc (.cells #[.int .i64 x.1, .int .i64 x.2] 43)) = .ok (.slice a (S.length + 1) c) W' ∧ Grow w (.slice a (S.length + 1) c) (S ++ [x]) W' ∧ Chg (fun b => w.heap.size ≤ b ∧ b < wr.heap.size ∧ v.ownBlock = some b) wr W' := by
  have hb : Below wr.heap.size wr (wr.alloc (.cells #[.int .i64 x.1, .int .i64 x.2] 43)) := (Below.refl _ _).alloc (Nat.le_refl _) _
  have h' := h.below hb
  obtain ⟨v', W', hrun, hown, hg, hbk⟩ := push_ref (W := wr.alloc (.cells #[.int .i64 x.1, .int .i64 x.2] 43)) h'.row wr.heap.size x (World.cell?_alloc_at _ _ _ _ rfl) (World.cell?_alloc_at _ _ _ _ rfl) hz ty 1
  obtain ⟨a, c, rfl⟩ := own_slice hown
  rw [List.length_append, List.length_singleton] at hrun hbk hown
  refine ⟨a, c, W', hrun, ⟨by rw [List.length_append, List.length_singleton]; exact hown, fun g hg' => ?_, h'.old.trans ((Below.refl _ _).grown hg h'.old.size h.new)⟩, ?_⟩
  · rcases hbk with q | q
    · exact h.new g (q ▸ hg')
    · rw [q] at hg'; injection hg' with hg'; have := h'.old.size; omega
  · refine (Chg.of_below hb).grown hg fun k hk => .inl ⟨h.new k hk, (h.row.lt k hk).2, hk⟩
set_option maxRecDepth 100000 in
set_option maxHeartbeats 1000000 in
theorem ref_any {w : World} {v : Value} {X : List It} (hx : Its w v X (fun _ => False)) (hz : X.length ≤ 1099511627775) :
    Calls Try.prog 11 #[v] w fun e w' => ∃ u, e = .returned u ∧ Grow w u X w' := by
  have HX := hide hx
  obtain ⟨ao, cap, rfl, -⟩ := hx
  obtain ⟨n, hn⟩ : ∃ n, X.length = n := ⟨_, rfl⟩
  have HN := hide hn
  rw [hn] at hz HX ⊢
  clear hn
  have HG0 := hide (Grow.start w)
  go_enter Try.func11, Try.ntmps11
  go_wp2
  go_loopw [3, 8] (fun s3 s8 wr => ∃ (k : Nat), s8 = .int .i64 k ∧ k ≤ n ∧ Hid (Grow w s3 (X.take k) wr)) (fun _ s8 _ => n - (intOf s8).toNat)
  case atStart => exact ⟨0, rfl, Nat.zero_le _, HG0⟩
  case round =>
    obtain ⟨k, rfl, hk, HG⟩ := hrel
    by_cases hlt : k < n
    · have hltz : (k : Int) < (n : Int) := by omega
      have hk0 : 0 ≤ (k : Int) := by omega
      obtain ⟨x, hx⟩ : ∃ x, X[k]? = some x := ⟨_, List.getElem?_eq_getElem (by rw [unhide HN]; exact hlt)⟩
      obtain ⟨a', c', e1, hat⟩ := (unhide HX).chg (Chg.of_below (unhide HG).old)
      have e3 : ao = a' := by injection e1
      clear e1
      subst e3
      obtain ⟨g, off, rfl, hg, -, hc⟩ := hat (by rw [unhide HN]; omega)
      obtain ⟨x0, x1⟩ := hc k x hx
      have HT : Hid (X.take (k + 1) = X.take k ++ [x]) := by rw [Hid, List.take_succ_eq_append_getElem (by rw [unhide HN]; exact hlt), (List.getElem?_eq_some_iff.1 hx).2]
      obtain ⟨a5, c5, W5, hap, hgr, -⟩ := ((unhide HG).below ((Below.refl _ _).alloc (Nat.le_refl _) (.cells #[.int .i64 x.1, .int .i64 x.2] 39))).push x (by rw [List.length_take]; omega) 28
      rw [← unhide HT] at hgr
      have hl : (X.take k).length = k := by rw [List.length_take, unhide HN]; omega
      rw [hl] at hap hgr
      have es : (wr.alloc (.cells #[.int .i64 x.1, .int .i64 x.2] 39)).heap.size = wr.heap.size + 1 := by simp
      rw [es] at hap
      have HAP := hide hap
      have HGR := hide hgr
      clear hat hc hx hap hgr hl es
      go_wp2_with (at_builtin; refine wpList_append_run rfl _ _ 28 28 rfl _ _ rfl rfl (.slice a5 (k + 1) c5) W5 (unhide HAP) ?_)
      go_roundw
      case rel => exact ⟨k + 1, by go_num, by omega, HGR⟩
      case measure => simp [intOf]; omega
    · obtain rfl : k = n := by omega
      have hltz : ¬ (k : Int) < (k : Int) := by omega
      have HE : Hid (X.take k = X) := by rw [Hid, ← unhide HN, List.take_length]
      rw [unhide HE] at HG
      clear HE
      go_wp2
      go_ret
      exact ⟨_, rfl, unhide HG⟩
end Hp
end Go.Proofs.Ytddfljlecnllaaa
