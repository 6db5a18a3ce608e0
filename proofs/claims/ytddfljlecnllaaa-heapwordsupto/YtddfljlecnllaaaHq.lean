/- Layer 7: next, Push. -/
import Derived.Test.YtddfljlecnllaaaHs
namespace Go.Proofs.Ytddfljlecnllaaa
open Go.RowKit
namespace Hp
theorem gen_post {P : Program} {f : Func} {R : Ending → World → Prop} {e : Exit} {a : Act} {W : World} (h : ∀ V, V = W → bodyPost P f R e a V) : bodyPost P f R e a W := h W rfl
/-- append to a row of one's own, and where the row lies behind it -/
theorem append_blk {P : Program} (W : World) (t ty e : TypeId) (i : TypeInfo) (z : Value) (size bytes : Nat) (ht : P.underlying t = some (.slice e)) (hi : P.info? e = some i) (hz : i.zero = some z)
    (hsize : i.size = size) (hby : i.bytes = bytes) (hzs : z.cells.size = size) (hsz : 0 < size)
    (v : Value) (n : Nat) (xs : List Value) (hown : W.ownsRow 0 e size v n xs)
    (a : Addr) (m c : Nat) (news : List Value) (hl : news.length = m * size) (hnews : ∀ j u, news[j]? = some u → W.cell? (a.add j) = some u) (h1 : ∀ u ∈ news, u.oneCell' = true)
    (h63 : n + m ≤ maxLen) (hbytes : (n + m) * bytes ≤ 140737488355328) :
    ∃ v' W', (Builtin.append_ #[t, t] ty #[v, .slice (some a) m c]).run P W = .ok v' W' ∧ W'.ownsRow 0 e size v' (n + m) (xs ++ news) ∧ W.grownBy W' v.ownBlock ∧ (v'.ownBlock = v.ownBlock ∨ v'.ownBlock = some W.heap.size) := by
  obtain ⟨v', W', hr, h2, h3, h4⟩ := run_append_own (P := P) W 0 t ty e i z size bytes ht hi hz hsize hby hzs hsz v n xs hown a m c news hl hnews h1 h63 hbytes (Nat.zero_le _)
  refine ⟨v', W', hr, h2, h3, ?_⟩
  subst hsize hby
  rcases hown.2 with ⟨rfl, rfl⟩ | ⟨g, cap, cur, rfl, hbg, hg, hnc, hcm, hcs, htake⟩
  · by_cases hm : m = 0
    · left
      have := h4.2 ⟨rfl, hm⟩
      rw [this]
    · right
      have q := run_append_nil (P := P) W t ty e i z ht hi hz a m c news hl hnews (by omega) (by unfold maxLen at h63; omega) (by have hb := hbytes; simp only [Nat.zero_add] at hb; omega)
      rw [hr] at q
      injection q with q _
      rw [q]; rfl
  · by_cases hroom : n + m ≤ cap
    · left
      have hfit : n * i.size + news.length ≤ cur.size := by rw [hl, hcs, ← Nat.add_mul]; exact Nat.mul_le_mul_right _ hroom
      have q := run_append_room (P := P) W t ty e i ht hi g n cap cur hg a m c news hl hnews h1 hroom hfit
      rw [hr] at q
      injection q with q _
      rw [q]; rfl
    · right
      have q := run_append_grow (P := P) W t ty e i z ht hi hz ⟨g, 0, none⟩ n cap xs hown.1 (hown.cells (g := g) rfl) a m c news hl hnews (by omega) (by unfold maxLen at h63; omega) (growslice_fits (by unfold maxLen at h63; omega) hbytes)
      rw [hr] at q
      injection q with q _
      rw [q]; rfl
theorem infoN : (Try.prog.info? 74).map (fun i => (i.zero, i.size, i.bytes)) = some (some (.agg #[.int .i64 0, .int .i64 0, .int .i64 0]), 3, 24) := by kernel_rfl
theorem addr0 (g j : Nat) : (⟨g, 0, none⟩ : Addr).add j = ⟨g, j, none⟩ := by
  unfold Addr.add
  split
  · next h => subst h; rfl
  · simp
theorem addrO (g o j : Nat) : (⟨g, o, none⟩ : Addr).add j = ⟨g, o + j, none⟩ := by
  unfold Addr.add
  split
  · next h => subst h; rfl
  · simp
/-- one node behind the nodes -/
theorem push_node {W : World} {v : Value} {A : List Nd} (hown : W.ownsRow 0 74 3 v A.length (rowN A)) (b : Nat) (x : Nd) (h0 : W.cell? ⟨b, 0, none⟩ = some (.int .i64 x.1.1)) (h1 : W.cell? ⟨b, 1, none⟩ = some (.int .i64 x.1.2)) (h2 : W.cell? ⟨b, 2, none⟩ = some (.int .i64 x.2)) (hz : A.length ≤ 1099511627776) (ty : TypeId) (c : Nat) :
    ∃ v' W', (Builtin.append_ #[70, 70] ty #[v, .slice (some ⟨b, 0, none⟩) 1 c]).run Try.prog W = .ok v' W' ∧ W'.ownsRow 0 74 3 v' (A ++ [x]).length (rowN (A ++ [x])) ∧ W.grownBy W' v.ownBlock ∧ (v'.ownBlock = v.ownBlock ∨ v'.ownBlock = some W.heap.size) := by
  obtain ⟨i, hi, hz'⟩ := Option.map_eq_some_iff.1 infoN
  simp only [Prod.mk.injEq] at hz'
  obtain ⟨hz0, hz1, hz2⟩ := hz'
  have q := append_blk (P := Try.prog) W 70 ty 74 i _ 3 24 Try.underlying70 hi hz0 hz1 hz2 rfl (by decide) v A.length (rowN A) hown ⟨b, 0, none⟩ 1 c [.int .i64 x.1.1, .int .i64 x.1.2, .int .i64 x.2] rfl (fun j u hj => by
    rw [addr0]
    rcases j with _ | _ | _ | j
    · simp at hj; subst hj; exact h0
    · simp at hj; subst hj; exact h1
    · simp at hj; subst hj; exact h2
    · simp at hj) (by intro u hu; simp at hu; rcases hu with rfl | rfl | rfl <;> rfl) (by unfold maxLen; omega) (by omega)
  rw [rowN_app, List.length_append]
  exact q

/-- a heap that stands: the items I in the order of their coming in, p put in so far -/
def HAt (w : World) (hb : Nat) (fv : Value) (lt : It → It → Bool) (I : List It) (p : Nat) (F : Nat → Prop) : Prop := ∃ A nv, HIn w hb fv A p F nv ∧ Bag A I p ∧ Shape lt (gd A) A.length
theorem HAt.lt {w : World} {hb : Nat} {fv : Value} {lt : It → It → Bool} {I : List It} {p : Nat} {F : Nat → Prop} (h : HAt w hb fv lt I p F) : ∀ b, F b → b < w.heap.size := by
  obtain ⟨A, nv, h, _⟩ := h
  exact h.lt
theorem HAt.kept {w w' : World} {hb : Nat} {fv : Value} {lt : It → It → Bool} {I : List It} {p : Nat} {F G : Nat → Prop} (h : HAt w hb fv lt I p F) (hk : ∀ b, F b → w'.heap[b]? = w.heap[b]?) (hG : ∀ b, F b → G b) (hl : ∀ b, G b → b < w'.heap.size) : HAt w' hb fv lt I p G := by
  obtain ⟨A, nv, h, r⟩ := h
  exact ⟨A, nv, h.kept hk hG hl, r⟩
theorem HAt.below {w w' : World} {hb : Nat} {fv : Value} {lt : It → It → Bool} {I : List It} {p : Nat} {F : Nat → Prop} (h : HAt w hb fv lt I p F) (k : Below w.heap.size w w') : HAt w' hb fv lt I p F :=
  h.kept (fun b hF => k.block b (h.lt b hF)) (fun _ x => x) fun b hF => Nat.lt_of_lt_of_le (h.lt b hF) k.size
/-- behind a call -/
def Res (F : Nat → Prop) (w : World) (hb : Nat) (fv : Value) (lt : It → It → Bool) (I : List It) (p : Nat) (w' : World) : Prop := HAt w' hb fv lt I p (Up F w w') ∧ Chg F w w'
theorem HIn.up {w' : World} {hb : Nat} {fv nv : Value} {A : List Nd} {p : Nat} {F : Nat → Prop} (h : HIn w' hb fv A p F nv) (w0 : World) : HIn w' hb fv A p (Up F w0 w') nv :=
  h.kept (fun _ _ => rfl) (fun _ x => .inl x) (fun b hb => hb.elim (h.lt b) (fun x => x.2))
/-- the count was set -/
theorem HIn.count {w : World} {hb : Nat} {fv nv : Value} {A : List Nd} {p : Nat} {F : Nat → Prop} (h : HIn w hb fv A p F nv) (q : Nat) (v : Value) (hv : v = .int .i64 q) : HIn (w.setCell ⟨hb, 2, none⟩ v) hb fv A q F nv := by
  subst hv
  refine ⟨fun b hb => by simpa using h.lt b hb, h.own, by rw [set_heap1 h.obj]; rfl, own_kept h.row fun g hg => Below.heap_setCell _ _ _ _ fun e => ?_, h.rowF⟩
  have e : g = hb := e
  obtain ⟨C, fz, hx⟩ := Lib.ownsRow_kind h.row g hg
  rw [e, h.obj] at hx
  injection hx with hx
  injection hx with _ hx _
  exact absurd hx (by decide)
set_option maxRecDepth 100000 in
theorem next_any {w : World} {hb : Nat} {fv nv : Value} {A : List Nd} {p : Nat} {F : Nat → Prop} (h : HIn w hb fv A p F nv) (hp : p ≤ 4611686018427387904) (x : It) :
    Calls Try.prog 36 #[.pointer (some ⟨hb, 0, none⟩), .agg #[.int .i64 x.1, .int .i64 x.2]] w fun e w' => e = .returned (.agg #[.int .i64 x.1, .int .i64 x.2, .int .i64 ((p + 1 : Nat) : Int)]) ∧ HIn w' hb fv A (p + 1) F nv ∧ Chg F w w' := by
  obtain ⟨c0, c1, c2, cf, hl⟩ := hcells h.obj
  have HF : Hid (∀ (v : Value) (o1 o2 : Obj), v = .int .i64 ((p + 1 : Nat) : Int) → HIn (((w.setCell ⟨hb, 2, none⟩ v).alloc o1).alloc o2).drew hb fv A (p + 1) F nv ∧ Chg F w (((w.setCell ⟨hb, 2, none⟩ v).alloc o1).alloc o2).drew) := fun v o1 o2 hv =>
    ⟨(((h.count (p + 1) v hv).below ((Below.refl _ _).alloc (Nat.le_refl _) o1)).below ((Below.refl _ _).alloc (Nat.le_refl _) o2)).drew, ((((Chg.refl F w).setCell (.inl h.own) v).alloc o1).alloc o2).drew⟩
  clear h
  have ep : ((p + 1 : Nat) : Int) = (p : Int) + 1 := by omega
  rw [ep]
  rw [ep] at HF
  clear ep
  go_enter Try.func36, Try.ntmps36
  go_wp2
  go_region
  all_goals go_wp2
  refine gen_post ?_
  intro V hV
  have v0 : V.cell? ⟨w.heap.size + 1, 0, none⟩ = some (.int .i64 x.1) := by rw [hV]; go_simp
  have v1 : V.cell? ⟨w.heap.size + 1, 1, none⟩ = some (.int .i64 x.2) := by rw [hV]; go_simp
  have v2 : V.cell? ⟨w.heap.size + 1, 2, none⟩ = some (.int .i64 ((p : Int) + 1)) := by rw [hV]; go_simp
  have HE : Hid (HIn V hb fv A (p + 1) F nv ∧ Chg F w V) := by rw [hV]; exact unhide HF _ _ _ rfl
  clear hV
  exact bodyPost_ret (v := .agg #[.int .i64 x.1, .int .i64 x.2, .int .i64 ((p : Int) + 1)]) (by simp [results, Try.results36, go_sem, v0, v1, v2]) rfl ⟨rfl, unhide HE⟩
end Hp
end Go.Proofs.Ytddfljlecnllaaa
