/- Layer 8: streams at hand, and the laws of sets that StreamsAlgebra asks. No walk. -/
import Derived.Test.YtamlfmohalkemaaZv
import Derived.Test.YtamlfmohalkemaaZm
namespace Go.Proofs.Ytamlfmohalkemaa
open Go.RowKit Go.Shelf
namespace Sm

theorem rs_nodup {L : List Tx} (h : Rs L) : L.Nodup := by
  induction L with
  | nil => exact List.nodup_nil
  | cons x t ih =>
    obtain ⟨h1, h2⟩ := rs_cons.1 h
    refine List.nodup_cons.2 ⟨fun q => ?_, ih h2⟩
    have := h1 x q
    rw [lt_irr] at this; cases this
theorem mem_ofS (L : List Tx) (x : Tx) : mem (ofS L) x = mem L x := by
  rw [Bool.eq_iff_iff, mem_iff, mem_iff, ofS_mem]
theorem al_whole {A B : List Tx} (h : Rs A) : ofS (agn B false A ++ agn B true A) = A := by
  refine rs_ext (ofS_rs _) h fun x => ?_
  rw [ofS_mem, List.mem_append, agn_mem, agn_mem]
  cases q : mem B x <;> simp
theorem agn_split (A B : List Tx) : (agn B false A).length + (agn B true A).length = A.length := by
  induction A with
  | nil => rfl
  | cons a t ih =>
    unfold agn at ih ⊢
    simp at ih
    cases h : mem B a <;> simp [h] <;> omega
theorem al_count {A B : List Tx} (h : Rs A) (k : Rs B) : (ofS (A ++ B)).length + (agn B true A).length = A.length + B.length := by
  have hp : (ofS (A ++ B)).Perm (agn B false A ++ B) := by
    refine (List.perm_ext_iff_of_nodup (rs_nodup (ofS_rs _)) (List.nodup_append.2 ⟨rs_nodup (agn_rs h), rs_nodup k, fun x hx y hy e => ?_⟩)).2 fun x => ?_
    · subst e
      have := (agn_mem.1 hx).2
      rw [mem_iff.2 hy] at this; cases this
    · rw [ofS_mem, List.mem_append, List.mem_append, agn_mem]
      cases q : mem B x with
      | false =>
        have : ¬ x ∈ B := fun e => by rw [mem_iff.2 e] at q; cases q
        simp [this]
      | true => simp [mem_iff.1 q]
  have := hp.length_eq
  rw [List.length_append] at this
  have := agn_split A B
  omega
theorem al_minus {A B C : List Tx} (h : Rs A) : agn C false (agn B false A) = agn (ofS (B ++ C)) false A := by
  refine rs_ext (agn_rs (agn_rs h)) (agn_rs h) fun x => ?_
  rw [agn_mem, agn_mem, agn_mem, mem_ofS]
  have : mem (B ++ C) x = (mem B x || mem C x) := by rw [Bool.eq_iff_iff, mem_iff, Bool.or_eq_true, mem_iff, mem_iff, List.mem_append]
  rw [this]
  cases mem B x <;> cases mem C x <;> simp
theorem al_common {A B C : List Tx} (h : Rs A) : agn (agn C false A) true (agn B false A) = agn (ofS (B ++ C)) false A := by
  refine rs_ext (agn_rs (agn_rs h)) (agn_rs h) fun x => ?_
  rw [agn_mem, agn_mem, agn_mem, mem_ofS, mem_iff, agn_mem]
  have : mem (B ++ C) x = (mem B x || mem C x) := by rw [Bool.eq_iff_iff, mem_iff, Bool.or_eq_true, mem_iff, mem_iff, List.mem_append]
  rw [this]
  cases mem B x <;> cases mem C x <;> simp
theorem al_none (A : List Tx) : agn A false A = [] := by
  refine List.eq_nil_iff_forall_not_mem.2 fun x hx => ?_
  obtain ⟨h1, h2⟩ := agn_mem.1 hx
  rw [mem_iff.2 h1] at h2; cases h2
theorem al_thrice {A : List Tx} (h : Rs A) : ofS (A ++ (A ++ A)) = A := by
  refine rs_ext (ofS_rs _) h fun x => ?_
  rw [ofS_mem]
  simp

/-- a stream at hand -/
structure St (w : World) (v : Value) (L : List Tx) : Prop where
  giv : ∃ B, B ≤ w.heap.size ∧ Gives Try.prog v L B w
  rs : Rs L
  len : L.length ≤ 4194304
theorem St.below {w w' : World} {v : Value} {L : List Tx} (h : St w v L) (hb : Below w.heap.size w w') : St w' v L := by
  obtain ⟨⟨B, h2, h3⟩, h4, h5⟩ := h
  exact ⟨⟨B, Nat.le_trans h2 hb.size, h3.later (hb.mono h2) (Nat.le_refl _)⟩, h4, h5⟩
theorem St.new {w : World} {gf : FuncId} {lb : Array Value} {L : List Tx} (h : Walks Try.prog gf lb L w.heap.size w) (hr : Rs L) (hz : L.length ≤ 4194304) : St w (.func (.func gf) #[] lb) L :=
  ⟨⟨w.heap.size, Nat.le_refl _, h.gives⟩, hr, hz⟩
theorem St.count {w : World} {v : Value} {L : List Tx} (h : St w v L) : Calls Try.prog 20 #[.agg #[v]] w fun e w' => e = .returned (.int .i64 (L.length : Int)) ∧ Below w.heap.size w w' := by
  obtain ⟨⟨B, h2, h3⟩, h4, h5⟩ := h
  exact count_any h3 (Below.refl _ _) h2 (by omega)
theorem St.list {w : World} {v : Value} {L : List Tx} (h : St w v L) (most : Int) : Calls Try.prog 17 #[.agg #[v], .int .i64 most] w fun e w' => ∃ a c, e = .returned (.slice a (L.take most.toNat).length c) ∧ Own w' (.slice a (L.take most.toNat).length c) (L.take most.toNat) ∧ Below w.heap.size w w' := by
  obtain ⟨⟨B, h2, h3⟩, h4, h5⟩ := h
  refine (list_any h3 (Below.refl _ _) h2 (by omega) most).mono ?_
  rintro e w' ⟨sl, rfl, ho, hn, hb⟩
  obtain ⟨a, c, rfl⟩ := ho.slice
  exact ⟨a, c, rfl, ho, hb⟩
theorem St.all {w : World} {v : Value} {L : List Tx} (h : St w v L) : Calls Try.prog 17 #[.agg #[v], .int .i64 1099511627776] w fun e w' => ∃ a c, e = .returned (.slice a L.length c) ∧ Own w' (.slice a L.length c) L ∧ Below w.heap.size w w' := by
  have := h.list 1099511627776
  rw [List.take_of_length_le (by have := h.len; show L.length ≤ (1099511627776 : Int).toNat; omega)] at this
  exact this
theorem St.minus {w : World} {v v' : Value} {L R : List Tx} (h : St w v L) (k : St w v' R) : Calls Try.prog 21 #[.agg #[v], .agg #[v']] w fun e w' => ∃ gf lb, e = .returned (.agg #[.func (.func gf) #[] lb]) ∧ St w' (.func (.func gf) #[] lb) (agn R false L) ∧ Below w.heap.size w w' := by
  obtain ⟨⟨B, h2, h3⟩, h4, h5⟩ := h
  obtain ⟨⟨B', k2, k3⟩, k4, k5⟩ := k
  refine (minus_any (h3.later (Below.refl _ _) h2) (k3.later (Below.refl _ _) k2) h4 k4 (by omega) (Below.refl _ _) (Nat.le_refl _)).mono ?_
  rintro e w' ⟨gf, lb, rfl, hw, hb⟩
  exact ⟨gf, lb, rfl, St.new hw (agn_rs h4) (Nat.le_trans (agn_len _ _ _) h5), hb⟩
theorem St.common {w : World} {v v' : Value} {L R : List Tx} (h : St w v L) (k : St w v' R) : Calls Try.prog 22 #[.agg #[v], .agg #[v']] w fun e w' => ∃ gf lb, e = .returned (.agg #[.func (.func gf) #[] lb]) ∧ St w' (.func (.func gf) #[] lb) (agn R true L) ∧ Below w.heap.size w w' := by
  obtain ⟨⟨B, h2, h3⟩, h4, h5⟩ := h
  obtain ⟨⟨B', k2, k3⟩, k4, k5⟩ := k
  refine (common_any (h3.later (Below.refl _ _) h2) (k3.later (Below.refl _ _) k2) h4 k4 (by omega) (Below.refl _ _) (Nat.le_refl _)).mono ?_
  rintro e w' ⟨gf, lb, rfl, hw, hb⟩
  exact ⟨gf, lb, rfl, St.new hw (agn_rs h4) (Nat.le_trans (agn_len _ _ _) h5), hb⟩
theorem St.is {w : World} {v c : Value} {L : List Tx} (h : St w v L) (hr : RowAt w c L w.heap.size) : Calls Try.prog 14 #[.agg #[v], c] w fun e w' => e = .returned (.bool true) ∧ Below w.heap.size w w' := by
  obtain ⟨⟨B, h2, h3⟩, h4, h5⟩ := h
  exact is_true h3 (Below.refl _ _) h2 (by omega) hr
theorem St.row {w : World} {v : Value} {Ps : List (Value × List Tx)} (hp : PRow w v Ps w.heap.size) (h : ∀ p ∈ Ps, St w p.1 p.2) (hz : Ps.length ≤ 1048576) (ht : (lsOf Ps).flatten.length ≤ 4194304) :
    Calls Try.prog 12 #[v] w fun e w' => ∃ gf lb, e = .returned (.agg #[.func (.func gf) #[] lb]) ∧ St w' (.func (.func gf) #[] lb) (ofS (lsOf Ps).flatten) ∧ Below w.heap.size w w' := by
  refine (union_any hp (Nat.le_refl _) (fun p q => ?_) (Below.refl _ _) (Nat.le_refl _) hz (by omega)).mono ?_
  · obtain ⟨⟨B, h2, h3⟩, h4, _⟩ := h p q
    exact ⟨h3.later (Below.refl _ _) h2, h4⟩
  · rintro e w' ⟨gf, lb, rfl, hw, hb⟩
    exact ⟨gf, lb, rfl, St.new hw (ofS_rs _) (Nat.le_trans (ofS_len _) ht), hb⟩
theorem St.union2 {w : World} {v v' : Value} {L R : List Tx} (h : St w v L) (k : St w v' R) (hl : L.length + R.length ≤ 4194304) :
    Calls Try.prog 12 #[.slice (some ⟨w.heap.size, 0, none⟩) 2 2] (w.alloc (.cells #[v, v'] 27)) fun e w' => ∃ gf lb, e = .returned (.agg #[.func (.func gf) #[] lb]) ∧ St w' (.func (.func gf) #[] lb) (ofS (L ++ R)) ∧ Below w.heap.size w w' := by
  have b0 := (Below.refl _ w).alloc (Nat.le_refl _) (.cells #[v, v'] 27)
  have hq := St.row (w := w.alloc (.cells #[v, v'] 27)) (v := .slice (some ⟨w.heap.size, 0, none⟩) 2 2) (Ps := [(v, L), (v', R)]) ⟨_, _, rfl, fun _ => ⟨w.heap.size, 0, rfl, by simp, fun j p hj => by
    rcases j with _ | _ | j
    · simp at hj; subst hj; exact World.cell?_alloc_at _ _ _ _ rfl
    · simp at hj; subst hj; exact World.cell?_alloc_at _ _ _ _ rfl
    · simp at hj⟩⟩ (fun p hp => by
      simp at hp
      rcases hp with rfl | rfl
      · exact h.below b0
      · exact k.below b0) (by simp) (by simp [lsOf]; omega)
  refine hq.mono ?_
  rintro e w' ⟨gf, lb, rfl, hs, hb⟩
  refine ⟨gf, lb, rfl, ?_, b0.trans (hb.mono (by simp))⟩
  have e1 : (lsOf [(v, L), (v', R)]).flatten = L ++ R := by simp [lsOf]
  rw [e1] at hs
  exact hs
theorem St.union3 {w : World} {v : Value} {L : List Tx} (h : St w v L) (hl : L.length ≤ 1048576) :
    Calls Try.prog 12 #[.slice (some ⟨w.heap.size, 0, none⟩) 3 3] (w.alloc (.cells #[v, v, v] 27)) fun e w' => ∃ gf lb, e = .returned (.agg #[.func (.func gf) #[] lb]) ∧ St w' (.func (.func gf) #[] lb) L ∧ Below w.heap.size w w' := by
  have b0 := (Below.refl _ w).alloc (Nat.le_refl _) (.cells #[v, v, v] 27)
  have hq := St.row (w := w.alloc (.cells #[v, v, v] 27)) (v := .slice (some ⟨w.heap.size, 0, none⟩) 3 3) (Ps := [(v, L), (v, L), (v, L)]) ⟨_, _, rfl, fun _ => ⟨w.heap.size, 0, rfl, by simp, fun j p hj => by
    rcases j with _ | _ | _ | j
    · simp at hj; subst hj; exact World.cell?_alloc_at _ _ _ _ rfl
    · simp at hj; subst hj; exact World.cell?_alloc_at _ _ _ _ rfl
    · simp at hj; subst hj; exact World.cell?_alloc_at _ _ _ _ rfl
    · simp at hj⟩⟩ (fun p hp => by
      simp at hp
      subst hp
      exact h.below b0) (by simp) (by simp [lsOf]; omega)
  refine hq.mono ?_
  rintro e w' ⟨gf, lb, rfl, hs, hb⟩
  refine ⟨gf, lb, rfl, ?_, b0.trans (hb.mono (by simp))⟩
  have e1 : (lsOf [(v, L), (v, L), (v, L)]).flatten = L ++ (L ++ L) := by simp [lsOf]
  rw [e1, al_thrice h.rs] at hs
  exact hs
/-- a stream at hand, and in whatever world comes behind -/
def Sts (w : World) (v : Value) (L : List Tx) : Prop := ∀ W, Below w.heap.size w W → St W v L
theorem St.s {w : World} {v : Value} {L : List Tx} (h : St w v L) : Sts w v L := fun _ hW => h.below hW
end Sm
end Go.Proofs.Ytamlfmohalkemaa
