/- Plain mathematics: the rows of a text that was written of rows are these rows, numbered; no walk. -/
import Derived.Test.YtaaonaaciomijabDoorShoW
import Derived.Test.YtaaonaaciomijabDoorRowM
namespace Go.Proofs.YtaaonaaciomijabDoor
namespace BkM
open ShM ShoW
--BODY
def tx (r : List ByteArray) : List (List UInt8) := r.map fun f => f.data.toList
def numR : Nat → List (List ByteArray) → List (Nat × List (List UInt8))
  | _, [] => []
  | k, r :: t => (k, tx r) :: numR (k + 1) t

/-! what a field that can stand is -/
theorem no_any : ∀ {l ch : List UInt8}, Lib.containsAny l ch = false → ∀ c ∈ l, ch.contains c = false
  | [], _, _, _, hc => by cases hc
  | b :: l, ch, h, c, hc => by
    unfold Lib.containsAny at h
    have h := of_decide_eq_false h
    unfold Lib.indexAny at h
    split at h
    · exact absurd (Int.le_refl 0) h
    · rename_i hb
      have hi : Lib.containsAny l ch = false := by
        unfold Lib.containsAny
        refine decide_eq_false ?_
        split at h
        · rename_i h1
          have : Lib.indexAny l ch = -1 := by simpa using h1
          omega
        · have := Lib.indexAny_ge ch l
          omega
      rcases List.mem_cons.1 hc with rfl | hc
      · simpa using hb
      · exact no_any hi c hc
structure Good (l : List UInt8) : Prop where
  ne : l ≠ []
  hash : Rw.rem l = false
  plain : ∀ c ∈ l, c ≠ 32 ∧ c ≠ 9 ∧ c ≠ 10 ∧ c ≠ 13
theorem good_of {l : List UInt8} (h : CntW.stands l = true) : Good l := by
  unfold CntW.stands at h
  simp only [Bool.and_eq_true, Bool.not_eq_true'] at h
  obtain ⟨⟨h1, h2⟩, h3⟩ := h
  refine ⟨fun e => (by rw [e] at h1; cases h1), h2, fun c hc => ?_⟩
  have := no_any h3 c hc
  simp only [CntW.ch, List.contains_eq_mem, decide_eq_false_iff_not, List.mem_cons, List.not_mem_nil, or_false] at this
  refine ⟨?_, ?_, ?_, ?_⟩ <;> intro e <;> apply this <;> simp [e]
theorem row_goods {i : Nat} : ∀ {r : List ByteArray} {j : Nat}, rowOk i j r = true → ∀ f ∈ tx r, Good f
  | [], _, _, f, hf => by cases hf
  | g :: t, j, h, f, hf => by
    simp only [rowOk, ok, Bool.and_eq_true] at h
    simp only [tx, List.map_cons] at hf
    rcases List.mem_cons.1 hf with rfl | hf
    · exact good_of h.1.1
    · exact row_goods h.2 f hf
theorem fault_goods : ∀ {R : List (List ByteArray)} {i : Nat}, fault i R = 0 → ∀ r ∈ R, r ≠ [] ∧ ∀ f ∈ tx r, Good f
  | [], _, _, r, hr => by cases hr
  | q :: t, i, h, r, hr => by
    unfold fault at h
    split at h
    · cases h
    · rename_i hne
      split at h
      · rename_i hok
        rcases List.mem_cons.1 hr with rfl | hr
        · exact ⟨fun e => hne (by rw [e]; rfl), row_goods hok⟩
        · exact fault_goods h r hr
      · cases h

/-! the fields of a joined row -/
theorem blank_not {c : UInt8} (h1 : c ≠ 32) (h2 : c ≠ 9) : Fld.blank c = false := by
  unfold Fld.blank
  simp only [Bool.or_eq_false_iff, beq_eq_false_iff_ne]
  exact ⟨fun e => h1 (UInt8.toNat_inj.1 (by show c.toNat = 32; exact e)), fun e => h2 (UInt8.toNat_inj.1 (by show c.toNat = 9; exact e))⟩
theorem fold_plain : ∀ (f : List UInt8) (p : List (List UInt8) × List UInt8), (∀ c ∈ f, c ≠ 32 ∧ c ≠ 9 ∧ c ≠ 10 ∧ c ≠ 13) → f.foldl Fld.stp p = (p.1, p.2 ++ f)
  | [], p, _ => by simp
  | c :: t, p, h => by
    have hc := h c (by simp)
    rw [List.foldl_cons]
    have : Fld.stp p c = (p.1, p.2 ++ [c]) := by unfold Fld.stp; rw [blank_not hc.1 hc.2.1]; rfl
    rw [this, fold_plain t _ (fun d hd => h d (by simp [hd]))]
    simp
theorem join_cons2 (f g : List UInt8) (t : List (List UInt8)) : Lib.join (f :: g :: t) [32] = f ++ 32 :: Lib.join (g :: t) [32] := by
  simp [Lib.join, List.intercalate]
theorem fold_join : ∀ (L : List (List UInt8)) (d : List (List UInt8)), L ≠ [] → (∀ f ∈ L, Good f) → Fld.fin ((Lib.join L [32]).foldl Fld.stp (d, [])) = d ++ L
  | [], _, h, _ => absurd rfl h
  | [f], d, _, h => by
    have hf := h f (by simp)
    rw [Lib.join_one, fold_plain f _ hf.plain]
    unfold Fld.fin
    simp [hf.ne]
  | f :: g :: t, d, _, h => by
    have hf := h f (by simp)
    rw [join_cons2, List.foldl_append, fold_plain f _ hf.plain, List.foldl_cons]
    have : Fld.stp (d, [] ++ f) 32 = (d ++ [f], []) := by
      unfold Fld.stp
      have : Fld.blank 32 = true := by decide
      rw [this]
      simp [hf.ne]
    rw [this, fold_join (g :: t) (d ++ [f]) (by simp) (fun x hx => h x (by simp [hx]))]
    simp
theorem fields_join {L : List (List UInt8)} (h0 : L ≠ []) (h : ∀ f ∈ L, Good f) : Fld.fieldsOf (Lib.join L [32]) = L := by
  have := fold_join L [] h0 h
  simpa [Fld.fieldsOf, Fld.st] using this
theorem keep_all : ∀ {L : List (List UInt8)}, (∀ f ∈ L, Good f) → Rw.keep L = L
  | [], _ => rfl
  | f :: t, h => by
    unfold Rw.keep
    rw [List.takeWhile_cons, (h f (by simp)).hash]
    have := keep_all (L := t) (fun x hx => h x (by simp [hx]))
    unfold Rw.keep at this
    simp [this]
theorem rowOf_join {L : List (List UInt8)} (h0 : L ≠ []) (h : ∀ f ∈ L, Good f) (k : Nat) : Rw.rowOf k (Lib.join L [32]) = [(k, L)] := by
  unfold Rw.rowOf
  rw [fields_join h0 h, keep_all h]
  cases L with
  | nil => exact absurd rfl h0
  | cons _ _ => rfl

/-! the lines of what is written -/
theorem join_mem : ∀ {L : List (List UInt8)}, (∀ f ∈ L, Good f) → ∀ c ∈ Lib.join L [32], c ≠ 10 ∧ c ≠ 13
  | [], _, c, hc => by rw [Lib.join_nil] at hc; cases hc
  | [f], h, c, hc => by rw [Lib.join_one] at hc; exact ((h f (by simp)).plain c hc).2.2
  | f :: g :: t, h, c, hc => by
    rw [join_cons2] at hc
    rcases List.mem_append.1 hc with hc | hc
    · exact ((h f (by simp)).plain c hc).2.2
    · rcases List.mem_cons.1 hc with rfl | hc
      · decide
      · exact join_mem (L := g :: t) (fun x hx => h x (by simp [hx])) c hc
theorem bef_app : ∀ {J X : List UInt8}, (∀ c ∈ J, c ≠ 10 ∧ c ≠ 13) → Ln.bef (J ++ 10 :: X) = J ∧ Ln.aft (J ++ 10 :: X) = X
  | [], _, _ => by simp [Ln.bef, Ln.aft]
  | c :: t, X, h => by
    have ih := bef_app (J := t) (X := X) (fun d hd => h d (by simp [hd]))
    have hc := (h c (by simp)).1
    simp [Ln.bef, Ln.aft, hc, ih]
theorem ended_plain {J : List UInt8} (h : ∀ c ∈ J, c ≠ 10 ∧ c ≠ 13) : Ln.ended J = J := by
  unfold Ln.ended
  rw [if_neg]
  intro e
  exact (h 13 (List.mem_of_getLast? e)).2 rfl
theorem shw_cons (r : List ByteArray) (t : List (List ByteArray)) : shw (r :: t) = Lib.join (tx r) [32] ++ 10 :: shw t := by simp [shw, tx]
theorem rows_ln : ∀ {R : List (List ByteArray)} (k : Nat), (∀ r ∈ R, r ≠ [] ∧ ∀ f ∈ tx r, Good f) → Rw.rowsP (Ln.num k (Ln.ln (shw R))) = numR k R
  | [], k, _ => rfl
  | r :: t, k, h => by
    obtain ⟨h1, h2⟩ := h r (by simp)
    have hj := join_mem h2
    have hb := bef_app (X := shw t) hj
    rw [shw_cons, Ln.ln_cons _ (by simp), hb.1, hb.2, ended_plain hj]
    have ih := rows_ln (R := t) (k + 1) (fun q hq => h q (by simp [hq]))
    have e : Rw.rowsP (Ln.num k (Lib.join (tx r) [32] :: Ln.ln (shw t))) = Rw.rowOf k (Fld.str (Lib.join (tx r) [32])).data.toList ++ Rw.rowsP (Ln.num (k + 1) (Ln.ln (shw t))) := by
      simp [Rw.rowsP, Ln.num]
    rw [e, ih, Rw.str_data, rowOf_join (by simpa [tx] using h1) h2]
    rfl
/-! the mark -/
theorem pre_of : ∀ {m f X : List UInt8} {c : UInt8}, c ∉ m → m <+: f ++ c :: X → m <+: f
  | [], _, _, _, _, _ => List.nil_prefix
  | a :: m, [], X, c, hc, h => by
    obtain ⟨t, ht⟩ := h
    simp at ht
    exact absurd (by simp [ht.1]) hc
  | a :: m, b :: f, X, c, hc, h => by
    rw [List.cons_append, List.cons_prefix_cons] at h
    rw [List.cons_prefix_cons]
    exact ⟨h.1, pre_of (fun e => hc (by simp [e])) h.2⟩
theorem unmark_shw {R : List (List ByteArray)} (h : fault 0 R = 0) : Ln.unmark (shw R) = shw R := by
  unfold Ln.unmark Lib.trimPrefix
  rw [if_neg]
  intro hp
  cases R with
  | nil => simp [shw, Lib.hasPrefix, Ln.mark] at hp
  | cons r t =>
    have hp : Ln.mark <+: shw (r :: t) := List.isPrefixOf_iff_prefix.1 hp
    unfold fault at h
    split at h
    · cases h
    · rename_i hne
      split at h
      · rename_i hok
        cases r with
        | nil => exact hne rfl
        | cons f u =>
          have hm : ∃ c X, c ∉ Ln.mark ∧ shw ((f :: u) :: t) = f.data.toList ++ c :: X := by
            rw [shw_cons]
            cases u with
            | nil => exact ⟨10, shw t, by decide, by simp [tx, Lib.join_one]⟩
            | cons g v => exact ⟨32, Lib.join (tx (g :: v)) [32] ++ 10 :: shw t, by decide, by simp only [tx, List.map_cons]; rw [join_cons2]; simp⟩
          obtain ⟨c, X, hc, e⟩ := hm
          rw [e] at hp
          have hf := pre_of hc hp
          simp only [rowOk, ok, Bool.and_eq_true] at hok
          have h2 := hok.1.2
          rw [show Lib.hasPrefix f.data.toList ShM.mark = true from List.isPrefixOf_iff_prefix.2 hf] at h2
          simp at h2
      · cases h
/-- what is written is read as the rows, numbered from 1 on -/
theorem rows_back {R : List (List ByteArray)} (h : fault 0 R = 0) : Rw.rowsOf (shw R) = numR 1 R := by
  unfold Rw.rowsOf Ln.items Ln.linesOf
  rw [unmark_shw h]
  exact rows_ln 1 (fault_goods h)
theorem numR_get : ∀ {R : List (List ByteArray)} {k i : Nat} {r : List ByteArray}, R[i]? = some r → (numR k R)[i]? = some (k + i, tx r)
  | [], _, _, _, h => by simp at h
  | q :: t, k, 0, r, h => by simp at h; simp [numR, h]
  | q :: t, k, i + 1, r, h => by
    have := numR_get (R := t) (k := k + 1) (i := i) (r := r) (by simpa using h)
    simp [numR, this]
    omega
theorem numR_len : ∀ (R : List (List ByteArray)) (k : Nat), (numR k R).length = R.length
  | [], _ => rfl
  | q :: t, k => by simp [numR, numR_len t (k + 1)]
theorem str_tx (r : List ByteArray) : (tx r).map Fld.str = r := by
  unfold tx
  rw [List.map_map]
  conv => rhs; rw [← List.map_id r]
  apply List.map_congr_left
  intro f _
  simp [Fld.str]
--END
end BkM
end Go.Proofs.YtaaonaaciomijabDoor
