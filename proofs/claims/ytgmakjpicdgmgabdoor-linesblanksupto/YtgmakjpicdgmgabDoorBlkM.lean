/- Plain mathematics of fields with blanks about them: no program is named here. -/
import Derived.Test.YtgmakjpicdgmgabDoorFld
namespace Go.Proofs.YtgmakjpicdgmgabDoor.Blk

def np (l : List UInt8) : List UInt8 := l.filter fun c => !Fld.blank c
theorem np_snoc (l : List UInt8) (c : UInt8) : np (l ++ [c]) = np l ++ (if Fld.blank c then [] else [c]) := by
  unfold np
  rw [List.filter_append]
  cases h : Fld.blank c <;> simp [h]
theorem np_le (l : List UInt8) : (np l).length ≤ l.length := List.length_filter_le _ _
theorem np_plain (l : List UInt8) : ∀ c ∈ np l, Fld.blank c = false := by
  intro c hc
  have := (List.mem_filter.1 hc).2
  simpa using this
theorem st_blanks (X : List (List UInt8)) (T b : List UInt8) (h : Fld.st T = (X, [])) (hb : ∀ c ∈ b, Fld.blank c = true) : Fld.st (T ++ b) = (X, []) := by
  induction b generalizing T with
  | nil => simpa using h
  | cons c t ih =>
    have e : T ++ c :: t = (T ++ [c]) ++ t := by simp
    rw [e]
    refine ih (T ++ [c]) ?_ (fun x hx => hb x (by simp [hx]))
    rw [Fld.st_snoc, h]
    simp [Fld.stp, hb c (by simp)]
theorem st_word (X : List (List UInt8)) (T : List UInt8) (u p : List UInt8) (h : Fld.st T = (X, u)) (hp : ∀ c ∈ p, Fld.blank c = false) : Fld.st (T ++ p) = (X, u ++ p) := by
  induction p generalizing T u with
  | nil => simpa using h
  | cons c t ih =>
    have e : T ++ c :: t = (T ++ [c]) ++ t := by simp
    rw [e, ih (T ++ [c]) (u ++ [c]) (by rw [Fld.st_snoc, h]; simp [Fld.stp, hp c (by simp)]) (fun x hx => hp x (by simp [hx]))]
    simp
theorem st_field (X : List (List UInt8)) (T p b : List UInt8) (h : Fld.st T = (X, [])) (hp : ∀ c ∈ p, Fld.blank c = false) (h0 : p ≠ []) (hb : ∀ c ∈ b, Fld.blank c = true) : Fld.st (T ++ (p ++ [32] ++ b)) = (X ++ [p], []) := by
  have e : T ++ (p ++ [32] ++ b) = ((T ++ p) ++ [32]) ++ b := by simp
  rw [e]
  refine st_blanks _ _ _ ?_ hb
  rw [Fld.st_snoc, st_word X T [] p h hp]
  have : p.isEmpty = false := by cases p with | nil => exact absurd rfl h0 | cons _ _ => rfl
  simp [Fld.stp, this, show Fld.blank 32 = true from rfl]
theorem fields_of (X : List (List UInt8)) (T : List UInt8) (h : Fld.st T = (X, [])) : Fld.fieldsOf T = X := by
  unfold Fld.fieldsOf Fld.fin
  rw [h]
  rfl
def tot : List ByteArray → Nat
  | [] => 0
  | x :: t => x.size + 1 + tot t
theorem tot_take (L : List ByteArray) : ∀ (k : Nat) (x : ByteArray), L[k]? = some x → tot (L.take (k + 1)) = tot (L.take k) + (x.size + 1) := by
  induction L with
  | nil => intro k x h; simp at h
  | cons y t ih =>
    intro k x h
    cases k with
    | zero => simp at h; subst h; simp [tot]
    | succ k =>
      have := ih k x (by simpa using h)
      simp only [List.take_succ_cons, tot] at this ⊢
      omega
theorem tot_le (L : List ByteArray) : ∀ k, tot (L.take k) ≤ tot L := by
  induction L with
  | nil => intro k; simp [tot]
  | cons y t ih =>
    intro k
    cases k with
    | zero => simp [tot]
    | succ k => have := ih k; simp only [List.take_succ_cons, tot]; omega
theorem tot_len (L : List ByteArray) : L.length ≤ tot L := by
  induction L with
  | nil => simp [tot]
  | cons y t ih => simp only [List.length_cons, tot]; omega
end Go.Proofs.YtgmakjpicdgmgabDoor.Blk
