/- Plain mathematics of written flags: no walk. -/
import Derived.Test.YtaaonaaciomijaaDoorOneM
import Derived.Test.YtaaonaaciomijaaDoorCutM
import Derived.Test.YtaaonaaciomijaaDoorDec
import Derived.Lib.Join
namespace Go.Proofs.YtaaonaaciomijaaDoor
namespace Shw
open Cut
/-- what writes a flag of a kind -/
def wr (kind f : Int) : List UInt8 := if kind = 1 then [UInt8.ofNat (f.toNat % 256)] else if kind = 2 then [UInt8.ofNat (f.toNat / 256), UInt8.ofNat (f.toNat % 256)] else Lib.itoa f
def okF (kind f : Int) : Bool := One.val kind (wr kind f) != 0 && One.val kind (wr kind f) == f
theorem byte_nat {n : Nat} (h : n < 256) : (UInt8.ofNat n).toNat = n := by simp; omega
theorem wr_len (kind f : Int) (h0 : 0 ≤ f) (h1 : f ≤ 65535) : (wr kind f).length ≤ 20 := by
  unfold wr
  split
  · simp
  · split
    · simp
    · exact Dec.itoa_len f (by omega) (by omega)
theorem ok1 {f : Int} (h0 : 0 ≤ f) (h1 : f ≤ 65535) : okF 1 f = (!decide (255 < f) && (One.val 1 (wr 1 f) != 0)) := by
  have hb : (UInt8.ofNat (f.toNat % 256)).toNat = f.toNat % 256 := byte_nat (by omega)
  unfold okF
  have e : One.val 1 (wr 1 f) = if One.sg (UInt8.ofNat (f.toNat % 256)) then ((f.toNat % 256 : Nat) : Int) else 0 := by
    simp only [wr, if_pos, One.val, hb]
  rw [e]
  have hm1 : 255 < f → ((f.toNat % 256 : Nat) : Int) ≠ f := fun h => by omega
  have hm2 : ¬ 255 < f → ((f.toNat % 256 : Nat) : Int) = f := fun h => by omega
  generalize ((f.toNat % 256 : Nat) : Int) = m at *
  split
  · by_cases h : 255 < f
    · have := hm1 h
      simp [h, this]
    · have := hm2 h
      simp [h, this]
  · simp
theorem ok2 {f : Int} (h0 : 0 ≤ f) (h1 : f ≤ 65535) : okF 2 f = (One.val 2 (wr 2 f) != 0) := by
  have hb : (UInt8.ofNat (f.toNat % 256)).toNat = f.toNat % 256 := byte_nat (by omega)
  have ha : (UInt8.ofNat (f.toNat / 256)).toNat = f.toNat / 256 := byte_nat (by omega)
  unfold okF
  have e : One.val 2 (wr 2 f) = if One.sg (UInt8.ofNat (f.toNat / 256)) && One.sg (UInt8.ofNat (f.toNat % 256)) then f else 0 := by
    have e2 : (256 : Int) * ((f.toNat / 256 : Nat) : Int) + ((f.toNat % 256 : Nat) : Int) = f := by omega
    have w2 : wr 2 f = [UInt8.ofNat (f.toNat / 256), UInt8.ofNat (f.toNat % 256)] := rfl
    have v2 : ∀ c d : UInt8, One.val 2 [c, d] = if One.sg c && One.sg d then 256 * (c.toNat : Int) + (d.toNat : Int) else 0 := fun _ _ => rfl
    rw [w2, v2, ha, hb, e2]
  rw [e]
  split <;> simp
theorem ok3 {f : Int} (h0 : 0 ≤ f) (h1 : f ≤ 65535) : okF 3 f = (One.val 3 (wr 3 f) != 0) := by
  unfold okF
  have e : One.val 3 (wr 3 f) = f := by
    show Num.numN (Lib.itoa f) 65535 = f
    exact Dec.numN_itoa f 65535 h0 h1
  rw [e]
  simp
/-- the text of pieces -/
def sepK (kind : Int) : List UInt8 := if kind = 3 then [44] else []
def text (kind : Int) (Z : List Int) : List UInt8 := Lib.join (Z.map (wr kind)) (sepK kind)
theorem joinTail_snoc (sep : List UInt8) : ∀ (r : List (List UInt8)) (x : List UInt8), Lib.joinTail sep (r ++ [x]) = Lib.joinTail sep r ++ (sep ++ x)
  | [], x => by simp [Lib.joinTail]
  | y :: t, x => by
    have ih := joinTail_snoc sep t x
    simp [Lib.joinTail] at ih ⊢
theorem join_snoc (xs : List (List UInt8)) (x sep : List UInt8) : Lib.join (xs ++ [x]) sep = if xs = [] then x else Lib.join xs sep ++ (sep ++ x) := by
  cases xs with
  | nil => simp [Lib.join_one]
  | cons y t =>
    rw [if_neg (by simp), List.cons_append, Lib.join_cons, Lib.join_cons, joinTail_snoc]
    simp
theorem text_snoc (kind : Int) (Z : List Int) (x : Int) : text kind (Z ++ [x]) = if Z = [] then wr kind x else text kind Z ++ (sepK kind ++ wr kind x) := by
  unfold text
  rw [List.map_append, List.map_cons, List.map_nil, join_snoc]
  cases Z <;> simp
theorem text_len (kind : Int) : ∀ (n : Nat) (Z : List Int), Z.length = n → (∀ x ∈ Z, 0 ≤ x ∧ x ≤ 65535) → (text kind Z).length ≤ 21 * n := by
  intro n
  induction n with
  | zero =>
    intro Z hZ _
    have : Z = [] := List.eq_nil_of_length_eq_zero hZ
    subst this
    simp [text, Lib.join_nil]
  | succ n ih =>
    intro Z hZ hb
    obtain ⟨T, x, rfl⟩ : ∃ T x, Z = T ++ [x] := by
      refine ⟨Z.dropLast, Z.getLast (by intro h; simp [h] at hZ), (List.dropLast_concat_getLast _).symm⟩
    have h1 := ih T (by simp at hZ; exact hZ) (fun y hy => hb y (by simp [hy]))
    have h2 := wr_len kind x (hb x (by simp)).1 (hb x (by simp)).2
    have h3 : (sepK kind).length ≤ 1 := by unfold sepK; split <;> simp
    rw [text_snoc]
    split
    · omega
    · simp; omega
/-- the error and the text of a set -/
def showE (kind : Int) (Z : List Int) : Int := if One.isK kind then (if Z.all (okF kind) then (if 64 < Z.length then 32 else 0) else 31) else 30
def showT (kind : Int) (Z : List Int) : List UInt8 := if showE kind Z = 0 then text kind Z else []
end Shw
end Go.Proofs.YtaaonaaciomijaaDoor
