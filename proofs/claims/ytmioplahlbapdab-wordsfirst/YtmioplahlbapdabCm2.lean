/- Plain mathematics of the common beginning: no program is named here. -/
import Derived.Test.YtmioplahlbapdabWd
namespace Go.Proofs.Ytmioplahlbapdab.Wd

theorem cm_le1 : ∀ x y : List UInt8, cm x y ≤ x.length
  | [], y => by cases y <;> simp [cm]
  | a :: x, [] => by simp [cm]
  | a :: x, b :: y => by
    have := cm_le1 x y
    simp only [cm, List.length_cons]
    split <;> omega
theorem cm_comm : ∀ x y : List UInt8, cm x y = cm y x
  | [], [] => rfl
  | [], b :: y => rfl
  | a :: x, [] => rfl
  | a :: x, b :: y => by
    simp only [cm]
    rw [cm_comm x y]
    by_cases h : a = b
    · subst h; rfl
    · have h2 : ¬ b = a := fun e => h e.symm
      simp [h, h2]
theorem cm_le2 (x y : List UInt8) : cm x y ≤ y.length := by rw [cm_comm]; exact cm_le1 y x
theorem cm_app (p x y : List UInt8) : cm (p ++ x) (p ++ y) = p.length + cm x y := by
  induction p with
  | nil => simp
  | cons c p ih => simp only [List.cons_append, cm, if_true, ih, List.length_cons]; omega
theorem cm_take : ∀ x y : List UInt8, x.take (cm x y) = y.take (cm x y)
  | [], y => by cases y <;> simp [cm]
  | a :: x, [] => by simp [cm]
  | a :: x, b :: y => by
    simp only [cm]
    split
    · rename_i h
      subst h
      rw [List.take_succ_cons, List.take_succ_cons, cm_take x y]
    · simp
theorem cm_ne : ∀ (x y : List UInt8) (h1 : cm x y < x.length) (h2 : cm x y < y.length), x[cm x y] ≠ y[cm x y]
  | [], y, h1, _ => by simp at h1
  | a :: x, [], _, h2 => by simp at h2
  | a :: x, b :: y, h1, h2 => by
    by_cases h : a = b
    · have e : cm (a :: x) (b :: y) = cm x y + 1 := by simp [cm, h]
      simp only [e, List.length_cons] at h1 h2
      have := cm_ne x y (by omega) (by omega)
      simpa [e] using this
    · have e : cm (a :: x) (b :: y) = 0 := by simp [cm, h]
      simp only [e]
      simpa using h
theorem cm_ext (a b : ByteArray) : a.extract 0 (cm a.data.toList b.data.toList) = b.extract 0 (cm a.data.toList b.data.toList) := by
  apply ByteArray.ext
  simp only [ByteArray.data_extract]
  apply Array.ext'
  have h := cm_take a.data.toList b.data.toList
  generalize cm a.data.toList b.data.toList = n at *
  simpa using h
theorem cm_nq (a b : ByteArray) (h1 : cm a.data.toList b.data.toList < a.size) (h2 : cm a.data.toList b.data.toList < b.size) : a[cm a.data.toList b.data.toList] ≠ b[cm a.data.toList b.data.toList] := by
  have h := cm_ne a.data.toList b.data.toList (by simpa using h1) (by simpa using h2)
  exact h
end Go.Proofs.Ytmioplahlbapdab.Wd
