import Derived.Test.YtidhbhdcoanfcaaGreatDoorGuSoF
namespace Go.Proofs.YtidhbhdcoanfcaaGreatDoor
open Go.Sort Go.RowKit
namespace So

theorem lt_false {x y : Int} : ltInt x y = false ↔ y ≤ x := by simp [ltInt]
theorem lt_true {x y : Int} : ltInt x y = true ↔ x < y := by simp [ltInt]
theorem sorted_iff {a b : Nat} {d : Array Int} : SortedIn ltInt a b d ↔ ∀ i j, a ≤ i → i < j → j < b → d[i]! ≤ d[j]! :=
 ⟨fun h i j h1 h2 h3 => lt_false.1 (h i j h1 h2 h3), fun h i j h1 h2 h3 => lt_false.2 (h i j h1 h2 h3)⟩
structure Kont (a b : Nat) (d : Array Int) (i j : Nat) (dk : Array Int) : Prop where
 below : Go.Sort.Below ltInt i j dk
 ai : a ≤ i
 ij : i ≤ j
 jb : j ≤ b
 size : b ≤ d.size
 sized : dk.size = d.size
 go : ∀ R, PermIn i j dk R → SortedIn ltInt i j R → PermIn a b d R ∧ SortedIn ltInt a b R
variable {a b i j : Nat} {d dk : Array Int}
theorem Kont.start (hb : b ≤ d.size) (hab : a ≤ b) (h : Go.Sort.Below ltInt a b d) : Kont a b d a b d := ⟨h, Nat.le_refl _, hab, Nat.le_refl _, hb, rfl, fun _ h1 h2 => ⟨h1, h2⟩⟩
theorem Kont.perm (h : Kont a b d i j dk) {d1 : Array Int} (hp : PermIn i j dk d1) : Kont a b d i j d1 := by
 have h1 := h.jb
 have h2 := h.size
 have h3 := h.sized
 exact ⟨h.below.permA permIn_all (by omega) hp, h.ai, h.ij, h.jb, h.size, by rw [hp.1, h3], fun R hR hS => h.go R (permIn_trans _ _ _ _ _ hp hR) hS⟩
theorem Kont.equal (h : Kont a b d i j dk) {pv m : Nat} {d4 : Array Int} (hi0 : 0 < i) (hnl : ltInt dk[i - 1]! dk[pv]! = false) (him : i < m) (hmj : m ≤ j) (hp : PermIn i j dk d4) (he : d4[i]! = dk[pv]!)
  (hlo : ∀ t, i < t → t < m → pE d4[i]! d4[t]! = true) (hhi : ∀ t, m ≤ t → t < j → pE d4[i]! d4[t]! = false) : Kont a b d m j d4 := by
 have h1 := h.jb
 have h2 := h.size
 have h3 := h.sized
 have h4 := h.ai
 have hs4 : d4.size = d.size := by rw [hp.1, h3]
 rw [he] at hlo hhi
 have lo : ∀ t, i < t → t < m → d4[t]! ≤ dk[pv]! := fun t t1 t2 => by
  have := hlo t t1 t2
  simp only [pE, Bool.not_eq_true'] at this
  exact lt_false.1 this
 have hi : ∀ t, m ≤ t → t < j → dk[pv]! < d4[t]! := fun t t1 t2 => by
  have := hhi t t1 t2
  simp only [pE, Bool.not_eq_false'] at this
  exact lt_true.1 this
 have ge : ∀ t, i ≤ t → t < j → dk[pv]! ≤ dk[t]! := fun t t1 t2 => by
  rcases h.below with hb | hb
  ·omega
  ·have := lt_false.1 (hb t t1 t2)
   have := lt_false.1 hnl
   omega
 have ge4 := permIn_all dk d4 i j (fun x => dk[pv]! ≤ x) (by omega) hp ge
 refine ⟨.inr fun t t1 t2 => lt_false.2 ?_, by omega, hmj, h1, h2, hs4, fun R hR hS => ?_⟩
 ·have a1 := hi t t1 t2
  by_cases e : m - 1 = i
  ·rw [e, he]; omega
  ·have := lo (m - 1) (by omega) (by omega); omega
 ·have eR : ∀ t, t < m → R[t]! = d4[t]! := fun t ht => hR.2.1 t (.inl ht)
  have hiR := permIn_all d4 R m j (fun x => dk[pv]! < x) (by omega) hR hi
  refine h.go R (permIn_trans _ _ _ _ _ hp (permIn_mono _ _ m j i j (by omega) (Nat.le_refl _) (by omega) hR)) (sorted_iff.2 fun x y x1 x2 x3 => ?_)
  have val : ∀ t, i ≤ t → t < m → R[t]! = dk[pv]! := fun t t1 t2 => by
   rw [eR t t2]
   have g1 := ge4 t t1 (by omega)
   by_cases e : t = i
   ·subst e; exact he
   ·have := lo t (by omega) t2; omega
  by_cases hx : x < m
  ·rw [val x x1 hx]
   by_cases hy : y < m
   ·rw [val y (by omega) hy]; omega
   ·have := hiR y (by omega) x3; omega
  ·exact sorted_iff.1 hS x y (by omega) x2 x3
structure Split (i j m : Nat) (dk d4 : Array Int) : Prop where
 im : i ≤ m
 mj : m < j
 perm : PermIn i j dk d4
 lo : ∀ t, i ≤ t → t < m → d4[t]! < d4[m]!
 hi : ∀ t, m < t → t < j → d4[m]! ≤ d4[t]!
theorem Split.of {m : Nat} {d4 : Array Int} (h1 : i ≤ m) (h2 : m < j) (h3 : PermIn i j dk d4) (h4 : ∀ t, i ≤ t → t < m → pL d4[m]! d4[t]! = true) (h5 : ∀ t, m < t → t < j → pL d4[m]! d4[t]! = false) : Split i j m dk d4 :=
 ⟨h1, h2, h3, fun t t1 t2 => lt_true.1 (h4 t t1 t2), fun t t1 t2 => lt_false.1 (h5 t t1 t2)⟩
theorem Kont.glue (h : Kont a b d i j dk) {m : Nat} {d4 R : Array Int} (hs : Split i j m dk d4)
  (hp : PermIn i j d4 R) (hm : R[m]! = d4[m]!) (h1 : ∀ t, i ≤ t → t < m → R[t]! < d4[m]!) (h2 : ∀ t, m < t → t < j → d4[m]! ≤ R[t]!) (s1 : SortedIn ltInt i m R) (s2 : SortedIn ltInt (m + 1) j R) : PermIn a b d R ∧ SortedIn ltInt a b R := by
 refine h.go R (permIn_trans _ _ _ _ _ hs.perm hp) (sorted_iff.2 fun x y x1 x2 x3 => ?_)
 by_cases hx : x < m
 ·by_cases hy : y < m
  ·exact sorted_iff.1 s1 x y x1 x2 hy
  ·have a1 := h1 x x1 hx
   by_cases e : y = m
   ·subst e; rw [hm]; omega
   ·have := h2 y (by omega) x3; omega
 ·by_cases e : x = m
  ·subst e; rw [hm]; exact h2 y x2 x3
  ·exact sorted_iff.1 s2 x y (by omega) x2 x3
theorem sorted_congr {x y : Nat} {R L : Array Int} (h : SortedIn ltInt x y L) (e : ∀ t, x ≤ t → t < y → R[t]! = L[t]!) : SortedIn ltInt x y R :=
 sorted_iff.2 fun s t s1 s2 s3 => by rw [e s s1 (by omega), e t (by omega) s3]; exact sorted_iff.1 h s t s1 s2 s3
theorem Kont.left (h : Kont a b d i j dk) {m : Nat} {d4 : Array Int} (hs : Split i j m dk d4) : Go.Sort.Below ltInt i m d4 ∧ ∀ L, PermIn i m d4 L → SortedIn ltInt i m L → Kont a b d (m + 1) j L := by
 have g1 := h.jb
 have g2 := h.size
 have g3 := h.sized
 have g4 := h.ai
 have g5 := hs.im
 have g6 := hs.mj
 have hs4 : d4.size = d.size := by rw [hs.perm.1, g3]
 refine ⟨?_, fun L hL hSL => ?_⟩
 ·rcases (h.perm hs.perm).below with hb | hb
  ·exact .inl hb
  ·exact .inr fun t t1 t2 => hb t t1 (by omega)
 ·have eL : ∀ t, m ≤ t → L[t]! = d4[t]! := fun t ht => hL.2.1 t (.inr ht)
  have hsL : L.size = d.size := by rw [hL.1, hs4]
  refine ⟨.inr fun t t1 t2 => lt_false.2 (by rw [Nat.add_sub_cancel, eL t (by omega), eL m (Nat.le_refl _)]; exact hs.hi t (by omega) t2), by omega, by omega, g1, g2, hsL, fun R hR hS => ?_⟩
  have eR : ∀ t, t ≤ m → R[t]! = L[t]! := fun t ht => hR.2.1 t (.inl (by omega))
  have loL := permIn_all d4 L i m (fun x => x < d4[m]!) (by omega) hL hs.lo
  have hiR := permIn_all L R (m + 1) j (fun x => d4[m]! ≤ x) (by omega) hR (fun t t1 t2 => by rw [eL t (by omega)]; exact hs.hi t (by omega) t2)
  exact h.glue hs (permIn_trans _ _ _ _ _ (permIn_mono _ _ i m i j (Nat.le_refl _) (by omega) (by omega) hL) (permIn_mono _ _ (m + 1) j i j (by omega) (Nat.le_refl _) (by omega) hR))
   (by rw [eR m (Nat.le_refl _), eL m (Nat.le_refl _)]) (fun t t1 t2 => by rw [eR t (by omega)]; exact loL t t1 t2) (fun t t1 t2 => hiR t (by omega) t2) (sorted_congr hSL fun t t1 t2 => eR t (by omega)) hS
theorem Kont.right (h : Kont a b d i j dk) {m : Nat} {d4 : Array Int} (hs : Split i j m dk d4) : Go.Sort.Below ltInt (m + 1) j d4 ∧ ∀ L, PermIn (m + 1) j d4 L → SortedIn ltInt (m + 1) j L → Kont a b d i m L := by
 have g1 := h.jb
 have g2 := h.size
 have g3 := h.sized
 have g4 := h.ai
 have g5 := hs.im
 have g6 := hs.mj
 have hs4 : d4.size = d.size := by rw [hs.perm.1, g3]
 refine ⟨.inr fun t t1 t2 => lt_false.2 (by rw [Nat.add_sub_cancel]; exact hs.hi t (by omega) t2), fun L hL hSL => ?_⟩
 have eL : ∀ t, t ≤ m → L[t]! = d4[t]! := fun t ht => hL.2.1 t (.inl (by omega))
 have hsL : L.size = d.size := by rw [hL.1, hs4]
 refine ⟨?_, by omega, by omega, by omega, g2, hsL, fun R hR hS => ?_⟩
 ·rcases (h.perm hs.perm).below with hb | hb
  ·exact .inl hb
  ·exact .inr fun t t1 t2 => by rw [eL t (by omega), eL (i - 1) (by omega)]; exact hb t t1 (by omega)
 ·have eR : ∀ t, m ≤ t → R[t]! = L[t]! := fun t ht => hR.2.1 t (.inr ht)
  have hiL := permIn_all d4 L (m + 1) j (fun x => d4[m]! ≤ x) (by omega) hL (fun t t1 t2 => hs.hi t (by omega) t2)
  have loR := permIn_all L R i m (fun x => x < d4[m]!) (by omega) hR (fun t t1 t2 => by rw [eL t (by omega)]; exact hs.lo t t1 t2)
  exact h.glue hs (permIn_trans _ _ _ _ _ (permIn_mono _ _ (m + 1) j i j (by omega) (Nat.le_refl _) (by omega) hL) (permIn_mono _ _ i m i j (Nat.le_refl _) (by omega) (by omega) hR))
   (by rw [eR m (Nat.le_refl _), eL m (Nat.le_refl _)]) loR (fun t t1 t2 => by rw [eR t (by omega)]; exact hiL t (by omega) t2) hS (sorted_congr hSL fun t t1 t2 => eR t (by omega))
end So
end Go.Proofs.YtidhbhdcoanfcaaGreatDoor
