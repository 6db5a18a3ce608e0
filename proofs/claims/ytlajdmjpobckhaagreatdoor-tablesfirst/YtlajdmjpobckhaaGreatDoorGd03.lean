/- Plain mathematics of a round of the sort of flags; no walk. -/
import Derived.Test.YtlajdmjpobckhaaGreatDoorGd02
import Derived.Test.YtlajdmjpobckhaaGreatDoorGd01
import Derived.Sort.WalkB3
namespace Go.Proofs.YtlajdmjpobckhaaGreatDoor
open Go.Sort Go.RowKit
namespace So

theorem lt_false {x y : Int} : ltInt x y = false ↔ y ≤ x := by simp [ltInt]
theorem lt_true {x y : Int} : ltInt x y = true ↔ x < y := by simp [ltInt]
theorem sorted_iff {a b : Nat} {d : Array Int} : SortedIn ltInt a b d ↔ ∀ i j, a ≤ i → i < j → j < b → d[i]! ≤ d[j]! :=
  ⟨fun h i j h1 h2 h3 => lt_false.1 (h i j h1 h2 h3), fun h i j h1 h2 h3 => lt_false.2 (h i j h1 h2 h3)⟩
/-- whatever sorts [i, j) sorts the whole -/
structure Kont (a b : Nat) (d : Array Int) (i j : Nat) (dk : Array Int) : Prop where
  below : Go.Sort.Below ltInt i j dk
  ai : a ≤ i
  ij : i ≤ j
  jb : j ≤ b
  size : b ≤ d.size
  sized : dk.size = d.size
  go : ∀ R, PermIn i j dk R → SortedIn ltInt i j R → PermIn a b d R ∧ SortedIn ltInt a b R
variable {a b i j : Nat} {d dk : Array Int}
theorem Kont.start (hb : b ≤ d.size) (hab : a ≤ b) (h : Go.Sort.Below ltInt a b d) : Kont a b d a b d := ⟨h, Nat.le_refl _, hab, Nat.le_refl _, hb, rfl, fun _ h1 h2 => ⟨h1, h2⟩⟩
theorem Kont.perm (h : Kont a b d i j dk) {d1 : Array Int} (hp : PermIn i j dk d1) : Kont a b d i j d1 := by
  have h1 := h.jb
  have h2 := h.size
  have h3 := h.sized
  exact ⟨h.below.permA permIn_all (by omega) hp, h.ai, h.ij, h.jb, h.size, by rw [hp.1, h3], fun R hR hS => h.go R (permIn_trans _ _ _ _ _ hp hR) hS⟩
/-- behind a partition into those like the pivot and those above it -/
theorem Kont.equal (h : Kont a b d i j dk) {pv m : Nat} {d4 : Array Int} (hi0 : 0 < i) (hnl : ltInt dk[i - 1]! dk[pv]! = false) (him : i < m) (hmj : m ≤ j) (hp : PermIn i j dk d4) (he : d4[i]! = dk[pv]!)
    (hlo : ∀ t, i < t → t < m → pE d4[i]! d4[t]! = true) (hhi : ∀ t, m ≤ t → t < j → pE d4[i]! d4[t]! = false) : Kont a b d m j d4 := by
  have h1 := h.jb
  have h2 := h.size
  have h3 := h.sized
  have h4 := h.ai
  have hs4 : d4.size = d.size := by rw [hp.1, h3]
  rw [he] at hlo hhi
  have lo : ∀ t, i < t → t < m → d4[t]! ≤ dk[pv]! := fun t t1 t2 => by
    have := hlo t t1 t2
    simp only [pE, Bool.not_eq_true'] at this
    exact lt_false.1 this
  have hi : ∀ t, m ≤ t → t < j → dk[pv]! < d4[t]! := fun t t1 t2 => by
    have := hhi t t1 t2
    simp only [pE, Bool.not_eq_false'] at this
    exact lt_true.1 this
  have ge : ∀ t, i ≤ t → t < j → dk[pv]! ≤ dk[t]! := fun t t1 t2 => by
    rcases h.below with hb | hb
    · omega
    · have := lt_false.1 (hb t t1 t2)
      have := lt_false.1 hnl
      omega
  have ge4 := permIn_all dk d4 i j (fun x => dk[pv]! ≤ x) (by omega) hp ge
  refine ⟨.inr fun t t1 t2 => lt_false.2 ?_, by omega, hmj, h1, h2, hs4, fun R hR hS => ?_⟩
  · have a1 := hi t t1 t2
    by_cases e : m - 1 = i
    · rw [e, he]; omega
    · have := lo (m - 1) (by omega) (by omega); omega
  · have eR : ∀ t, t < m → R[t]! = d4[t]! := fun t ht => hR.2.1 t (.inl ht)
    have hiR := permIn_all d4 R m j (fun x => dk[pv]! < x) (by omega) hR hi
    refine h.go R (permIn_trans _ _ _ _ _ hp (permIn_mono _ _ m j i j (by omega) (Nat.le_refl _) (by omega) hR)) (sorted_iff.2 fun x y x1 x2 x3 => ?_)
    have val : ∀ t, i ≤ t → t < m → R[t]! = dk[pv]! := fun t t1 t2 => by
      rw [eR t t2]
      have g1 := ge4 t t1 (by omega)
      by_cases e : t = i
      · subst e; exact he
      · have := lo t (by omega) t2; omega
    by_cases hx : x < m
    · rw [val x x1 hx]
      by_cases hy : y < m
      · rw [val y (by omega) hy]; omega
      · have := hiR y (by omega) x3; omega
    · exact sorted_iff.1 hS x y (by omega) x2 x3
/-- what a partition leaves -/
structure Split (i j m : Nat) (dk d4 : Array Int) : Prop where
  im : i ≤ m
  mj : m < j
  perm : PermIn i j dk d4
  lo : ∀ t, i ≤ t → t < m → d4[t]! < d4[m]!
  hi : ∀ t, m < t → t < j → d4[m]! ≤ d4[t]!
theorem Split.of {m : Nat} {d4 : Array Int} (h1 : i ≤ m) (h2 : m < j) (h3 : PermIn i j dk d4) (h4 : ∀ t, i ≤ t → t < m → pL d4[m]! d4[t]! = true) (h5 : ∀ t, m < t → t < j → pL d4[m]! d4[t]! = false) : Split i j m dk d4 :=
  ⟨h1, h2, h3, fun t t1 t2 => lt_true.1 (h4 t t1 t2), fun t t1 t2 => lt_false.1 (h5 t t1 t2)⟩
theorem Kont.glue (h : Kont a b d i j dk) {m : Nat} {d4 R : Array Int} (hs : Split i j m dk d4)
    (hp : PermIn i j d4 R) (hm : R[m]! = d4[m]!) (h1 : ∀ t, i ≤ t → t < m → R[t]! < d4[m]!) (h2 : ∀ t, m < t → t < j → d4[m]! ≤ R[t]!) (s1 : SortedIn ltInt i m R) (s2 : SortedIn ltInt (m + 1) j R) : PermIn a b d R ∧ SortedIn ltInt a b R := by
  refine h.go R (permIn_trans _ _ _ _ _ hs.perm hp) (sorted_iff.2 fun x y x1 x2 x3 => ?_)
  by_cases hx : x < m
  · by_cases hy : y < m
    · exact sorted_iff.1 s1 x y x1 x2 hy
    · have a1 := h1 x x1 hx
      by_cases e : y = m
      · subst e; rw [hm]; omega
      · have := h2 y (by omega) x3; omega
  · by_cases e : x = m
    · subst e; rw [hm]; exact h2 y x2 x3
    · exact sorted_iff.1 s2 x y (by omega) x2 x3
theorem sorted_congr {x y : Nat} {R L : Array Int} (h : SortedIn ltInt x y L) (e : ∀ t, x ≤ t → t < y → R[t]! = L[t]!) : SortedIn ltInt x y R :=
  sorted_iff.2 fun s t s1 s2 s3 => by rw [e s s1 (by omega), e t (by omega) s3]; exact sorted_iff.1 h s t s1 s2 s3
theorem Kont.left (h : Kont a b d i j dk) {m : Nat} {d4 : Array Int} (hs : Split i j m dk d4) : Go.Sort.Below ltInt i m d4 ∧ ∀ L, PermIn i m d4 L → SortedIn ltInt i m L → Kont a b d (m + 1) j L := by
  have g1 := h.jb
  have g2 := h.size
  have g3 := h.sized
  have g4 := h.ai
  have g5 := hs.im
  have g6 := hs.mj
  have hs4 : d4.size = d.size := by rw [hs.perm.1, g3]
  refine ⟨?_, fun L hL hSL => ?_⟩
  · rcases (h.perm hs.perm).below with hb | hb
    · exact .inl hb
    · exact .inr fun t t1 t2 => hb t t1 (by omega)
  · have eL : ∀ t, m ≤ t → L[t]! = d4[t]! := fun t ht => hL.2.1 t (.inr ht)
    have hsL : L.size = d.size := by rw [hL.1, hs4]
    refine ⟨.inr fun t t1 t2 => lt_false.2 (by rw [Nat.add_sub_cancel, eL t (by omega), eL m (Nat.le_refl _)]; exact hs.hi t (by omega) t2), by omega, by omega, g1, g2, hsL, fun R hR hS => ?_⟩
    have eR : ∀ t, t ≤ m → R[t]! = L[t]! := fun t ht => hR.2.1 t (.inl (by omega))
    have loL := permIn_all d4 L i m (fun x => x < d4[m]!) (by omega) hL hs.lo
    have hiR := permIn_all L R (m + 1) j (fun x => d4[m]! ≤ x) (by omega) hR (fun t t1 t2 => by rw [eL t (by omega)]; exact hs.hi t (by omega) t2)
    exact h.glue hs (permIn_trans _ _ _ _ _ (permIn_mono _ _ i m i j (Nat.le_refl _) (by omega) (by omega) hL) (permIn_mono _ _ (m + 1) j i j (by omega) (Nat.le_refl _) (by omega) hR))
      (by rw [eR m (Nat.le_refl _), eL m (Nat.le_refl _)]) (fun t t1 t2 => by rw [eR t (by omega)]; exact loL t t1 t2) (fun t t1 t2 => hiR t (by omega) t2) (sorted_congr hSL fun t t1 t2 => eR t (by omega)) hS
theorem Kont.right (h : Kont a b d i j dk) {m : Nat} {d4 : Array Int} (hs : Split i j m dk d4) : Go.Sort.Below ltInt (m + 1) j d4 ∧ ∀ L, PermIn (m + 1) j d4 L → SortedIn ltInt (m + 1) j L → Kont a b d i m L := by
  have g1 := h.jb
  have g2 := h.size
  have g3 := h.sized
  have g4 := h.ai
  have g5 := hs.im
  have g6 := hs.mj
  have hs4 : d4.size = d.size := by rw [hs.perm.1, g3]
  refine ⟨.inr fun t t1 t2 => lt_false.2 (by rw [Nat.add_sub_cancel]; exact hs.hi t (by omega) t2), fun L hL hSL => ?_⟩
  have eL : ∀ t, t ≤ m → L[t]! = d4[t]! := fun t ht => hL.2.1 t (.inl (by omega))
  have hsL : L.size = d.size := by rw [hL.1, hs4]
  refine ⟨?_, by omega, by omega, by omega, g2, hsL, fun R hR hS => ?_⟩
  · rcases (h.perm hs.perm).below with hb | hb
    · exact .inl hb
    · exact .inr fun t t1 t2 => by rw [eL t (by omega), eL (i - 1) (by omega)]; exact hb t t1 (by omega)
  · have eR : ∀ t, m ≤ t → R[t]! = L[t]! := fun t ht => hR.2.1 t (.inr ht)
    have hiL := permIn_all d4 L (m + 1) j (fun x => d4[m]! ≤ x) (by omega) hL (fun t t1 t2 => hs.hi t (by omega) t2)
    have loR := permIn_all L R i m (fun x => x < d4[m]!) (by omega) hR (fun t t1 t2 => by rw [eL t (by omega)]; exact hs.lo t t1 t2)
    exact h.glue hs (permIn_trans _ _ _ _ _ (permIn_mono _ _ (m + 1) j i j (by omega) (Nat.le_refl _) (by omega) hL) (permIn_mono _ _ i m i j (Nat.le_refl _) (by omega) (by omega) hR))
      (by rw [eR m (Nat.le_refl _), eL m (Nat.le_refl _)]) loR (fun t t1 t2 => by rw [eR t (by omega)]; exact hiL t (by omega) t2) hS (sorted_congr hSL fun t t1 t2 => eR t (by omega))
end So
end Go.Proofs.YtlajdmjpobckhaaGreatDoor
/- Contract: slices.insertionSortOrdered at flags. -/
namespace Go.Proofs.YtlajdmjpobckhaaGreatDoor
open Go.Sort Go.RowKit
namespace So

set_option maxRecDepth 1000000 in
set_option maxHeartbeats 4000000 in
theorem insertion_any (blk off cap len a b : Nat) (d : Array Int) (w : World) (hlen : d.size = len) (hH : Holds encF w blk off d) (hblk : blk < w.heap.size) (hab : a ≤ b) (hb : b ≤ len) (hsz : len < 4611686018427387904) :
    Calls Tryz.prog 174 #[.slice (some ⟨blk, off, none⟩) len cap, .int .i64 a, .int .i64 b] w fun e w' =>
      e = .returned (.tuple #[]) ∧ At encF w blk off (insertionSort ltInt d a b) w' := by
  have HAT := hide (At.refl hH)
  have HH := hide hH
  clear hH
  go_enter Tryz.func174, Tryz.ntmps174
  go_wp2
  go_loopw [6] (fun vi wr => ∃ (i : Nat) (dk : Array Int), vi = .int .i64 i ∧ a < i ∧ i ≤ b + 1 ∧ dk.size = len ∧ Hid (At encF w blk off dk wr) ∧ Hid (insOuter ltInt a b i dk = insertionSort ltInt d a b)) (fun vi _ => b + 1 - (intOf vi).toNat)
  case atStart => exact ⟨a + 1, d, by go_num, by omega, by omega, hlen, HAT, rfl⟩
  case round =>
    obtain ⟨i, dk, rfl, hai, hib, hsk, HA, HO⟩ := hrel
    by_cases hlt : i < b
    · have hltz : (i : Int) < (b : Int) := by omega
      go_wp2
      go_loopw [7] (fun vj w2 => ∃ (j : Nat) (dj : Array Int), vj = .int .i64 j ∧ a ≤ j ∧ j ≤ i ∧ dj.size = len ∧ Hid (At encF w blk off dj w2) ∧ Hid (insInner ltInt a j dj = insInner ltInt a i dk)) (fun vj _ => (intOf vj).toNat)
      case atStart => exact ⟨i, dk, rfl, by omega, Nat.le_refl _, hsk, HA, rfl⟩
      case round =>
        obtain ⟨j, dj, rfl, haj, hji, hsj, HB, HI⟩ := hrel
        obtain ⟨G, hG⟩ : ∃ G : Nat → Int, ∀ t, G t = dj[t]! := ⟨fun t => dj[t]!, fun _ => rfl⟩
        obtain ⟨hc, hf⟩ := at_cells (unhide HB) (unhide HH) (by omega) hblk hG
        rw [hlen] at hc hf
        have HG := hide hG
        clear hG
        have OUT : Hid ((j ≤ a ∨ ltInt (G j) (G (j - 1)) = false) → insOuter ltInt a b (i + 1) dj = insertionSort ltInt d a b) := fun hs => by
          rw [← unhide HO, insOuter_go _ _ _ _ _ hlt, ← unhide HI, insInner_stop _ _ _ _ (by rw [unhide HG, unhide HG] at hs; exact hs)]
        by_cases hja : a < j
        · have hjaz : decide ((a : Int) < (j : Int)) = true := decide_eq_true (by omega)
          go_wp2
          go_quiet (first | (go_at_call 180; refine Calls.quiet_of_same (less_any _ _ _)))
          go_wp2
          · have hl : ltInt (G j) (G (j - 1)) = true := by assumption
            go_region
            all_goals go_wp2
            go_roundw
            case rel =>
              refine ⟨j - 1, swp dj j (j - 1), by congr 1; omega, by omega, by omega, by rw [size_swp]; exact hsj, ?_, ?_⟩
              · exact hide (at_swap (at_drewN (unhide HB) _) (unhide HH) (by omega) hblk (by omega) (by omega) (by rw [unhide HG]) (by rw [unhide HG]))
              · refine hide ?_
                rw [← unhide HI, insInner_go ltInt a j dj hja (by rw [← unhide HG, ← unhide HG]; exact hl)]
            case measure => simp [intOf]; omega
          · have hl : ltInt (G j) (G (j - 1)) = false := by assumption
            go_roundw
            case rel => exact ⟨i + 1, dj, by go_num, by omega, by omega, hsj, hide (at_drewN (unhide HB) _), hide (unhide OUT (.inr hl))⟩
            case measure => simp [intOf]; omega
        · have hjaz : decide ((a : Int) < (j : Int)) = false := decide_eq_false (by omega)
          go_wp2
          go_quiet (first | (go_at_call 180; refine Calls.quiet_of_same (less_any _ _ _)))
          go_wp2
          go_roundw
          case rel => exact ⟨i + 1, dj, by go_num, by omega, by omega, hsj, hide (at_drewN (unhide HB) _), hide (unhide OUT (.inl (by omega)))⟩
          case measure => simp [intOf]; omega
    · have hltz : ¬ (i : Int) < (b : Int) := by omega
      have HE : Hid (dk = insertionSort ltInt d a b) := by
        rw [Hid, ← unhide HO, insOuter_stop _ _ _ _ _ hlt]
      go_wp2
      go_end0
      exact ⟨rfl, by rw [← unhide HE]; exact unhide HA⟩
end So
end Go.Proofs.YtlajdmjpobckhaaGreatDoor
/- Contract: slices.reverseRangeOrdered at flags: some order of the same flags in the range. -/
namespace Go.Proofs.YtlajdmjpobckhaaGreatDoor
open Go.Sort Go.RowKit
namespace So

set_option maxRecDepth 1000000 in
set_option maxHeartbeats 4000000 in
theorem reverse_any (blk off cap len a b : Nat) (d : Array Int) (w : World) (hlen : d.size = len) (hH : Holds encF w blk off d) (hblk : blk < w.heap.size) (hab : a ≤ b) (hb : b ≤ len) (hsz : len < 4611686018427387904) :
    Calls Tryz.prog 178 #[.slice (some ⟨blk, off, none⟩) len cap, .int .i64 a, .int .i64 b] w fun e w' =>
      e = .returned (.tuple #[]) ∧ ∃ d', At encF w blk off d' w' ∧ PermIn a b d d' := by
  have HAT := hide (At.refl hH)
  have HH := hide hH
  clear hH
  go_enter Tryz.func178, Tryz.ntmps178
  go_wp2
  go_loopw [6, 7] (fun vi vj wr => ∃ (i : Nat) (jz : Int) (dk : Array Int), vi = .int .i64 i ∧ vj = .int .i64 jz ∧ a ≤ i ∧ i ≤ b ∧ jz < b ∧ -1 ≤ jz ∧ dk.size = len ∧ Hid (At encF w blk off dk wr) ∧ Hid (PermIn a b d dk)) (fun vi vj _ => (intOf vj - intOf vi).toNat)
  case atStart => exact ⟨a, (b : Int) - 1, d, rfl, rfl, by omega, by omega, by omega, by omega, hlen, HAT, hide (permIn_refl _ _ _)⟩
  case round =>
    obtain ⟨i, jz, dk, rfl, rfl, hai, hib, hjb, hj1, hsk, HA, HP⟩ := hrel
    by_cases hlt : (i : Int) < jz
    · obtain ⟨j, rfl⟩ : ∃ j : Nat, jz = j := ⟨jz.toNat, by omega⟩
      obtain ⟨G, hG⟩ : ∃ G : Nat → Int, ∀ t, G t = dk[t]! := ⟨fun t => dk[t]!, fun _ => rfl⟩
      obtain ⟨hc, hf⟩ := at_cells (unhide HA) (unhide HH) (by omega) hblk hG
      rw [hlen] at hc hf
      have HG := hide hG
      clear hG
      go_wp2_with fail
      go_region
      all_goals go_wp2
      go_roundw
      case rel =>
        refine ⟨i + 1, (j : Int) - 1, swp dk i j, by go_num, rfl, by omega, by omega, by omega, by omega, by rw [size_swp]; exact hsk, ?_, hide (permIn_trans _ _ _ _ _ (unhide HP) (swp_permIn dk a b i j hai (by omega) (by omega) (by omega) (by omega)))⟩
        exact hide (at_swap (at_drewN (unhide HA) 1) (unhide HH) (by omega) hblk (by omega) (by omega) (by rw [unhide HG]) (by rw [unhide HG]))
      case measure => simp [intOf]; omega
    · go_wp2
      go_end0
      exact ⟨rfl, dk, unhide HA, unhide HP⟩
end So
end Go.Proofs.YtlajdmjpobckhaaGreatDoor
/- Contract: slices.siftDownOrdered and slices.heapSortOrdered at flags. -/
namespace Go.Proofs.YtlajdmjpobckhaaGreatDoor
open Go.Sort Go.RowKit
namespace So

set_option maxRecDepth 1000000 in
set_option maxHeartbeats 8000000 in
theorem sift_any (blk off cap len lo hi first : Nat) (d : Array Int) (w : World) (hlen : d.size = len) (hH : Holds encF w blk off d) (hblk : blk < w.heap.size) (hb : first + hi ≤ len) (hlo : lo ≤ hi) (hsz : len < 4611686018427387904) :
    Calls Tryz.prog 193 #[.slice (some ⟨blk, off, none⟩) len cap, .int .i64 lo, .int .i64 hi, .int .i64 first] w fun e w' =>
      e = .returned (.tuple #[]) ∧ At encF w blk off (siftDown ltInt hi first lo d) w' := by
  have HAT := hide (At.refl hH)
  have HH := hide hH
  clear hH
  go_enter Tryz.func193, Tryz.ntmps193
  go_wp2
  go_loopw [8] (fun vi wr => ∃ (r : Nat) (dk : Array Int), vi = .int .i64 r ∧ r ≤ hi ∧ dk.size = len ∧ Hid (At encF w blk off dk wr) ∧ Hid (siftDown ltInt hi first r dk = siftDown ltInt hi first lo d)) (fun vi _ => hi - (intOf vi).toNat)
  case atStart => exact ⟨lo, d, rfl, hlo, hlen, HAT, rfl⟩
  case round =>
    obtain ⟨r, dk, rfl, hr, hsk, HA, HE⟩ := hrel
    by_cases h1 : hi ≤ 2 * r + 1
    · have h1z : (hi : Int) ≤ 2 * (r : Int) + 1 := by omega
      have HD : Hid (dk = siftDown ltInt hi first lo d) := by rw [Hid, ← unhide HE, sd_end ltInt dk h1]
      go_wp2
      go_end0
      exact ⟨rfl, by rw [← unhide HD]; exact unhide HA⟩
    · have h1z : ¬ (hi : Int) ≤ 2 * (r : Int) + 1 := by omega
      obtain ⟨G, hG⟩ : ∃ G : Nat → Int, ∀ t, G t = dk[t]! := ⟨fun t => dk[t]!, fun _ => rfl⟩
      obtain ⟨hc, hf⟩ := at_cells (unhide HA) (unhide HH) (by omega) hblk hG
      rw [hlen] at hc hf
      have HG := hide hG
      clear hG
      have e1 : first + 2 * r + 1 = first + (2 * r + 1) := by omega
      have e2 : first + 2 * r + 2 = first + (2 * r + 2) := by omega
      have GOR : Hid (2 * r + 2 < hi → ltInt (G (first + 2 * r + 1)) (G (first + 2 * r + 2)) = true → ltInt (G (first + r)) (G (first + 2 * r + 2)) = true → siftDown ltInt hi first (2 * r + 2) (swp dk (first + r) (first + 2 * r + 2)) = siftDown ltInt hi first lo d) := fun h2 ha hb => by
        simp only [unhide HG, e1, e2] at ha hb
        rw [e2, ← unhide HE, sd_right_go ltInt dk h2 ha hb]
      have STR : Hid (2 * r + 2 < hi → ltInt (G (first + 2 * r + 1)) (G (first + 2 * r + 2)) = true → ltInt (G (first + r)) (G (first + 2 * r + 2)) = false → dk = siftDown ltInt hi first lo d) := fun h2 ha hb => by
        simp only [unhide HG, e1, e2] at ha hb
        rw [← unhide HE, sd_right_stop ltInt dk h2 ha hb]
      have GOL : Hid ((2 * r + 2 < hi → ltInt (G (first + 2 * r + 1)) (G (first + 2 * r + 2)) = false) → ltInt (G (first + r)) (G (first + 2 * r + 1)) = true → siftDown ltInt hi first (2 * r + 1) (swp dk (first + r) (first + 2 * r + 1)) = siftDown ltInt hi first lo d) := fun ha hb => by
        simp only [unhide HG, e1, e2] at ha hb
        rw [e1, ← unhide HE, sd_left_go ltInt dk (by omega) ha hb]
      have STL : Hid ((2 * r + 2 < hi → ltInt (G (first + 2 * r + 1)) (G (first + 2 * r + 2)) = false) → ltInt (G (first + r)) (G (first + 2 * r + 1)) = false → dk = siftDown ltInt hi first lo d) := fun ha hb => by
        simp only [unhide HG, e1, e2] at ha hb
        rw [← unhide HE, sd_left_stop ltInt dk (by omega) ha hb]
      clear e1 e2
      by_cases h2 : 2 * r + 2 < hi
      · have h2z : decide (2 * (r : Int) + 1 + 1 < (hi : Int)) = true := decide_eq_true (by omega)
        go_wp2
        go_quiet (first | (go_at_call 180; refine Calls.quiet_of_same (less_any _ _ _)))
        go_wp2
        · have ha : ltInt (G (first + 2 * r + 1)) (G (first + 2 * r + 2)) = true := by assumption
          have HA2 := hide (at_drewN (unhide HA) nq)
          have hc2 : ∀ t, t < len → (wr.drewN nq).cell? ⟨blk, off + t, none⟩ = some (.int .u16 (G t)) := hc
          have hf2 : ∀ t, t < len → (wr.drewN nq).frozen? ⟨blk, off + t, none⟩ = false := hf
          clear hc hf
          generalize wr.drewN nq = W at *
          go_quiet (first | (go_at_call 180; refine Calls.quiet_of_same (less_any _ _ _)))
          go_wp2
          · have hl : ltInt (G (first + r)) (G (first + 2 * r + 2)) = false := by
              have h : (!ltInt (G (first + r)) (G (first + 2 * r + 2))) = true := by assumption
              simpa using h
            (try simp only [Exit.inBlock, Exit.then]); refine bodyPost_ret (results_none rfl _ _ _) rfl ?_
            exact ⟨rfl, by rw [← unhide STR h2 ha hl]; exact at_drewN (unhide HA2) _⟩
          · have hl : ltInt (G (first + r)) (G (first + 2 * r + 2)) = true := by
              have h : (!ltInt (G (first + r)) (G (first + 2 * r + 2))) = false := by assumption
              simpa using h
            go_region
            all_goals go_wp2
            go_roundw
            case rel =>
              exact ⟨2 * r + 2, swp dk (first + r) (first + 2 * r + 2), by go_num, by omega, by rw [size_swp]; exact hsk, hide (at_swap (at_drewN (unhide HA2) _) (unhide HH) (by omega) hblk (by omega) (by omega) (by rw [unhide HG]) (by rw [unhide HG])), hide (unhide GOR h2 ha hl)⟩
            case measure => simp [intOf]; omega
        · have ha : ltInt (G (first + 2 * r + 1)) (G (first + 2 * r + 2)) = false := by assumption
          have HA2 := hide (at_drewN (unhide HA) nq)
          have hc2 : ∀ t, t < len → (wr.drewN nq).cell? ⟨blk, off + t, none⟩ = some (.int .u16 (G t)) := hc
          have hf2 : ∀ t, t < len → (wr.drewN nq).frozen? ⟨blk, off + t, none⟩ = false := hf
          clear hc hf
          generalize wr.drewN nq = W at *
          go_quiet (first | (go_at_call 180; refine Calls.quiet_of_same (less_any _ _ _)))
          go_wp2
          · have hl : ltInt (G (first + r)) (G (first + 2 * r + 1)) = false := by
              have h : (!ltInt (G (first + r)) (G (first + 2 * r + 1))) = true := by assumption
              simpa using h
            (try simp only [Exit.inBlock, Exit.then]); refine bodyPost_ret (results_none rfl _ _ _) rfl ?_
            exact ⟨rfl, by rw [← unhide STL (fun _ => ha) hl]; exact at_drewN (unhide HA2) _⟩
          · have hl : ltInt (G (first + r)) (G (first + 2 * r + 1)) = true := by
              have h : (!ltInt (G (first + r)) (G (first + 2 * r + 1))) = false := by assumption
              simpa using h
            go_region
            all_goals go_wp2
            go_roundw
            case rel =>
              exact ⟨2 * r + 1, swp dk (first + r) (first + 2 * r + 1), by go_num, by omega, by rw [size_swp]; exact hsk, hide (at_swap (at_drewN (unhide HA2) _) (unhide HH) (by omega) hblk (by omega) (by omega) (by rw [unhide HG]) (by rw [unhide HG])), hide (unhide GOL (fun _ => ha) hl)⟩
            case measure => simp [intOf]; omega
      · have h2z : decide (2 * (r : Int) + 1 + 1 < (hi : Int)) = false := decide_eq_false (by omega)
        go_wp2
        go_quiet (first | (go_at_call 180; refine Calls.quiet_of_same (less_any _ _ _)))
        go_wp2
        have HA2 := hide (at_drewN (unhide HA) nq)
        have hc2 : ∀ t, t < len → (wr.drewN nq).cell? ⟨blk, off + t, none⟩ = some (.int .u16 (G t)) := hc
        have hf2 : ∀ t, t < len → (wr.drewN nq).frozen? ⟨blk, off + t, none⟩ = false := hf
        clear hc hf
        generalize wr.drewN nq = W at *
        go_quiet (first | (go_at_call 180; refine Calls.quiet_of_same (less_any _ _ _)))
        go_wp2
        · have hl : ltInt (G (first + r)) (G (first + 2 * r + 1)) = false := by
            have h : (!ltInt (G (first + r)) (G (first + 2 * r + 1))) = true := by assumption
            simpa using h
          (try simp only [Exit.inBlock, Exit.then]); refine bodyPost_ret (results_none rfl _ _ _) rfl ?_
          exact ⟨rfl, by rw [← unhide STL (fun h => absurd h h2) hl]; exact at_drewN (unhide HA2) _⟩
        · have hl : ltInt (G (first + r)) (G (first + 2 * r + 1)) = true := by
            have h : (!ltInt (G (first + r)) (G (first + 2 * r + 1))) = false := by assumption
            simpa using h
          go_region
          all_goals go_wp2
          go_roundw
          case rel =>
            exact ⟨2 * r + 1, swp dk (first + r) (first + 2 * r + 1), by go_num, by omega, by rw [size_swp]; exact hsk, hide (at_swap (at_drewN (unhide HA2) _) (unhide HH) (by omega) hblk (by omega) (by omega) (by rw [unhide HG]) (by rw [unhide HG])), hide (unhide GOL (fun h => absurd h h2) hl)⟩
          case measure => simp [intOf]; omega
end So
end Go.Proofs.YtlajdmjpobckhaaGreatDoor
/- Contract: slices.heapSortOrdered at flags. -/
namespace Go.Proofs.YtlajdmjpobckhaaGreatDoor
open Go.Sort Go.RowKit
namespace So

theorem half_of (n : Nat) : ((n : Int) - 1).tdiv 2 = (((n - 1) / 2 + 1 : Nat) : Int) - 1 := by
  have h := half_start (a := 0) (b := n) (Nat.zero_le _)
  have e : ((n : Int) - ((0 : Nat) : Int) - 1) = (n : Int) - 1 := by omega
  rw [e] at h
  simpa using h
set_option maxRecDepth 1000000 in
set_option maxHeartbeats 8000000 in
theorem heap_any (blk off cap len a b : Nat) (d : Array Int) (w : World) (hlen : d.size = len) (hH : Holds encF w blk off d) (hblk : blk < w.heap.size) (hab : a ≤ b) (hb : b ≤ len) (hsz : len < 4611686018427387904) :
    Calls Tryz.prog 175 #[.slice (some ⟨blk, off, none⟩) len cap, .int .i64 a, .int .i64 b] w fun e w' =>
      e = .returned (.tuple #[]) ∧ At encF w blk off (heapSort ltInt d a b) w' := by
  have HAT := hide (At.refl hH)
  have HH := hide hH
  clear hH
  obtain ⟨n, hn⟩ : ∃ n, n = b - a := ⟨_, rfl⟩
  have hnz : (b : Int) - (a : Int) = (n : Int) := by omega
  have hE : heapSort ltInt d a b = heapPop ltInt a n (heapBuild ltInt n a ((n - 1) / 2 + 1) d) := by rw [heapSort, hn]
  have hq := half_of n
  obtain ⟨m, hm⟩ : ∃ m, m = (n - 1) / 2 + 1 := ⟨_, rfl⟩
  rw [← hm] at hE hq
  have hmn : m ≤ n + 1 := by omega
  have HM := hide hm
  rw [hE]
  clear hE hm
  have han : a + n ≤ len := by omega
  have hnb : n ≤ b := by omega
  clear hn
  go_enter Tryz.func175, Tryz.ntmps175
  go_wp2
  go_loopw [9] (fun vi wr => ∃ (k : Nat) (dk : Array Int), vi = .int .i64 ((k : Int) - 1) ∧ k ≤ m ∧ dk.size = len ∧ Hid (At encF w blk off dk wr) ∧ Hid (heapBuild ltInt n a k dk = heapBuild ltInt n a m d)) (fun vi _ => (intOf vi + 1).toNat)
  case atStart => exact ⟨m, d, rfl, Nat.le_refl _, hlen, HAT, rfl⟩
  case round =>
    obtain ⟨k, dk, rfl, hk, hsk, HA, HE⟩ := hrel
    cases k with
    | zero =>
      have hz : ¬ (0 : Int) ≤ ((0 : Nat) : Int) - 1 := by omega
      have HD : Hid (dk = heapBuild ltInt n a m d) := by rw [Hid, ← unhide HE]; rfl
      have HA0 : Hid (At encF w blk off (heapBuild ltInt n a m d) wr) := by rw [Hid, ← unhide HD]; exact unhide HA
      have hs0 : (heapBuild ltInt n a m d).size = len := by rw [← unhide HD]; exact hsk
      clear HA HE HD hsk
      obtain ⟨D, hD⟩ : ∃ D, D = heapBuild ltInt n a m d := ⟨_, rfl⟩
      rw [← hD] at HA0 hs0
      have HDD := hide hD
      clear hD
      go_wp2
      obtain ⟨V, hV⟩ : ∃ V, V = wr := ⟨_, rfl⟩
      subst hV
      go_loopw [10] (fun vi wr => ∃ (k : Nat) (dk : Array Int), vi = .int .i64 ((k : Int) - 1) ∧ k ≤ n ∧ dk.size = len ∧ Hid (At encF w blk off dk wr) ∧ Hid (heapPop ltInt a k dk = heapPop ltInt a n D)) (fun vi _ => (intOf vi + 1).toNat)
      case atStart => exact ⟨n, D, rfl, Nat.le_refl _, hs0, HA0, rfl⟩
      case round =>
        obtain ⟨k, dk, rfl, hk, hsk, HA, HE⟩ := hrel
        cases k with
        | zero =>
          have hz : ¬ (0 : Int) ≤ ((0 : Nat) : Int) - 1 := by omega
          have HD : Hid (dk = heapPop ltInt a n D) := by rw [Hid, ← unhide HE]; rfl
          go_wp2
          go_end0
          exact ⟨rfl, by rw [← unhide HDD, ← unhide HD]; exact unhide HA⟩
        | succ k =>
          have hz : ((k + 1 : Nat) : Int) - 1 = (k : Int) := by omega
          rw [hz]
          obtain ⟨G, hG⟩ : ∃ G : Nat → Int, ∀ t, G t = dk[t]! := ⟨fun t => dk[t]!, fun _ => rfl⟩
          obtain ⟨hc, hf⟩ := at_cells (unhide HA) (unhide HH) (by omega) hblk hG
          rw [hlen] at hc hf
          have HG := hide hG
          clear hG
          have HS := hide (fun D1 W1 (h1 : D1.size = len) (h2 : Holds encF W1 blk off D1) (h3 : blk < W1.heap.size) => sift_any blk off cap len 0 k a D1 W1 h1 h2 h3 (by omega) (Nat.zero_le _) hsz)
          have HP : Hid (heapPop ltInt a k (siftDown ltInt k a 0 (swp dk a (a + k))) = heapPop ltInt a n D) := by rw [Hid, ← unhide HE]; rfl
          have HSW : Hid (∀ W1, At encF w blk off (swp dk a (a + k)) W1 → Calls Tryz.prog 193 #[.slice (some ⟨blk, off, none⟩) len cap, .int .i64 0, .int .i64 k, .int .i64 a] W1 fun e w' => e = .returned (.tuple #[]) ∧ At encF w blk off (siftDown ltInt k a 0 (swp dk a (a + k))) w') := fun W1 h => by
            have hs1 : (swp dk a (a + k)).size = len := by rw [size_swp]; exact hsk
            have h0 := h.holds (unhide HH) (by rw [hs1, hlen]) hblk
            refine (unhide HS _ W1 hs1 h0.1 h0.2).mono ?_
            rintro e w2 ⟨rfl, h2⟩
            exact ⟨rfl, h.stepG hblk (size_siftDown ltInt k a k 0 _ (by omega)) h2⟩
          have hs2 : (siftDown ltInt k a 0 (swp dk a (a + k))).size = len := by rw [size_siftDown ltInt k a k 0 _ (by omega), size_swp]; exact hsk
          generalize siftDown ltInt k a 0 (swp dk a (a + k)) = D2 at *
          clear HS
          cases k with
          | zero =>
            go_wp2_with fail
            go_region
            all_goals go_wp2_with (go_at_call 193; refine (unhide HSW _ (at_swap (at_drewN (unhide HA) 1) (unhide HH) (by omega) hblk (by omega) (by omega) (by rw [unhide HG]; rfl) (by rw [unhide HG]))).mono ?_; rintro e w1 ⟨rfl, h1⟩; have H1 := hide h1; clear h1)
            go_roundw
            case rel => exact ⟨0, D2, by go_num, by omega, hs2, H1, HP⟩
            case measure => simp [intOf] <;> omega
          | succ k =>
            go_wp2_with fail
            go_region
            all_goals go_wp2_with (go_at_call 193; refine (unhide HSW _ (at_swap (at_drewN (unhide HA) 1) (unhide HH) (by omega) hblk (by omega) (by omega) (by rw [unhide HG]; rfl) (by rw [unhide HG]))).mono ?_; rintro e w1 ⟨rfl, h1⟩; have H1 := hide h1; clear h1)
            go_roundw
            case rel => exact ⟨k + 1, D2, by go_num, by omega, hs2, H1, HP⟩
            case measure => simp [intOf] <;> omega
    | succ k =>
      have hz : ((k + 1 : Nat) : Int) - 1 = (k : Int) := by omega
      rw [hz]
      have HS := hide (sift_any blk off cap len k n a dk wr hsk (At.holds (unhide HA) (unhide HH) (by omega) hblk).1 (At.holds (unhide HA) (unhide HH) (by omega) hblk).2 han (by omega) hsz)
      go_wp2_with (go_at_call 193; refine (unhide HS).mono ?_; rintro e w1 ⟨rfl, h1⟩; have H1 := hide h1; clear h1)
      go_roundw
      case rel => exact ⟨k, siftDown ltInt n a k dk, rfl, by omega, by rw [size_siftDown ltInt n a n k dk (by omega)]; exact hsk, hide ((unhide HA).stepG hblk (size_siftDown ltInt n a n k dk (by omega)) (unhide H1)), hide (by rw [← unhide HE]; rfl)⟩
      case measure => simp [intOf]
end So
end Go.Proofs.YtlajdmjpobckhaaGreatDoor
