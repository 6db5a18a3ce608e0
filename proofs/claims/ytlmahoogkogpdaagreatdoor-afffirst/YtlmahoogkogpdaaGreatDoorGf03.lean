/- Plain mathematics of a partition of flags under way; no walk. -/
import Derived.Test.YtlmahoogkogpdaaGreatDoorGf02
import Derived.Deep.LoopGhost
import Derived.Deep.CutRange
import Derived.Deep.Cut
namespace Go.Proofs.YtlmahoogkogpdaaGreatDoor
open Go.Sort Go.RowKit
namespace So

/-- ahead of i stands what p takes, behind j what it doesn't; the pivot lies at a -/
structure PI (p : Int → Int → Bool) (a b i j : Nat) (d dk : Array Int) : Prop where
  size : b ≤ d.size
  perm : PermIn a b d dk
  ai : a < i
  ij : i ≤ j + 1
  jb : j < b
  lo : ∀ t, a < t → t < i → p dk[a]! dk[t]! = true
  hi : ∀ t, j < t → t < b → p dk[a]! dk[t]! = false
variable {p : Int → Int → Bool} {a b i j : Nat} {d dk : Array Int}
theorem PI.start (hb : b ≤ d.size) (hab : a < b) (hp : PermIn a b d dk) : PI p a b (a + 1) (b - 1) d dk :=
  ⟨hb, hp, by omega, by omega, by omega, fun t h1 h2 => by omega, fun t h1 h2 => by omega⟩
theorem PI.up (h : PI p a b i j d dk) (hij : i ≤ j) (hp : p dk[a]! dk[i]! = true) : PI p a b (i + 1) j d dk :=
  ⟨h.size, h.perm, by have := h.ai; omega, by omega, h.jb, fun t h1 h2 => by
    by_cases e : t = i
    · subst e; exact hp
    · exact h.lo t h1 (by omega), h.hi⟩
theorem PI.down (h : PI p a b i j d dk) (hij : i ≤ j) (hp : p dk[a]! dk[j]! = false) : PI p a b i (j - 1) d dk :=
  ⟨h.size, h.perm, h.ai, by have := h.ai; omega, by have := h.jb; omega, h.lo, fun t h1 h2 => by
    by_cases e : t = j
    · subst e; exact hp
    · exact h.hi t (by omega) h2⟩
theorem PI.sized (h : PI p a b i j d dk) : dk.size = d.size := h.perm.1
theorem PI.swap (h : PI p a b i j d dk) (hij : i ≤ j) (h1 : p dk[a]! dk[i]! = false) (h2 : p dk[a]! dk[j]! = true) : i < j ∧ PI p a b (i + 1) (j - 1) d (swp dk i j) := by
  have hne : i ≠ j := fun e => by
    subst e
    rw [h1] at h2
    cases h2
  have hai := h.ai
  have hjb := h.jb
  have hs := h.sized
  have hz := h.size
  have ea : (swp dk i j)[a]! = dk[a]! := swp_other dk i j a (by omega) (by omega)
  refine ⟨by omega, hz, permIn_trans _ _ _ _ _ h.perm (swp_permIn dk a b i j (by omega) (by omega) (by omega) (by omega) (by omega)), by omega, by omega, by omega, fun t t1 t2 => ?_, fun t t1 t2 => ?_⟩
  · rw [ea]
    by_cases e : t = i
    · subst e
      rw [swp_left dk t j (by omega) hne]
      exact h2
    · rw [swp_other dk i j t e (by omega)]
      exact h.lo t t1 (by omega)
  · rw [ea]
    by_cases e : t = j
    · subst e
      rw [swp_right dk i t (by omega)]
      exact h1
    · rw [swp_other dk i j t (by omega) e]
      exact h.hi t (by omega) t2
/-- the partition is done: the pivot goes to j -/
theorem PI.done (h : PI p a b i j d dk) (hij : ¬ i ≤ j) : a ≤ j ∧ j < b ∧ PermIn a b d (swp dk j a) ∧ (∀ t, a ≤ t → t < j → p (swp dk j a)[j]! (swp dk j a)[t]! = true) ∧ ∀ t, j < t → t < b → p (swp dk j a)[j]! (swp dk j a)[t]! = false := by
  have hai := h.ai
  have hjb := h.jb
  have hs := h.sized
  have hz := h.size
  have hij2 := h.ij
  have e : i = j + 1 := by omega
  subst e
  have ej : (swp dk j a)[j]! = dk[a]! := by
    by_cases e : j = a
    · subst e; exact swp_right dk j j (by omega)
    · exact swp_left dk j a (by omega) e
  refine ⟨by omega, hjb, permIn_trans _ _ _ _ _ h.perm (swp_permIn dk a b j a (by omega) (by omega) (by omega) (by omega) (by omega)), fun t t1 t2 => ?_, fun t t1 t2 => ?_⟩
  · rw [ej]
    by_cases e : t = a
    · subst e
      rw [swp_right dk j t (by omega)]
      exact h.lo j (by omega) (by omega)
    · rw [swp_other dk j a t (by omega) e]
      exact h.lo t (by omega) (by omega)
  · rw [ej, swp_other dk j a t (by omega) (by omega)]
    exact h.hi t t1 t2
/-- done without a move of the pivot: from i on stands what p doesn't take -/
theorem PI.done_eq (h : PI p a b i j d dk) (hij : ¬ i ≤ j) : a < i ∧ i ≤ b ∧ PermIn a b d dk ∧ (∀ t, a < t → t < i → p dk[a]! dk[t]! = true) ∧ ∀ t, i ≤ t → t < b → p dk[a]! dk[t]! = false := by
  have hjb := h.jb
  have hij2 := h.ij
  exact ⟨h.ai, by omega, h.perm, h.lo, fun t t1 t2 => h.hi t (by omega) t2⟩
end So
end Go.Proofs.YtlmahoogkogpdaaGreatDoor
/- Contract: slices.partitionEqualOrdered at flags. -/
namespace Go.Proofs.YtlmahoogkogpdaaGreatDoor
open Go.Sort Go.RowKit
namespace So
def pE (v x : Int) : Bool := !ltInt v x

set_option maxRecDepth 1000000 in
set_option maxHeartbeats 16000000 in
theorem equal_any (blk off cap len a b pv : Nat) (d : Array Int) (w : World) (hlen : d.size = len) (hH : Holds encF w blk off d) (hblk : blk < w.heap.size) (hap : a ≤ pv) (hpb : pv < b) (hb : b ≤ len) (hsz : len < 4611686018427387904) :
    Calls Tryz.prog 96 #[.slice (some ⟨blk, off, none⟩) len cap, .int .i64 a, .int .i64 b, .int .i64 pv] w fun e w' =>
      ∃ (m : Nat) (d' : Array Int), e = .returned (.int .i64 m) ∧ At encF w blk off d' w' ∧ a < m ∧ m ≤ b ∧ PermIn a b d d' ∧ d'[a]! = d[pv]! ∧ (∀ t, a < t → t < m → pE d'[a]! d'[t]! = true) ∧ ∀ t, m ≤ t → t < b → pE d'[a]! d'[t]! = false := by
  have HAT := hide (At.refl hH)
  have HH := hide hH
  clear hH
  go_enter Tryz.func96, Tryz.ntmps96
  go_wp2_with fail
  go_cut [] from 11 (fun wc => Hid (At encF w blk off (swp d a pv) wc))
  case first =>
    obtain ⟨G, hG⟩ : ∃ G : Nat → Int, ∀ t, G t = d[t]! := ⟨fun t => d[t]!, fun _ => rfl⟩
    obtain ⟨hc, hf⟩ := at_cells (unhide HAT) (unhide HH) rfl hblk hG
    rw [hlen] at hc hf
    have HG := hide hG
    clear hG
    by_cases e : a = pv
    · subst e
      go_region
      all_goals go_wp2_with fail
      go_meet
      case rel => exact hide (at_swap (at_drewN (unhide HAT) 1) (unhide HH) rfl hblk (by omega) (by omega) (by rw [unhide HG]) (by rw [unhide HG]))
    · go_region
      all_goals go_wp2_with fail
      go_meet
      case rel => exact hide (at_swap (at_drewN (unhide HAT) 1) (unhide HH) rfl hblk (by omega) (by omega) (by rw [unhide HG]) (by rw [unhide HG]))
  case rest =>
    have HX0 := hcut
    have HP0 : Hid (PI pE a b (a + 1) (b - 1) d (swp d a pv)) := PI.start (by omega) (by omega) (swp_permIn d a b a pv (by omega) (by omega) hap hpb (by omega))
    have HV0 : Hid ((swp d a pv)[a]! = d[pv]!) := by
      by_cases e : a = pv
      · subst e; exact swp_right d a a (by omega)
      · exact swp_left d a pv (by omega) e
    clear hcut
    go_wp2_with fail
    go_loopg [9, 10] b (fun k s9 s10 wr => ∃ (i j : Nat) (dk : Array Int), s9 = .int .i64 i ∧ s10 = .int .i64 j ∧ j + 1 - i ≤ k ∧ dk.size = len ∧ a < i ∧ i ≤ j + 1 ∧ j < b ∧ Hid (PI pE a b i j d dk) ∧ Hid (dk[a]! = d[pv]!) ∧ Hid (At encF w blk off dk wr))
    case atStart => exact ⟨a + 1, b - 1, swp d a pv, by go_num, by congr 1; omega, by omega, by rw [size_swp]; exact hlen, by omega, by omega, by omega, HP0, HV0, HX0⟩
    case round =>
      obtain ⟨i0, j0, dk, rfl, rfl, hk0, hsk, hai0, hij0, hjb0, HPI0, HV, HXX⟩ := hrel
      obtain ⟨V, hV⟩ : ∃ V, V = wr := ⟨_, rfl⟩
      subst hV
      go_wp2_with fail
      go_loopg [9] b (fun k2 s9 wr => ∃ i : Nat, s9 = .int .i64 i ∧ j0 + 1 - i ≤ k2 ∧ i0 ≤ i ∧ a < i ∧ i ≤ j0 + 1 ∧ Hid (PI pE a b i j0 d dk) ∧ Hid (At encF w blk off dk wr))
      case atStart => exact ⟨i0, rfl, by omega, Nat.le_refl _, hai0, hij0, HPI0, HXX⟩
      case round =>
        obtain ⟨i, rfl, hk2, hii, hai, hij1, HPI, HX⟩ := hrel
        obtain ⟨j, hj⟩ : ∃ j, j = j0 := ⟨_, rfl⟩
        subst hj
        obtain ⟨G, hG⟩ : ∃ G : Nat → Int, ∀ t, G t = dk[t]! := ⟨fun t => dk[t]!, fun _ => rfl⟩
        obtain ⟨hc, hf⟩ := at_cells (unhide HX) (unhide HH) (by omega) hblk hG
        rw [hlen] at hc hf
        have HG := hide hG
        clear hG
        go_wp2_with fail
        go_cut [43] from 29 to 45 (fun c wx => ∃ bb : Bool, c = .bool bb ∧ Hid (bb = true → i ≤ j ∧ pE dk[a]! dk[i]! = true) ∧ Hid (bb = false → i ≤ j → pE dk[a]! dk[i]! = false) ∧ Hid (At encF w blk off dk wx))
        case first =>
          by_cases hij : i ≤ j
          · have hijz : decide ((i : Int) ≤ (j : Int)) = true := decide_eq_true (by omega)
            go_quiet (first | (go_at_call 95; refine Calls.quiet_of_same (less_any _ _ _)))
            go_wp2
            go_meet
            case rel => exact ⟨_, rfl, hide (fun h => ⟨hij, by simp only [pE, ← unhide HG] at h ⊢; simpa using h⟩), hide (fun h _ => by simp only [pE, ← unhide HG] at h ⊢; simpa using h), hide (at_drewN (unhide HX) _)⟩
          · have hijz : decide ((i : Int) ≤ (j : Int)) = false := decide_eq_false (by omega)
            go_quiet (first | (go_at_call 95; refine Calls.quiet_of_same (less_any _ _ _)))
            go_wp2
            go_meet
            case rel => exact ⟨_, rfl, hide (fun h => by cases h), hide (fun _ h => absurd h hij), hide (at_drewN (unhide HX) _)⟩
        case rest =>
          obtain ⟨bb, rfl, HT, HF, HX2⟩ := hcut
          cases bb
          · have HNI : Hid (i ≤ j → pE dk[a]! dk[i]! = false) := unhide HF rfl
            clear HT HF HX hc hf HG
            obtain ⟨V2, hV2⟩ : ∃ V, V = wc := ⟨_, rfl⟩
            subst hV2
            obtain ⟨j1, hj1⟩ : ∃ j1, j1 = j := ⟨_, rfl⟩
            subst hj1
            go_wp2_with fail
            go_loopg [10] b (fun k3 s10 wr => ∃ j : Nat, s10 = .int .i64 j ∧ j + 1 - i ≤ k3 ∧ j ≤ j1 ∧ i ≤ j + 1 ∧ j < b ∧ Hid (PI pE a b i j d dk) ∧ Hid (At encF w blk off dk wr))
            case atStart => exact ⟨j1, rfl, by omega, Nat.le_refl _, hij1, hjb0, HPI, HX2⟩
            case round =>
              obtain ⟨j, rfl, hk3, hjj, hij2, hjb, HPI2, HX⟩ := hrel
              obtain ⟨G, hG⟩ : ∃ G : Nat → Int, ∀ t, G t = dk[t]! := ⟨fun t => dk[t]!, fun _ => rfl⟩
              obtain ⟨hc, hf⟩ := at_cells (unhide HX) (unhide HH) (by omega) hblk hG
              rw [hlen] at hc hf
              have HG := hide hG
              clear hG
              go_wp2_with fail
              go_cut [59] from 46 to 61 (fun c wx => ∃ bb : Bool, c = .bool bb ∧ Hid (bb = true → i ≤ j ∧ pE dk[a]! dk[j]! = false) ∧ Hid (bb = false → i ≤ j → pE dk[a]! dk[j]! = true) ∧ Hid (At encF w blk off dk wx))
              case first =>
                by_cases hij : i ≤ j
                · have hijz : decide ((i : Int) ≤ (j : Int)) = true := decide_eq_true (by omega)
                  go_quiet (first | (go_at_call 95; refine Calls.quiet_of_same (less_any _ _ _)))
                  go_wp2
                  go_meet
                  case rel => exact ⟨_, rfl, hide (fun h => ⟨hij, by simp only [pE, ← unhide HG] at h ⊢; simpa using h⟩), hide (fun h _ => by simp only [pE, ← unhide HG] at h ⊢; simpa using h), hide (at_drewN (unhide HX) _)⟩
                · have hijz : decide ((i : Int) ≤ (j : Int)) = false := decide_eq_false (by omega)
                  go_quiet (first | (go_at_call 95; refine Calls.quiet_of_same (less_any _ _ _)))
                  go_wp2
                  go_meet
                  case rel => exact ⟨_, rfl, hide (fun h => by cases h), hide (fun _ h => absurd h hij), hide (at_drewN (unhide HX) _)⟩
              case rest =>
                obtain ⟨bb, rfl, HT, HF, HX3⟩ := hcut
                cases bb
                · have HNJ : Hid (i ≤ j → pE dk[a]! dk[j]! = true) := unhide HF rfl
                  clear HT HF HX hc hf HG HX2 HPI
                  obtain ⟨V3, hV3⟩ : ∃ V, V = wc := ⟨_, rfl⟩
                  subst hV3
                  by_cases hij : i ≤ j
                  · have hijz : ¬ (j : Int) < (i : Int) := by omega
                    obtain ⟨hlt, hsw⟩ := (unhide HPI2).swap hij (unhide HNI (by omega)) (unhide HNJ hij)
                    have HSW := hide hsw
                    have HV2 : Hid ((swp dk i j)[a]! = d[pv]!) := by rw [Hid, swp_other dk i j a (by omega) (by omega)]; exact unhide HV
                    clear hsw
                    obtain ⟨G, hG⟩ : ∃ G : Nat → Int, ∀ t, G t = dk[t]! := ⟨fun t => dk[t]!, fun _ => rfl⟩
                    obtain ⟨hc, hf⟩ := at_cells (unhide HX3) (unhide HH) (by omega) hblk hG
                    rw [hlen] at hc hf
                    have HG := hide hG
                    clear hG
                    go_wp2_with fail
                    go_region
                    all_goals go_wp2_with fail
                    go_roundg (j - 1 + 1 - (i + 1))
                    case measure => omega
                    case rel => exact ⟨i + 1, j - 1, swp dk i j, by go_num, by congr 1; omega, Nat.le_refl _, by rw [size_swp]; exact hsk, by omega, by omega, by omega, HSW, HV2, hide (at_swap (at_drewN (unhide HX3) 1) (unhide HH) (by omega) hblk (by omega) (by omega) (by rw [unhide HG]) (by rw [unhide HG]))⟩
                  · have hijz : (j : Int) < (i : Int) := by omega
                    have HD := hide ((unhide HPI2).done_eq hij)
                    go_wp2_with fail
                    go_ret
                    obtain ⟨q1, q2, q3, q4, q5⟩ := unhide HD
                    exact ⟨i, dk, rfl, unhide HX3, q1, q2, q3, unhide HV, q4, q5⟩
                · obtain ⟨hij, hp⟩ := unhide HT rfl
                  have HPI3 := hide ((unhide HPI2).down hij hp)
                  clear hp
                  go_wp2_with fail
                  go_roundg (j - 1 + 1 - i)
                  case measure => omega
                  case rel => exact ⟨j - 1, by congr 1; omega, Nat.le_refl _, by omega, by omega, by omega, HPI3, HX3⟩
          · obtain ⟨hij, hp⟩ := unhide HT rfl
            have HPI2 := hide ((unhide HPI).up hij hp)
            clear hp
            go_wp2_with fail
            go_roundg (j + 1 - (i + 1))
            case measure => omega
            case rel => exact ⟨i + 1, by go_num, Nat.le_refl _, by omega, by omega, by omega, HPI2, HX2⟩
end So
end Go.Proofs.YtlmahoogkogpdaaGreatDoor
/- Contract: slices.partitionOrdered at flags. -/
namespace Go.Proofs.YtlmahoogkogpdaaGreatDoor
open Go.Sort Go.RowKit
namespace So
def pL (v x : Int) : Bool := ltInt x v

set_option maxRecDepth 1000000 in
set_option maxHeartbeats 16000000 in
theorem part_any (blk off cap len a b pv : Nat) (d : Array Int) (w : World) (hlen : d.size = len) (hH : Holds encF w blk off d) (hblk : blk < w.heap.size) (hap : a ≤ pv) (hpb : pv < b) (hb : b ≤ len) (hsz : len < 4611686018427387904) :
    Calls Tryz.prog 97 #[.slice (some ⟨blk, off, none⟩) len cap, .int .i64 a, .int .i64 b, .int .i64 pv] w fun e w' =>
      ∃ (m : Nat) (ok : Bool) (d' : Array Int), e = .returned (.tuple #[.int .i64 m, .bool ok]) ∧ At encF w blk off d' w' ∧ a ≤ m ∧ m < b ∧ PermIn a b d d' ∧ (∀ t, a ≤ t → t < m → pL d'[m]! d'[t]! = true) ∧ ∀ t, m < t → t < b → pL d'[m]! d'[t]! = false := by
  have HAT := hide (At.refl hH)
  have HH := hide hH
  clear hH
  go_enter Tryz.func97, Tryz.ntmps97
  go_wp2_with fail
  go_cut [] from 12 (fun wc => Hid (At encF w blk off (swp d a pv) wc))
  case first =>
    obtain ⟨G, hG⟩ : ∃ G : Nat → Int, ∀ t, G t = d[t]! := ⟨fun t => d[t]!, fun _ => rfl⟩
    obtain ⟨hc, hf⟩ := at_cells (unhide HAT) (unhide HH) rfl hblk hG
    rw [hlen] at hc hf
    have HG := hide hG
    clear hG
    by_cases e : a = pv
    · subst e
      go_region
      all_goals go_wp2_with fail
      go_meet
      case rel => exact hide (at_swap (at_drewN (unhide HAT) 1) (unhide HH) rfl hblk (by omega) (by omega) (by rw [unhide HG]) (by rw [unhide HG]))
    · go_region
      all_goals go_wp2_with fail
      go_meet
      case rel => exact hide (at_swap (at_drewN (unhide HAT) 1) (unhide HH) rfl hblk (by omega) (by omega) (by rw [unhide HG]) (by rw [unhide HG]))
  case rest =>
    have HX0 := hcut
    obtain ⟨i0, hi0⟩ : ∃ i0, i0 = a + 1 := ⟨_, rfl⟩
    obtain ⟨j0, hj0⟩ : ∃ j0, j0 = b - 1 := ⟨_, rfl⟩
    have HPI0 : Hid (PI pL a b i0 j0 d (swp d a pv)) := by subst hi0; subst hj0; exact PI.start (by omega) (by omega) (swp_permIn d a b a pv (by omega) (by omega) hap hpb (by omega))
    have hsk : (swp d a pv).size = len := by rw [size_swp]; exact hlen
    have HXX : Hid (At encF w blk off (swp d a pv) wc) := hcut
    clear hcut HX0
    have hai0 : a < i0 := by omega
    have hij0 : i0 ≤ j0 + 1 := by omega
    have hjb0 : j0 < b := by omega
    have hi0z : (a : Int) + 1 = (i0 : Int) := by omega
    have hj0z : (b : Int) - 1 = (j0 : Int) := by omega
    clear hi0 hj0
    generalize swp d a pv = dk at *
    obtain ⟨V, hV⟩ : ∃ V, V = wc := ⟨_, rfl⟩
    subst hV
    go_wp2_with fail
    go_loopg [10] b (fun k2 s9 wr => ∃ i : Nat, s9 = .int .i64 i ∧ j0 + 1 - i ≤ k2 ∧ i0 ≤ i ∧ a < i ∧ i ≤ j0 + 1 ∧ Hid (PI pL a b i j0 d dk) ∧ Hid (At encF w blk off dk wr))
    case atStart => exact ⟨i0, rfl, by omega, Nat.le_refl _, hai0, hij0, HPI0, HXX⟩
    case round =>
      obtain ⟨i, rfl, hk2, hii, hai, hij1, HPI, HX⟩ := hrel
      obtain ⟨j, hj⟩ : ∃ j, j = j0 := ⟨_, rfl⟩
      subst hj
      obtain ⟨G, hG⟩ : ∃ G : Nat → Int, ∀ t, G t = dk[t]! := ⟨fun t => dk[t]!, fun _ => rfl⟩
      obtain ⟨hc, hf⟩ := at_cells (unhide HX) (unhide HH) (by omega) hblk hG
      rw [hlen] at hc hf
      have HG := hide hG
      clear hG
      go_wp2_with fail
      go_cut [43] from 30 to 45 (fun c wx => ∃ bb : Bool, c = .bool bb ∧ Hid (bb = true → i ≤ j ∧ pL dk[a]! dk[i]! = true) ∧ Hid (bb = false → i ≤ j → pL dk[a]! dk[i]! = false) ∧ Hid (At encF w blk off dk wx))
      case first =>
        by_cases hij : i ≤ j
        · have hijz : decide ((i : Int) ≤ (j : Int)) = true := decide_eq_true (by omega)
          go_quiet (first | (go_at_call 95; refine Calls.quiet_of_same (less_any _ _ _)))
          go_wp2
          go_meet
          case rel => exact ⟨_, rfl, hide (fun h => ⟨hij, by simp only [pL, ← unhide HG] at h ⊢; simpa using h⟩), hide (fun h _ => by simp only [pL, ← unhide HG] at h ⊢; simpa using h), hide (at_drewN (unhide HX) _)⟩
        · have hijz : decide ((i : Int) ≤ (j : Int)) = false := decide_eq_false (by omega)
          go_quiet (first | (go_at_call 95; refine Calls.quiet_of_same (less_any _ _ _)))
          go_wp2
          go_meet
          case rel => exact ⟨_, rfl, hide (fun h => by cases h), hide (fun _ h => absurd h hij), hide (at_drewN (unhide HX) _)⟩
      case rest =>
        obtain ⟨bb, rfl, HT, HF, HX2⟩ := hcut
        cases bb
        · have HNI : Hid (i ≤ j → pL dk[a]! dk[i]! = false) := unhide HF rfl
          clear HT HF HX hc hf HG
          obtain ⟨V2, hV2⟩ : ∃ V, V = wc := ⟨_, rfl⟩
          subst hV2
          obtain ⟨j1, hj1⟩ : ∃ j1, j1 = j := ⟨_, rfl⟩
          subst hj1
          go_wp2_with fail
          go_loopg [11] b (fun k3 s10 wr => ∃ j : Nat, s10 = .int .i64 j ∧ j + 1 - i ≤ k3 ∧ j ≤ j1 ∧ i ≤ j + 1 ∧ j < b ∧ Hid (PI pL a b i j d dk) ∧ Hid (At encF w blk off dk wr))
          case atStart => exact ⟨j1, rfl, by omega, Nat.le_refl _, hij1, hjb0, HPI, HX2⟩
          case round =>
            obtain ⟨j, rfl, hk3, hjj, hij2, hjb, HPI2, HX⟩ := hrel
            obtain ⟨G, hG⟩ : ∃ G : Nat → Int, ∀ t, G t = dk[t]! := ⟨fun t => dk[t]!, fun _ => rfl⟩
            obtain ⟨hc, hf⟩ := at_cells (unhide HX) (unhide HH) (by omega) hblk hG
            rw [hlen] at hc hf
            have HG := hide hG
            clear hG
            go_wp2_with fail
            go_cut [60] from 46 to 62 (fun c wx => ∃ bb : Bool, c = .bool bb ∧ Hid (bb = true → i ≤ j ∧ pL dk[a]! dk[j]! = false) ∧ Hid (bb = false → i ≤ j → pL dk[a]! dk[j]! = true) ∧ Hid (At encF w blk off dk wx))
            case first =>
              by_cases hij : i ≤ j
              · have hijz : decide ((i : Int) ≤ (j : Int)) = true := decide_eq_true (by omega)
                go_quiet (first | (go_at_call 95; refine Calls.quiet_of_same (less_any _ _ _)))
                go_wp2
                go_meet
                case rel => exact ⟨_, rfl, hide (fun h => ⟨hij, by simp only [pL, ← unhide HG] at h ⊢; simpa using h⟩), hide (fun h _ => by simp only [pL, ← unhide HG] at h ⊢; simpa using h), hide (at_drewN (unhide HX) _)⟩
              · have hijz : decide ((i : Int) ≤ (j : Int)) = false := decide_eq_false (by omega)
                go_quiet (first | (go_at_call 95; refine Calls.quiet_of_same (less_any _ _ _)))
                go_wp2
                go_meet
                case rel => exact ⟨_, rfl, hide (fun h => by cases h), hide (fun _ h => absurd h hij), hide (at_drewN (unhide HX) _)⟩
            case rest =>
              obtain ⟨bb, rfl, HT, HF, HX3⟩ := hcut
              cases bb
              · have HNJ : Hid (i ≤ j → pL dk[a]! dk[j]! = true) := unhide HF rfl
                clear HT HF HX hc hf HG HX2 HPI
                obtain ⟨V3, hV3⟩ : ∃ V, V = wc := ⟨_, rfl⟩
                subst hV3
                by_cases hij : i ≤ j
                · have hijz : ¬ (j : Int) < (i : Int) := by omega
                  obtain ⟨hlt, hsw⟩ := (unhide HPI2).swap hij (unhide HNI (by omega)) (unhide HNJ hij)
                  have HSW := hide hsw
                  clear hsw
                  obtain ⟨G, hG⟩ : ∃ G : Nat → Int, ∀ t, G t = dk[t]! := ⟨fun t => dk[t]!, fun _ => rfl⟩
                  obtain ⟨hc, hf⟩ := at_cells (unhide HX3) (unhide HH) (by omega) hblk hG
                  rw [hlen] at hc hf
                  have HG := hide hG
                  clear hG
                  have HY : Hid (∀ W2, W2 = ((V3.setCell ⟨blk, off + i, none⟩ (.int .u16 (G j))).setCell ⟨blk, off + j, none⟩ (.int .u16 (G i))).drew → At encF w blk off (swp dk i j) W2) := by
                    intro W2 h2
                    subst h2
                    exact at_swap (at_drewN (unhide HX3) 1) (unhide HH) (by omega) hblk (by omega) (by omega) (by rw [unhide HG]) (by rw [unhide HG])
                  have hsk2 : (swp dk i j).size = len := by rw [size_swp]; exact hsk
                  generalize swp dk i j = dq at *
                  go_wp2_with fail
                  go_region
                  all_goals go_wp2_with fail
                  have HX9 := hide (unhide HY _ rfl)
                  clear hc hf HY HG
                  go_loopg [10, 11] b (fun k s9 s10 wr => ∃ (i j : Nat) (dk : Array Int), s9 = .int .i64 i ∧ s10 = .int .i64 j ∧ j + 1 - i ≤ k ∧ dk.size = len ∧ a < i ∧ i ≤ j + 1 ∧ j < b ∧ Hid (PI pL a b i j d dk) ∧ Hid (At encF w blk off dk wr))
                  case atStart => exact ⟨i + 1, j - 1, dq, by go_num, by congr 1; omega, by omega, hsk2, by omega, by omega, by omega, HSW, HX9⟩
                  case round =>
                    obtain ⟨i0, j0, dk, rfl, rfl, hk0, hsk, hai0, hij0, hjb0, HPI0, HXX⟩ := hrel
                    obtain ⟨V, hV⟩ : ∃ V, V = wr := ⟨_, rfl⟩
                    subst hV
                    go_wp2_with fail
                    go_loopg [10] b (fun k2 s9 wr => ∃ i : Nat, s9 = .int .i64 i ∧ j0 + 1 - i ≤ k2 ∧ i0 ≤ i ∧ a < i ∧ i ≤ j0 + 1 ∧ Hid (PI pL a b i j0 d dk) ∧ Hid (At encF w blk off dk wr))
                    case atStart => exact ⟨i0, rfl, by omega, Nat.le_refl _, hai0, hij0, HPI0, HXX⟩
                    case round =>
                      obtain ⟨i, rfl, hk2, hii, hai, hij1, HPI, HX⟩ := hrel
                      obtain ⟨j, hj⟩ : ∃ j, j = j0 := ⟨_, rfl⟩
                      subst hj
                      obtain ⟨G, hG⟩ : ∃ G : Nat → Int, ∀ t, G t = dk[t]! := ⟨fun t => dk[t]!, fun _ => rfl⟩
                      obtain ⟨hc, hf⟩ := at_cells (unhide HX) (unhide HH) (by omega) hblk hG
                      rw [hlen] at hc hf
                      have HG := hide hG
                      clear hG
                      go_wp2_with fail
                      go_cut [112] from 99 to 114 (fun c wx => ∃ bb : Bool, c = .bool bb ∧ Hid (bb = true → i ≤ j ∧ pL dk[a]! dk[i]! = true) ∧ Hid (bb = false → i ≤ j → pL dk[a]! dk[i]! = false) ∧ Hid (At encF w blk off dk wx))
                      case first =>
                        by_cases hij : i ≤ j
                        · have hijz : decide ((i : Int) ≤ (j : Int)) = true := decide_eq_true (by omega)
                          go_quiet (first | (go_at_call 95; refine Calls.quiet_of_same (less_any _ _ _)))
                          go_wp2
                          go_meet
                          case rel => exact ⟨_, rfl, hide (fun h => ⟨hij, by simp only [pL, ← unhide HG] at h ⊢; simpa using h⟩), hide (fun h _ => by simp only [pL, ← unhide HG] at h ⊢; simpa using h), hide (at_drewN (unhide HX) _)⟩
                        · have hijz : decide ((i : Int) ≤ (j : Int)) = false := decide_eq_false (by omega)
                          go_quiet (first | (go_at_call 95; refine Calls.quiet_of_same (less_any _ _ _)))
                          go_wp2
                          go_meet
                          case rel => exact ⟨_, rfl, hide (fun h => by cases h), hide (fun _ h => absurd h hij), hide (at_drewN (unhide HX) _)⟩
                      case rest =>
                        obtain ⟨bb, rfl, HT, HF, HX2⟩ := hcut
                        cases bb
                        · have HNI : Hid (i ≤ j → pL dk[a]! dk[i]! = false) := unhide HF rfl
                          clear HT HF HX hc hf HG
                          obtain ⟨V2, hV2⟩ : ∃ V, V = wc := ⟨_, rfl⟩
                          subst hV2
                          obtain ⟨j1, hj1⟩ : ∃ j1, j1 = j := ⟨_, rfl⟩
                          subst hj1
                          go_wp2_with fail
                          go_loopg [11] b (fun k3 s10 wr => ∃ j : Nat, s10 = .int .i64 j ∧ j + 1 - i ≤ k3 ∧ j ≤ j1 ∧ i ≤ j + 1 ∧ j < b ∧ Hid (PI pL a b i j d dk) ∧ Hid (At encF w blk off dk wr))
                          case atStart => exact ⟨j1, rfl, by omega, Nat.le_refl _, hij1, hjb0, HPI, HX2⟩
                          case round =>
                            obtain ⟨j, rfl, hk3, hjj, hij2, hjb, HPI2, HX⟩ := hrel
                            obtain ⟨G, hG⟩ : ∃ G : Nat → Int, ∀ t, G t = dk[t]! := ⟨fun t => dk[t]!, fun _ => rfl⟩
                            obtain ⟨hc, hf⟩ := at_cells (unhide HX) (unhide HH) (by omega) hblk hG
                            rw [hlen] at hc hf
                            have HG := hide hG
                            clear hG
                            go_wp2_with fail
                            go_cut [129] from 115 to 131 (fun c wx => ∃ bb : Bool, c = .bool bb ∧ Hid (bb = true → i ≤ j ∧ pL dk[a]! dk[j]! = false) ∧ Hid (bb = false → i ≤ j → pL dk[a]! dk[j]! = true) ∧ Hid (At encF w blk off dk wx))
                            case first =>
                              by_cases hij : i ≤ j
                              · have hijz : decide ((i : Int) ≤ (j : Int)) = true := decide_eq_true (by omega)
                                go_quiet (first | (go_at_call 95; refine Calls.quiet_of_same (less_any _ _ _)))
                                go_wp2
                                go_meet
                                case rel => exact ⟨_, rfl, hide (fun h => ⟨hij, by simp only [pL, ← unhide HG] at h ⊢; simpa using h⟩), hide (fun h _ => by simp only [pL, ← unhide HG] at h ⊢; simpa using h), hide (at_drewN (unhide HX) _)⟩
                              · have hijz : decide ((i : Int) ≤ (j : Int)) = false := decide_eq_false (by omega)
                                go_quiet (first | (go_at_call 95; refine Calls.quiet_of_same (less_any _ _ _)))
                                go_wp2
                                go_meet
                                case rel => exact ⟨_, rfl, hide (fun h => by cases h), hide (fun _ h => absurd h hij), hide (at_drewN (unhide HX) _)⟩
                            case rest =>
                              obtain ⟨bb, rfl, HT, HF, HX3⟩ := hcut
                              cases bb
                              · have HNJ : Hid (i ≤ j → pL dk[a]! dk[j]! = true) := unhide HF rfl
                                clear HT HF HX hc hf HG HX2 HPI
                                obtain ⟨V3, hV3⟩ : ∃ V, V = wc := ⟨_, rfl⟩
                                subst hV3
                                by_cases hij : i ≤ j
                                · have hijz : ¬ (j : Int) < (i : Int) := by omega
                                  obtain ⟨hlt, hsw⟩ := (unhide HPI2).swap hij (unhide HNI (by omega)) (unhide HNJ hij)
                                  have HSW := hide hsw
                                  clear hsw
                                  obtain ⟨G, hG⟩ : ∃ G : Nat → Int, ∀ t, G t = dk[t]! := ⟨fun t => dk[t]!, fun _ => rfl⟩
                                  obtain ⟨hc, hf⟩ := at_cells (unhide HX3) (unhide HH) (by omega) hblk hG
                                  rw [hlen] at hc hf
                                  have HG := hide hG
                                  clear hG
                                  go_wp2_with fail
                                  go_region
                                  all_goals go_wp2_with fail
                                  go_roundg (j - 1 + 1 - (i + 1))
                                  case measure => omega
                                  case rel => exact ⟨i + 1, j - 1, swp dk i j, by go_num, by congr 1; omega, Nat.le_refl _, by rw [size_swp]; exact hsk, by omega, by omega, by omega, HSW, hide (at_swap (at_drewN (unhide HX3) 1) (unhide HH) (by omega) hblk (by omega) (by omega) (by rw [unhide HG]) (by rw [unhide HG]))⟩
                                · have hijz : (j : Int) < (i : Int) := by omega
                                  obtain ⟨G, hG⟩ : ∃ G : Nat → Int, ∀ t, G t = dk[t]! := ⟨fun t => dk[t]!, fun _ => rfl⟩
                                  obtain ⟨hc, hf⟩ := at_cells (unhide HX3) (unhide HH) (by omega) hblk hG
                                  rw [hlen] at hc hf
                                  have HG := hide hG
                                  clear hG
                                  have HD := hide ((unhide HPI2).done hij)
                                  by_cases ej : j = a
                                  · subst ej
                                    go_wp2_with fail
                                    go_region
                                    all_goals go_wp2_with fail
                                    go_ret2
                                    obtain ⟨q1, q2, q3, q4, q5⟩ := unhide HD
                                    exact ⟨j, false, swp dk j j, rfl, at_swap (at_drewN (unhide HX3) 1) (unhide HH) (by omega) hblk (by omega) (by omega) (by rw [unhide HG]) (by rw [unhide HG]), q1, q2, q3, q4, q5⟩
                                  · go_wp2_with fail
                                    go_region
                                    all_goals go_wp2_with fail
                                    go_ret2
                                    obtain ⟨q1, q2, q3, q4, q5⟩ := unhide HD
                                    exact ⟨j, false, swp dk j a, rfl, at_swap (at_drewN (unhide HX3) 1) (unhide HH) (by omega) hblk (by omega) (by omega) (by rw [unhide HG]) (by rw [unhide HG]), q1, q2, q3, q4, q5⟩
                              · obtain ⟨hij, hp⟩ := unhide HT rfl
                                have HPI3 := hide ((unhide HPI2).down hij hp)
                                clear hp
                                go_wp2_with fail
                                go_roundg (j - 1 + 1 - i)
                                case measure => omega
                                case rel => exact ⟨j - 1, by congr 1; omega, Nat.le_refl _, by omega, by omega, by omega, HPI3, HX3⟩
                        · obtain ⟨hij, hp⟩ := unhide HT rfl
                          have HPI2 := hide ((unhide HPI).up hij hp)
                          clear hp
                          go_wp2_with fail
                          go_roundg (j + 1 - (i + 1))
                          case measure => omega
                          case rel => exact ⟨i + 1, by go_num, Nat.le_refl _, by omega, by omega, by omega, HPI2, HX2⟩
                · have hijz : (j : Int) < (i : Int) := by omega
                  obtain ⟨G, hG⟩ : ∃ G : Nat → Int, ∀ t, G t = dk[t]! := ⟨fun t => dk[t]!, fun _ => rfl⟩
                  obtain ⟨hc, hf⟩ := at_cells (unhide HX3) (unhide HH) (by omega) hblk hG
                  rw [hlen] at hc hf
                  have HG := hide hG
                  clear hG
                  have HD := hide ((unhide HPI2).done hij)
                  by_cases ej : j = a
                  · subst ej
                    go_wp2_with fail
                    go_region
                    all_goals go_wp2_with fail
                    go_ret2
                    obtain ⟨q1, q2, q3, q4, q5⟩ := unhide HD
                    exact ⟨j, true, swp dk j j, rfl, at_swap (at_drewN (unhide HX3) 1) (unhide HH) (by omega) hblk (by omega) (by omega) (by rw [unhide HG]) (by rw [unhide HG]), q1, q2, q3, q4, q5⟩
                  · go_wp2_with fail
                    go_region
                    all_goals go_wp2_with fail
                    go_ret2
                    obtain ⟨q1, q2, q3, q4, q5⟩ := unhide HD
                    exact ⟨j, true, swp dk j a, rfl, at_swap (at_drewN (unhide HX3) 1) (unhide HH) (by omega) hblk (by omega) (by omega) (by rw [unhide HG]) (by rw [unhide HG]), q1, q2, q3, q4, q5⟩
              · obtain ⟨hij, hp⟩ := unhide HT rfl
                have HPI3 := hide ((unhide HPI2).down hij hp)
                clear hp
                go_wp2_with fail
                go_roundg (j - 1 + 1 - i)
                case measure => omega
                case rel => exact ⟨j - 1, by congr 1; omega, Nat.le_refl _, by omega, by omega, by omega, HPI3, HX3⟩
        · obtain ⟨hij, hp⟩ := unhide HT rfl
          have HPI2 := hide ((unhide HPI).up hij hp)
          clear hp
          go_wp2_with fail
          go_roundg (j + 1 - (i + 1))
          case measure => omega
          case rel => exact ⟨i + 1, by go_num, Nat.le_refl _, by omega, by omega, by omega, HPI2, HX2⟩
end So
end Go.Proofs.YtlmahoogkogpdaaGreatDoor
/- Plain mathematics of a round of the sort of flags; no walk. -/
namespace Go.Proofs.YtlmahoogkogpdaaGreatDoor
open Go.Sort Go.RowKit
namespace So

theorem lt_false {x y : Int} : ltInt x y = false ↔ y ≤ x := by simp [ltInt]
theorem lt_true {x y : Int} : ltInt x y = true ↔ x < y := by simp [ltInt]
theorem sorted_iff {a b : Nat} {d : Array Int} : SortedIn ltInt a b d ↔ ∀ i j, a ≤ i → i < j → j < b → d[i]! ≤ d[j]! :=
  ⟨fun h i j h1 h2 h3 => lt_false.1 (h i j h1 h2 h3), fun h i j h1 h2 h3 => lt_false.2 (h i j h1 h2 h3)⟩
/-- whatever sorts [i, j) sorts the whole -/
structure Kont (a b : Nat) (d : Array Int) (i j : Nat) (dk : Array Int) : Prop where
  below : Go.Sort.Below ltInt i j dk
  ai : a ≤ i
  ij : i ≤ j
  jb : j ≤ b
  size : b ≤ d.size
  sized : dk.size = d.size
  go : ∀ R, PermIn i j dk R → SortedIn ltInt i j R → PermIn a b d R ∧ SortedIn ltInt a b R
variable {a b i j : Nat} {d dk : Array Int}
theorem Kont.start (hb : b ≤ d.size) (hab : a ≤ b) (h : Go.Sort.Below ltInt a b d) : Kont a b d a b d := ⟨h, Nat.le_refl _, hab, Nat.le_refl _, hb, rfl, fun _ h1 h2 => ⟨h1, h2⟩⟩
theorem Kont.perm (h : Kont a b d i j dk) {d1 : Array Int} (hp : PermIn i j dk d1) : Kont a b d i j d1 := by
  have h1 := h.jb
  have h2 := h.size
  have h3 := h.sized
  exact ⟨h.below.permA permIn_all (by omega) hp, h.ai, h.ij, h.jb, h.size, by rw [hp.1, h3], fun R hR hS => h.go R (permIn_trans _ _ _ _ _ hp hR) hS⟩
/-- behind a partition into those like the pivot and those above it -/
theorem Kont.equal (h : Kont a b d i j dk) {pv m : Nat} {d4 : Array Int} (hi0 : 0 < i) (hnl : ltInt dk[i - 1]! dk[pv]! = false) (him : i < m) (hmj : m ≤ j) (hp : PermIn i j dk d4) (he : d4[i]! = dk[pv]!)
    (hlo : ∀ t, i < t → t < m → pE d4[i]! d4[t]! = true) (hhi : ∀ t, m ≤ t → t < j → pE d4[i]! d4[t]! = false) : Kont a b d m j d4 := by
  have h1 := h.jb
  have h2 := h.size
  have h3 := h.sized
  have h4 := h.ai
  have hs4 : d4.size = d.size := by rw [hp.1, h3]
  rw [he] at hlo hhi
  have lo : ∀ t, i < t → t < m → d4[t]! ≤ dk[pv]! := fun t t1 t2 => by
    have := hlo t t1 t2
    simp only [pE, Bool.not_eq_true'] at this
    exact lt_false.1 this
  have hi : ∀ t, m ≤ t → t < j → dk[pv]! < d4[t]! := fun t t1 t2 => by
    have := hhi t t1 t2
    simp only [pE, Bool.not_eq_false'] at this
    exact lt_true.1 this
  have ge : ∀ t, i ≤ t → t < j → dk[pv]! ≤ dk[t]! := fun t t1 t2 => by
    rcases h.below with hb | hb
    · omega
    · have := lt_false.1 (hb t t1 t2)
      have := lt_false.1 hnl
      omega
  have ge4 := permIn_all dk d4 i j (fun x => dk[pv]! ≤ x) (by omega) hp ge
  refine ⟨.inr fun t t1 t2 => lt_false.2 ?_, by omega, hmj, h1, h2, hs4, fun R hR hS => ?_⟩
  · have a1 := hi t t1 t2
    by_cases e : m - 1 = i
    · rw [e, he]; omega
    · have := lo (m - 1) (by omega) (by omega); omega
  · have eR : ∀ t, t < m → R[t]! = d4[t]! := fun t ht => hR.2.1 t (.inl ht)
    have hiR := permIn_all d4 R m j (fun x => dk[pv]! < x) (by omega) hR hi
    refine h.go R (permIn_trans _ _ _ _ _ hp (permIn_mono _ _ m j i j (by omega) (Nat.le_refl _) (by omega) hR)) (sorted_iff.2 fun x y x1 x2 x3 => ?_)
    have val : ∀ t, i ≤ t → t < m → R[t]! = dk[pv]! := fun t t1 t2 => by
      rw [eR t t2]
      have g1 := ge4 t t1 (by omega)
      by_cases e : t = i
      · subst e; exact he
      · have := lo t (by omega) t2; omega
    by_cases hx : x < m
    · rw [val x x1 hx]
      by_cases hy : y < m
      · rw [val y (by omega) hy]; omega
      · have := hiR y (by omega) x3; omega
    · exact sorted_iff.1 hS x y (by omega) x2 x3
/-- what a partition leaves -/
structure Split (i j m : Nat) (dk d4 : Array Int) : Prop where
  im : i ≤ m
  mj : m < j
  perm : PermIn i j dk d4
  lo : ∀ t, i ≤ t → t < m → d4[t]! < d4[m]!
  hi : ∀ t, m < t → t < j → d4[m]! ≤ d4[t]!
theorem Split.of {m : Nat} {d4 : Array Int} (h1 : i ≤ m) (h2 : m < j) (h3 : PermIn i j dk d4) (h4 : ∀ t, i ≤ t → t < m → pL d4[m]! d4[t]! = true) (h5 : ∀ t, m < t → t < j → pL d4[m]! d4[t]! = false) : Split i j m dk d4 :=
  ⟨h1, h2, h3, fun t t1 t2 => lt_true.1 (h4 t t1 t2), fun t t1 t2 => lt_false.1 (h5 t t1 t2)⟩
theorem Kont.glue (h : Kont a b d i j dk) {m : Nat} {d4 R : Array Int} (hs : Split i j m dk d4)
    (hp : PermIn i j d4 R) (hm : R[m]! = d4[m]!) (h1 : ∀ t, i ≤ t → t < m → R[t]! < d4[m]!) (h2 : ∀ t, m < t → t < j → d4[m]! ≤ R[t]!) (s1 : SortedIn ltInt i m R) (s2 : SortedIn ltInt (m + 1) j R) : PermIn a b d R ∧ SortedIn ltInt a b R := by
  refine h.go R (permIn_trans _ _ _ _ _ hs.perm hp) (sorted_iff.2 fun x y x1 x2 x3 => ?_)
  by_cases hx : x < m
  · by_cases hy : y < m
    · exact sorted_iff.1 s1 x y x1 x2 hy
    · have a1 := h1 x x1 hx
      by_cases e : y = m
      · subst e; rw [hm]; omega
      · have := h2 y (by omega) x3; omega
  · by_cases e : x = m
    · subst e; rw [hm]; exact h2 y x2 x3
    · exact sorted_iff.1 s2 x y (by omega) x2 x3
theorem sorted_congr {x y : Nat} {R L : Array Int} (h : SortedIn ltInt x y L) (e : ∀ t, x ≤ t → t < y → R[t]! = L[t]!) : SortedIn ltInt x y R :=
  sorted_iff.2 fun s t s1 s2 s3 => by rw [e s s1 (by omega), e t (by omega) s3]; exact sorted_iff.1 h s t s1 s2 s3
theorem Kont.left (h : Kont a b d i j dk) {m : Nat} {d4 : Array Int} (hs : Split i j m dk d4) : Go.Sort.Below ltInt i m d4 ∧ ∀ L, PermIn i m d4 L → SortedIn ltInt i m L → Kont a b d (m + 1) j L := by
  have g1 := h.jb
  have g2 := h.size
  have g3 := h.sized
  have g4 := h.ai
  have g5 := hs.im
  have g6 := hs.mj
  have hs4 : d4.size = d.size := by rw [hs.perm.1, g3]
  refine ⟨?_, fun L hL hSL => ?_⟩
  · rcases (h.perm hs.perm).below with hb | hb
    · exact .inl hb
    · exact .inr fun t t1 t2 => hb t t1 (by omega)
  · have eL : ∀ t, m ≤ t → L[t]! = d4[t]! := fun t ht => hL.2.1 t (.inr ht)
    have hsL : L.size = d.size := by rw [hL.1, hs4]
    refine ⟨.inr fun t t1 t2 => lt_false.2 (by rw [Nat.add_sub_cancel, eL t (by omega), eL m (Nat.le_refl _)]; exact hs.hi t (by omega) t2), by omega, by omega, g1, g2, hsL, fun R hR hS => ?_⟩
    have eR : ∀ t, t ≤ m → R[t]! = L[t]! := fun t ht => hR.2.1 t (.inl (by omega))
    have loL := permIn_all d4 L i m (fun x => x < d4[m]!) (by omega) hL hs.lo
    have hiR := permIn_all L R (m + 1) j (fun x => d4[m]! ≤ x) (by omega) hR (fun t t1 t2 => by rw [eL t (by omega)]; exact hs.hi t (by omega) t2)
    exact h.glue hs (permIn_trans _ _ _ _ _ (permIn_mono _ _ i m i j (Nat.le_refl _) (by omega) (by omega) hL) (permIn_mono _ _ (m + 1) j i j (by omega) (Nat.le_refl _) (by omega) hR))
      (by rw [eR m (Nat.le_refl _), eL m (Nat.le_refl _)]) (fun t t1 t2 => by rw [eR t (by omega)]; exact loL t t1 t2) (fun t t1 t2 => hiR t (by omega) t2) (sorted_congr hSL fun t t1 t2 => eR t (by omega)) hS
theorem Kont.right (h : Kont a b d i j dk) {m : Nat} {d4 : Array Int} (hs : Split i j m dk d4) : Go.Sort.Below ltInt (m + 1) j d4 ∧ ∀ L, PermIn (m + 1) j d4 L → SortedIn ltInt (m + 1) j L → Kont a b d i m L := by
  have g1 := h.jb
  have g2 := h.size
  have g3 := h.sized
  have g4 := h.ai
  have g5 := hs.im
  have g6 := hs.mj
  have hs4 : d4.size = d.size := by rw [hs.perm.1, g3]
  refine ⟨.inr fun t t1 t2 => lt_false.2 (by rw [Nat.add_sub_cancel]; exact hs.hi t (by omega) t2), fun L hL hSL => ?_⟩
  have eL : ∀ t, t ≤ m → L[t]! = d4[t]! := fun t ht => hL.2.1 t (.inl (by omega))
  have hsL : L.size = d.size := by rw [hL.1, hs4]
  refine ⟨?_, by omega, by omega, by omega, g2, hsL, fun R hR hS => ?_⟩
  · rcases (h.perm hs.perm).below with hb | hb
    · exact .inl hb
    · exact .inr fun t t1 t2 => by rw [eL t (by omega), eL (i - 1) (by omega)]; exact hb t t1 (by omega)
  · have eR : ∀ t, m ≤ t → R[t]! = L[t]! := fun t ht => hR.2.1 t (.inr ht)
    have hiL := permIn_all d4 L (m + 1) j (fun x => d4[m]! ≤ x) (by omega) hL (fun t t1 t2 => hs.hi t (by omega) t2)
    have loR := permIn_all L R i m (fun x => x < d4[m]!) (by omega) hR (fun t t1 t2 => by rw [eL t (by omega)]; exact hs.lo t t1 t2)
    exact h.glue hs (permIn_trans _ _ _ _ _ (permIn_mono _ _ (m + 1) j i j (by omega) (Nat.le_refl _) (by omega) hL) (permIn_mono _ _ i m i j (Nat.le_refl _) (by omega) (by omega) hR))
      (by rw [eR m (Nat.le_refl _), eL m (Nat.le_refl _)]) loR (fun t t1 t2 => by rw [eR t (by omega)]; exact hiL t (by omega) t2) hS (sorted_congr hSL fun t t1 t2 => eR t (by omega))
end So
end Go.Proofs.YtlmahoogkogpdaaGreatDoor
