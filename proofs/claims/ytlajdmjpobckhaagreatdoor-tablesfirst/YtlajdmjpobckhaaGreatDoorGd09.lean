/- What a law has made so far: lists of flags and rows of numbers, all lying as they were. -/
import Derived.Test.YtlajdmjpobckhaaGreatDoorGd08
import Derived.Test.YtlajdmjpobckhaaGreatDoorGd07
import Derived.Test.YtlajdmjpobckhaaGreatDoorChecked
import Derived.WalkKit
import Derived.WalkSpells
import Derived.WalkLawsBesides
import Derived.Deep.QuietTactic
import Derived.BigQuiet
import Derived.Deep.DeepFit
import Derived.Lib.Strings
import Derived.Laws.Rows
import Derived.Laws.BitsAll
namespace Go.Proofs.YtlajdmjpobckhaaGreatDoor
open Go.Sort Go.RowKit
namespace So
theorem MaxIs.below {w W : World} (h : MaxIs w) (hB : Go.RowKit.Below w.heap.size w W) : MaxIs W := by
  obtain ⟨m, hm⟩ := h
  refine ⟨m, (hB.cell (p := ⟨0, 0, none⟩) ?_).trans hm⟩
  show 0 < w.heap.size
  rcases Nat.lt_or_ge 0 w.heap.size with hl | hl
  · exact hl
  · simp [World.cell?, Array.getElem?_eq_none hl] at hm
/-- lists of flags L and rows of numbers I -/
def Stt (w W : World) (L I : List (Value × List Int)) : Prop := Go.RowKit.Below w.heap.size w W ∧ (∀ p ∈ L, FArg W p.1 p.2) ∧ (∀ p ∈ I, IRow 0 W p.1 p.2) ∧ MaxIs W
theorem Stt.next {w W W' : World} {L I : List (Value × List Int)} (h : Stt w W L I) (hB : Go.RowKit.Below W.heap.size W W') : Stt w W' L I := ⟨h.1.trans (hB.mono h.1.size), fun p hp => (h.2.1 p hp).below hB, fun p hp => (h.2.2.1 p hp).below hB, h.2.2.2.below hB⟩
theorem Stt.pushF {w W W' : World} {L I : List (Value × List Int)} {u : Value} {l : List Int} (h : Stt w W L I) (hB : Go.RowKit.Below W.heap.size W W') (hu : FArg W' u l) : Stt w W' ((u, l) :: L) I := ⟨(h.next hB).1, fun p hp => by
  rcases List.mem_cons.1 hp with rfl | hp
  · exact hu
  · exact (h.next hB).2.1 p hp, (h.next hB).2.2⟩
theorem Stt.pushI {w W W' : World} {L I : List (Value × List Int)} {u : Value} {l : List Int} {n₀ : Nat} (h : Stt w W L I) (hB : Go.RowKit.Below W.heap.size W W') (hu : IRow n₀ W' u l) : Stt w W' L ((u, l) :: I) := ⟨(h.next hB).1, (h.next hB).2.1, fun p hp => by
  rcases List.mem_cons.1 hp with rfl | hp
  · exact hu.low (Nat.zero_le _)
  · exact (h.next hB).2.2.1 p hp, (h.next hB).2.2.2⟩
theorem Stt.drew {w W : World} {L I : List (Value × List Int)} (h : Stt w W L I) (q : Nat) : Stt w (W.drewN q) L I := h.next ⟨rfl, rfl, rfl, Nat.le_refl _, fun _ _ => rfl⟩
def eqB (A B : List Int) : Bool := decide (setOf A = setOf B)
def cntB (A : List Int) : Int := ((setOf A).length : Int)
theorem len_le {ao : Option Addr} {n c : Nat} {l : List Int} {N : Nat} {W : World} (h : IRow N W (.slice ao n c) l) : (n : Int) = l.length := by
  obtain ⟨_, _, e, _⟩ := h.form
  injection e with _ e _
  rw [e]
/-- a number of the document's row: its length -/
theorem IRow.len {N : Nat} {W : World} {v : Value} {l : List Int} (h : IRow N W v l) : ∃ ao n c, v = .slice ao n c ∧ (n : Int) = l.length := by
  obtain ⟨ao, c, e, _⟩ := h.form
  exact ⟨ao, _, c, e, rfl⟩
end So
end Go.Proofs.YtlajdmjpobckhaaGreatDoor
/- Contracts: the document's Read, and flags.Read of every kind and text. -/
namespace Go.Proofs.YtlajdmjpobckhaaGreatDoor
open Go.Sort Go.RowKit
namespace So
open Cut

theorem drew_low (W : World) (q : Nat) : Go.RowKit.Below W.heap.size W (W.drewN q) := ⟨rfl, rfl, rfl, Nat.le_refl _, fun _ _ => rfl⟩
/-- what the pieces write -/
def vals (kind : Int) (l : List UInt8) : List Int := (pieces kind l).map (One.val kind)
theorem vals_eq (kind : Int) (l : List UInt8) : ((pieces kind l).map mk).map (fun p => One.val kind p.data.toList) = vals kind l := by
  unfold vals
  rw [List.map_map]
  apply List.map_congr_left
  intro p _
  show One.val kind (dl (mk p)) = _
  rw [dl_mk]
theorem vals_bounds (kind : Int) (l : List UInt8) : ∀ x ∈ vals kind l, 0 ≤ x ∧ x ≤ 65535 := by
  intro x hx
  obtain ⟨p, _, rfl⟩ := List.mem_map.1 hx
  exact One.val_bounds kind p
theorem pieces_sizes (kind : Int) (s : ByteArray) (hs : s.size ≤ 1048576) : ∀ p ∈ (pieces kind (dl s)).map mk, p.size ≤ 1048576 := by
  intro p hp
  obtain ⟨q, hq, rfl⟩ := List.mem_map.1 hp
  have := pieces_mem kind (dl s) q hq
  rw [dl_len] at this
  rw [← dl_len, dl_mk]
  omega
theorem pieces_many (kind : Int) (s : ByteArray) (hs : s.size ≤ 1048576) : ((pieces kind (dl s)).map mk).length ≤ 1048577 := by
  have := pieces_count kind (dl s)
  rw [dl_len] at this
  simp
  omega
theorem read_any (kind : Int) (s : ByteArray) (w : World) (hk : One.isK kind = true) (hM : MaxIs w) (hs : s.size ≤ 1048576) :
    Calls Tryz.prog 101 #[.int .i64 kind, .string s] w fun e w' => ∃ u, e = .returned (.tuple #[u, .int .i64 (readE (vals kind (dl s)))]) ∧ Go.RowKit.Below w.heap.size w w' ∧
      (readE (vals kind (dl s)) = 0 → FRow w.heap.size w' u (setOf (vals kind (dl s)))) ∧ (readE (vals kind (dl s)) ≠ 0 → u = .slice none 0 0) := by
  have h := read_with kind s ((pieces kind (dl s)).map mk) w hk (by have := pieces_many kind s hs; omega) (fun p hp => by have := pieces_sizes kind s hs p hp; unfold maxLen; omega) (cut_any kind s w hk hM hs)
  rw [vals_eq] at h
  refine h.mono ?_
  rintro e w' ⟨u, rfl, hB, h1, h2⟩
  refine ⟨u, rfl, hB, fun h0 => ?_, h2⟩
  obtain ⟨l, hl, hF⟩ := h1 h0
  rw [hl.eq] at hF
  exact hF
set_option maxRecDepth 100000 in
set_option maxHeartbeats 2000000 in
theorem read_bad (kind : Int) (s : ByteArray) (w : World) (hk : One.isK kind = false) :
    Calls Tryz.prog 101 #[.int .i64 kind, .string s] w fun e w' => e = .returned (.tuple #[.slice none 0 0, .int .i64 30]) ∧ w' = w := by
  have HKK := hide (fun W => One.kind_any kind W)
  rw [hk] at HKK
  go_enter Tryz.func101, Tryz.ntmps101
  go_wp2_with (go_at_call 129; refine (unhide HKK _).mono ?_; rintro e w0 ⟨rfl, hw0⟩; obtain rfl := hw0.symm)
  go_ret2
  exact ⟨rfl, rfl⟩
theorem owns_keep {W W' : World} {B : Nat} {e : TypeId} {sz : Nat} {v : Value} {n : Nat} {xs : List Value} (h : W.ownsRow B e sz v n xs) (hB : Go.RowKit.Below W.heap.size W W') : W'.ownsRow B e sz v n xs := by
  obtain ⟨h1, h2 | ⟨g, cap, cur, e, hg, hh, r⟩⟩ := h
  · exact ⟨h1, .inl h2⟩
  · exact ⟨h1, .inr ⟨g, cap, cur, e, hg, by rw [hB.block g (Array.getElem?_eq_some_iff.1 hh).1]; exact hh, r⟩⟩
theorem min_step {k : Nat} (h : k ≤ 64) : min (k + 1) 65 = min k 65 + 1 ∧ min k 65 = k := by omega
end So
end Go.Proofs.YtlajdmjpobckhaaGreatDoor
/- Contracts: flags.Read and the document's Read at every kind and text. -/
namespace Go.Proofs.YtlajdmjpobckhaaGreatDoor
open Go.Sort Go.RowKit
namespace So
open Cut
/-- the error and the set of a text -/
def rE (kind : Int) (l : List UInt8) : Int := if One.isK kind then readE (vals kind l) else 30
def rS (kind : Int) (l : List UInt8) : List Int := if rE kind l = 0 then setOf (vals kind l) else []
theorem rS_bounds (kind : Int) (l : List UInt8) : ∀ x ∈ rS kind l, 0 ≤ x ∧ x ≤ 65535 := by
  unfold rS
  split
  · exact set_bounds (vals_bounds kind l)
  · intro x hx; cases hx
theorem val_nil (kind : Int) (hk : One.isK kind = true) : One.val kind [] = 0 := by
  have h3 : kind = 1 ∨ kind = 2 ∨ kind = 3 := by unfold One.isK at hk; simp at hk; omega
  rcases h3 with rfl | rfl | rfl <;> rfl
theorem vals_nil (kind : Int) (hk : One.isK kind = true) : vals kind [] = [0] := by
  have h3 : kind = 1 ∨ kind = 2 ∨ kind = 3 := by unfold One.isK at hk; simp at hk; omega
  rcases h3 with rfl | rfl | rfl <;> rfl
theorem nil_farg (W : World) : FArg W (.slice none 0 0) [] := ⟨none, 0, rfl, Nat.le_refl _, Nat.zero_le _, fun _ => rfl, fun h => absurd h (by simp)⟩
theorem readAll (kind : Int) (s : ByteArray) (w : World) (hM : MaxIs w) (hs : s.size ≤ 1048576) :
    Calls Tryz.prog 101 #[.int .i64 kind, .string s] w fun e w' => ∃ u, e = .returned (.tuple #[u, .int .i64 (rE kind (dl s))]) ∧ FArg w' u (rS kind (dl s)) ∧ Go.RowKit.Below w.heap.size w w' := by
  unfold rS
  cases hk : One.isK kind
  · refine (read_bad kind s w hk).mono ?_
    rintro e w' ⟨rfl, rfl⟩
    have e1 : rE kind (dl s) = 30 := by unfold rE; rw [hk]; rfl
    rw [e1]
    exact ⟨_, rfl, nil_farg _, Go.RowKit.Below.refl _ _⟩
  · refine (read_any kind s w hk hM hs).mono ?_
    rintro e w' ⟨u, rfl, hB, h1, h2⟩
    have e1 : rE kind (dl s) = readE (vals kind (dl s)) := by unfold rE; rw [hk]; rfl
    rw [e1]
    by_cases h0 : readE (vals kind (dl s)) = 0
    · rw [if_pos h0]
      exact ⟨u, rfl, (h1 h0).arg, hB⟩
    · rw [if_neg h0]
      have := h2 h0
      subst this
      exact ⟨_, rfl, nil_farg _, hB⟩
end So
end Go.Proofs.YtlajdmjpobckhaaGreatDoor
/- Plain mathematics of patterns: how a text is cut into pieces, what a piece admits, sets of bytes as four numbers. No program is named here. -/
namespace Go.Proofs.YtlajdmjpobckhaaGreatDoor.Cd

/-- what a piece of text admits -/
def adm : List UInt8 → UInt8 → Bool
  | [], _ => false
  | [c], b => c == 46 || c == b
  | _ :: 94 :: r, b => !(r.dropLast.contains b)
  | _ :: c :: r, b => (c :: r).dropLast.contains b
theorem adm_dot (b : UInt8) : adm [46] b = true := by simp [adm]
theorem adm_one {c : UInt8} (h : c ≠ 46) (b : UInt8) : adm [c] b = (c == b) := by simp [adm, h]
theorem adm_out (x : UInt8) (l : List UInt8) (b : UInt8) : adm (x :: 94 :: (l ++ [93])) b = !(l.contains b) := by
  cases l with
  | nil => simp [adm]
  | cons a t =>
    show (!((a :: t ++ [93]).dropLast.contains b)) = _
    rw [List.dropLast_concat]
theorem adm_in {x c : UInt8} (hc : c ≠ 94) (l : List UInt8) (b : UInt8) : adm (x :: c :: (l ++ [93])) b = (c :: l).contains b := by
  unfold adm
  split
  · simp_all
  · simp_all
  · simp_all
  · rename_i h
    simp only [List.cons.injEq] at h
    obtain ⟨rfl, rfl, rfl⟩ := h
    rw [← List.cons_append, List.dropLast_concat]

/-- the first piece of a text, and what stands behind it; none: a bracket at fault -/
def cut1 : List UInt8 → Option (List UInt8 × List UInt8)
  | [] => none
  | c :: r => if c = 91 then (match r.dropWhile (· != 93) with
      | [] => none
      | _ :: rest => if r.takeWhile (· != 93) = [] ∨ r.takeWhile (· != 93) = [94] then none else some (91 :: (r.takeWhile (· != 93) ++ [93]), rest))
    else some ([c], r)
theorem cut1_len {l p r : List UInt8} (h : cut1 l = some (p, r)) : l = p ++ r ∧ 0 < p.length := by
  cases l with
  | nil => simp [cut1] at h
  | cons c t =>
    simp only [cut1] at h
    split at h
    · rename_i hc
      subst hc
      split at h
      · simp at h
      · rename_i x rest hd
        split at h
        · simp at h
        · simp only [Option.some.injEq, Prod.mk.injEq] at h
          obtain ⟨rfl, rfl⟩ := h
          refine ⟨?_, by simp⟩
          have h1 := List.takeWhile_append_dropWhile (p := fun x : UInt8 => x != 93) (l := t)
          have h2 : x = 93 := by
            have := List.head?_dropWhile_not (fun x : UInt8 => x != 93) t
            rw [hd] at this
            simpa using this
          subst h2
          rw [hd] at h1
          simp [h1]
    · simp only [Option.some.injEq, Prod.mk.injEq] at h
      obtain ⟨rfl, rfl⟩ := h
      exact ⟨rfl, by simp⟩
/-- the pieces of a text -/
def pcsF : Nat → List UInt8 → Option (List (List UInt8))
  | _, [] => some []
  | 0, _ :: _ => none
  | n + 1, c :: t => match cut1 (c :: t) with
    | none => none
    | some (p, r) => (pcsF n r).map (p :: ·)
def pcs (l : List UInt8) : Option (List (List UInt8)) := pcsF l.length l
theorem pcsF_eq (n m : Nat) (l : List UInt8) (hn : l.length ≤ n) (hm : l.length ≤ m) : pcsF n l = pcsF m l := by
  induction n generalizing l m with
  | zero =>
    have : l = [] := List.eq_nil_of_length_eq_zero (by omega)
    subst this
    simp [pcsF]
  | succ n ih =>
    cases l with
    | nil => simp [pcsF]
    | cons c t =>
      cases m with
      | zero => simp at hm
      | succ m =>
        simp only [pcsF]
        cases hc : cut1 (c :: t) with
        | none => rfl
        | some q =>
          obtain ⟨p, r⟩ := q
          obtain ⟨h1, h2⟩ := cut1_len hc
          have h3 := congrArg List.length h1
          simp only [List.length_append, List.length_cons] at h3 hn hm
          simp only
          rw [ih m r (by omega) (by omega)]
theorem pcs_nil : pcs [] = some [] := rfl
theorem pcs_bad {l : List UInt8} (h0 : l ≠ []) (h : cut1 l = none) : pcs l = none := by
  cases l with
  | nil => exact absurd rfl h0
  | cons c t => simp [pcs, pcsF, h]
theorem pcs_cut {l p r : List UInt8} (h : cut1 l = some (p, r)) : pcs l = (pcs r).map (p :: ·) := by
  cases l with
  | nil => simp [cut1] at h
  | cons c t =>
    obtain ⟨h1, h2⟩ := cut1_len h
    have h3 := congrArg List.length h1
    simp only [List.length_append, List.length_cons] at h3
    simp only [pcs, pcsF, List.length_cons, h]
    rw [pcsF_eq _ r.length r (by omega) (Nat.le_refl _)]
/-- a fit piece -/
def Pc (p : List UInt8) : Prop := (∃ c, c ≠ 91 ∧ p = [c]) ∨ ∃ l, l ≠ [] ∧ l ≠ [94] ∧ 93 ∉ l ∧ p = 91 :: (l ++ [93])
theorem tw_not (t : List UInt8) : 93 ∉ t.takeWhile (· != 93) := by
  induction t with
  | nil => simp
  | cons a t ih =>
    rw [List.takeWhile_cons]
    split
    · rename_i ha
      simp only [List.mem_cons, not_or]
      exact ⟨fun e => by simp [← e] at ha, ih⟩
    · simp
theorem cut1_pc {l p r : List UInt8} (h : cut1 l = some (p, r)) : Pc p := by
  cases l with
  | nil => simp [cut1] at h
  | cons c t =>
    simp only [cut1] at h
    split at h
    · split at h
      · simp at h
      · split at h
        · simp at h
        · rename_i h2
          simp only [Option.some.injEq, Prod.mk.injEq] at h
          obtain ⟨rfl, rfl⟩ := h
          exact .inr ⟨_, fun e => h2 (.inl e), fun e => h2 (.inr e), tw_not t, rfl⟩
    · rename_i hc
      simp only [Option.some.injEq, Prod.mk.injEq] at h
      obtain ⟨rfl, rfl⟩ := h
      exact .inl ⟨c, hc, rfl⟩
theorem tw_app (l r : List UInt8) (h : 93 ∉ l) : (l ++ 93 :: r).takeWhile (· != 93) = l ∧ (l ++ 93 :: r).dropWhile (· != 93) = 93 :: r := by
  induction l with
  | nil => simp
  | cons a t ih =>
    simp only [List.mem_cons, not_or] at h
    have ha : (a != 93) = true := by simp; exact fun e => h.1 e.symm
    obtain ⟨i1, i2⟩ := ih h.2
    exact ⟨by rw [List.cons_append, List.takeWhile_cons, if_pos ha, i1], by rw [List.cons_append, List.dropWhile_cons, if_pos ha, i2]⟩
theorem pc_cut {p : List UInt8} (h : Pc p) (r : List UInt8) : cut1 (p ++ r) = some (p, r) := by
  rcases h with ⟨c, hc, rfl⟩ | ⟨l, h1, h2, h3, rfl⟩
  · simp [cut1, hc]
  · obtain ⟨t1, t2⟩ := tw_app l r h3
    have e : 91 :: (l ++ [93]) ++ r = 91 :: (l ++ 93 :: r) := by simp
    rw [e]
    simp [cut1, t1, t2, h1, h2]
theorem pcs_pcs {l : List UInt8} {P : List (List UInt8)} (h : pcs l = some P) : (∀ p ∈ P, Pc p) ∧ P.flatten = l := by
  have key : ∀ n (l : List UInt8) P, l.length ≤ n → pcs l = some P → (∀ p ∈ P, Pc p) ∧ P.flatten = l := by
    intro n
    induction n with
    | zero =>
      intro l P hl h
      have : l = [] := List.eq_nil_of_length_eq_zero (by omega)
      subst this
      rw [pcs_nil] at h
      cases h
      simp
    | succ n ih =>
      intro l P hl h
      cases hl0 : l with
      | nil => subst hl0; rw [pcs_nil] at h; cases h; simp
      | cons c t =>
        cases hc : cut1 l with
        | none => rw [pcs_bad (by simp [hl0]) hc] at h; cases h
        | some q =>
          obtain ⟨p, r⟩ := q
          rw [pcs_cut hc] at h
          obtain ⟨h1, h2⟩ := cut1_len hc
          have h3 := congrArg List.length h1
          simp only [List.length_append] at h3
          cases hr : pcs r with
          | none => rw [hr] at h; simp at h
          | some R =>
            rw [hr] at h
            simp only [Option.map_some, Option.some.injEq] at h
            subst h
            obtain ⟨i1, i2⟩ := ih r R (by omega) hr
            refine ⟨fun x hx => ?_, ?_⟩
            · rcases List.mem_cons.1 hx with rfl | hx
              · exact cut1_pc hc
              · exact i1 x hx
            · rw [List.flatten_cons, i2, ← hl0, h1]
  exact key l.length l P (Nat.le_refl _) h
theorem pcs_of (P : List (List UInt8)) (h : ∀ p ∈ P, Pc p) : pcs P.flatten = some P := by
  induction P with
  | nil => rfl
  | cons p t ih =>
    rw [List.flatten_cons, pcs_cut (pc_cut (h p (by simp)) _), ih (fun x hx => h x (by simp [hx]))]
    rfl
/-- what Read answers: the pieces, and the error -/
def rd (l : List UInt8) : List (List UInt8) × Nat :=
  if l = [] ∨ 512 < l.length then ([], 40) else if l = [46] then ([], 0) else match pcs l with
    | none => ([], 41)
    | some P => if 16 < P.length then ([], 42) else (P, 0)
theorem rd_pc (l : List UInt8) : ∀ p ∈ (rd l).1, Pc p := by
  unfold rd
  split
  · simp
  · split
    · simp
    · split
      · simp
      · rename_i P hP
        split
        · simp
        · exact (pcs_pcs hP).1
theorem rd_len (l : List UInt8) : (rd l).1.length ≤ 16 := by
  unfold rd
  split
  · simp
  · split
    · simp
    · split
      · simp
      · split
        · simp
        · simp; omega

/-- the byte of a number -/
def bt (n : Nat) : UInt8 := UInt8.ofNat n
theorem bt_toNat (n : Nat) : (bt n).toNat = n % 256 := by simp [bt]
/-- a set of bytes as numbers of n bits -/
def wdn (f : UInt8 → Bool) (k : Nat) : Nat → Nat
  | 0 => 0
  | n + 1 => wdn f k n + if f (bt (64 * k + n)) then 2 ^ n else 0
def wd (f : UInt8 → Bool) (k : Nat) : Nat := wdn f k 64
theorem wdn_lt (f : UInt8 → Bool) (k n : Nat) : wdn f k n < 2 ^ n := by
  induction n with
  | zero => simp [wdn]
  | succ n ih => unfold wdn; rw [Nat.pow_succ]; split <;> omega
theorem wdn_bit (f : UInt8 → Bool) (k n j : Nat) : (wdn f k n).testBit j = (decide (j < n) && f (bt (64 * k + j))) := by
  induction n with
  | zero => simp [wdn]
  | succ n ih =>
    unfold wdn
    have hlt := wdn_lt f k n
    by_cases hf : f (bt (64 * k + n)) = true
    · rw [if_pos hf, Nat.add_comm]
      by_cases hj : j = n
      · subst hj
        rw [Nat.testBit_two_pow_add_eq, Nat.testBit_lt_two_pow hlt]
        simp [hf]
      · by_cases hj2 : j < n
        · rw [Nat.testBit_two_pow_add_gt hj2, ih]
          have : j < n + 1 := by omega
          simp [hj2, this]
        · have h1 : 2 ^ n + wdn f k n < 2 ^ j := by
            have : 2 ^ (n + 1) ≤ 2 ^ j := Nat.pow_le_pow_right (by omega) (by omega)
            rw [Nat.pow_succ] at this
            omega
          rw [Nat.testBit_lt_two_pow h1]
          have : ¬ j < n + 1 := by omega
          simp [this]
    · rw [if_neg hf, Nat.add_zero, ih]
      by_cases hj : j = n
      · subst hj
        simp at hf
        simp [hf]
      · by_cases hj2 : j < n
        · have : j < n + 1 := by omega
          simp [hj2, this]
        · have : ¬ j < n + 1 := by omega
          simp [hj2, this]
theorem wdn_not (f : UInt8 → Bool) (k n : Nat) : wdn (fun b => !f b) k n + wdn f k n + 1 = 2 ^ n := by
  induction n with
  | zero => simp [wdn]
  | succ n ih =>
    unfold wdn
    rw [Nat.pow_succ]
    cases f (bt (64 * k + n)) <;> simp <;> omega
theorem wd_lt (f : UInt8 → Bool) (k : Nat) : wd f k < 18446744073709551616 := wdn_lt f k 64
theorem wd_not (f : UInt8 → Bool) (k : Nat) : wd (fun b => !f b) k = 18446744073709551615 - wd f k := by
  have := wdn_not f k 64
  have e : 2 ^ 64 = 18446744073709551616 := by decide
  unfold wd
  omega
theorem wd_bit (f : UInt8 → Bool) (k j : Nat) : (wd f k).testBit j = (decide (j < 64) && f (bt (64 * k + j))) := wdn_bit f k 64 j
theorem byte_split (b : UInt8) : bt (64 * (b.toNat / 64) + b.toNat % 64) = b := by
  rw [Nat.div_add_mod, bt]; simp
theorem wd_has (f : UInt8 → Bool) (b : UInt8) : (wd f (b.toNat / 64)).testBit (b.toNat % 64) = f b := by
  rw [wd_bit, byte_split]
  have : b.toNat % 64 < 64 := Nat.mod_lt _ (by decide)
  simp [this]
theorem wd_ext {f g : UInt8 → Bool} (h : ∀ k, k < 4 → wd f k = wd g k) : f = g := by
  funext b
  rw [← wd_has f b, ← wd_has g b, h]
  have := b.toNat_lt
  omega
theorem wd_none (k : Nat) : wd (fun _ => false) k = 0 := by
  apply Nat.eq_of_testBit_eq
  intro j
  rw [wd_bit]
  simp
theorem wd_put (f : UInt8 → Bool) (b : UInt8) (k : Nat) (hk : k < 4) : wd (fun c => f c || c == b) k = if k = b.toNat / 64 then wd f k ||| 2 ^ (b.toNat % 64) else wd f k := by
  have hb := b.toNat_lt
  apply Nat.eq_of_testBit_eq
  intro j
  split
  · rename_i e
    subst e
    rw [Nat.testBit_or, wd_bit, wd_bit, Nat.testBit_two_pow]
    by_cases hj : j < 64
    · simp only [hj, decide_true, Bool.true_and]
      congr 1
      rw [Bool.eq_iff_iff, beq_iff_eq, decide_eq_true_eq]
      constructor
      · intro e
        have := congrArg UInt8.toNat e
        rw [bt_toNat] at this
        omega
      · intro e
        rw [← e]
        exact byte_split b
    · have : ¬ b.toNat % 64 = j := by have : b.toNat % 64 < 64 := Nat.mod_lt _ (by decide); omega
      simp [hj, this]
  · rename_i e
    rw [wd_bit, wd_bit]
    by_cases hj : j < 64
    · have : (bt (64 * k + j) == b) = false := by
        rw [beq_eq_false_iff_ne]
        intro e2
        have := congrArg UInt8.toNat e2
        rw [bt_toNat] at this
        omega
      simp [this]
    · simp [hj]
end Go.Proofs.YtlajdmjpobckhaaGreatDoor.Cd
/- Plain mathematics of patterns: how items are shown, and read back. No program is named here. -/
namespace Go.Proofs.YtlajdmjpobckhaaGreatDoor.Cd

def every : List UInt8 := (List.range 256).map bt
/-- the bytes of a set, rising -/
def lso (f : UInt8 → Bool) : List UInt8 := every.filter f
theorem mem_every (b : UInt8) : b ∈ every := by
  have := b.toNat_lt
  exact List.mem_map.2 ⟨b.toNat, List.mem_range.2 (by omega), by simp [bt]⟩
theorem every_len : every.length = 256 := by simp [every]
theorem nodup_map_on {α β : Type} {f : α → β} {l : List α} (h : l.Nodup) (hf : ∀ a ∈ l, ∀ b ∈ l, f a = f b → a = b) : (l.map f).Nodup := by
  induction l with
  | nil => simp
  | cons a t ih =>
    rw [List.nodup_cons] at h
    rw [List.map_cons, List.nodup_cons]
    refine ⟨fun hm => ?_, ih h.2 (fun x hx y hy => hf x (by simp [hx]) y (by simp [hy]))⟩
    obtain ⟨x, hx, e⟩ := List.mem_map.1 hm
    have := hf x (by simp [hx]) a (by simp) e
    subst this
    exact h.1 hx
theorem every_nodup : every.Nodup := by
  refine nodup_map_on List.nodup_range fun a ha b hb e => ?_
  have := congrArg UInt8.toNat e
  rw [bt_toNat, bt_toNat] at this
  rw [List.mem_range] at ha hb
  omega
theorem mem_lso {f : UInt8 → Bool} {b : UInt8} : b ∈ lso f ↔ f b = true := by simp [lso, mem_every]
theorem lso_nodup (f : UInt8 → Bool) : (lso f).Nodup := every_nodup.filter _
theorem sub_len {a b : List UInt8} (h : a.Nodup) (hs : ∀ x ∈ a, x ∈ b) : a.length ≤ b.length := by
  induction a generalizing b with
  | nil => simp
  | cons x t ih =>
    rw [List.nodup_cons] at h
    have hx := hs x (by simp)
    have h1 := ih (b := b.erase x) h.2 (fun y hy => (List.mem_erase_of_ne (fun e : y = x => h.1 (by rw [← e]; exact hy))).2 (hs y (by simp [hy])))
    rw [List.length_erase_of_mem hx] at h1
    have := List.length_pos_of_mem hx
    simp only [List.length_cons]
    omega
theorem one_of {l : List UInt8} {c : UInt8} (h : l.Nodup) (hc : c ∈ l) (ho : ∀ x ∈ l, x = c) : l = [c] := by
  have h1 : l.length ≤ [c].length := sub_len h (fun x hx => by simp [ho x hx])
  match l, hc with
  | [x], _ => rw [ho x (by simp)]
  | _ :: _ :: _, _ => simp at h1
theorem lso_all {f : UInt8 → Bool} : (lso f).length = 256 ↔ ∀ b, f b = true := by
  constructor
  · intro h b
    by_cases hb : f b = true
    · exact hb
    · exfalso
      have h1 := sub_len (a := b :: lso f) (b := every) (by rw [List.nodup_cons]; exact ⟨fun hm => hb (mem_lso.1 hm), lso_nodup f⟩) (fun x _ => mem_every x)
      rw [every_len] at h1
      simp only [List.length_cons] at h1
      omega
  · intro h
    unfold lso
    rw [List.filter_eq_self.2 (fun a _ => h a), every_len]
/-- an item as it is shown -/
def shw (f : UInt8 → Bool) : List UInt8 :=
  if (lso f).length = 256 then [46]
  else if lso f = [46] then [91, 46, 93] else if lso f = [91] then [91, 91, 93]
  else if (lso f).length = 1 then lso f
  else if f 93 = true then 91 :: 94 :: (lso (fun b => !f b) ++ [93])
  else 91 :: (((lso f).filter (· != 94) ++ (if f 94 = true then [94] else [])) ++ [93])
theorem f_of_one {f : UInt8 → Bool} {x : UInt8} (h : lso f = [x]) (b : UInt8) : f b = (x == b) := by
  rw [Bool.eq_iff_iff, ← mem_lso, h, beq_iff_eq, List.mem_singleton]
  exact eq_comm
theorem con_iff {l : List UInt8} {b : UInt8} : l.contains b = true ↔ b ∈ l := by simp
theorem pc_cases {p : List UInt8} (h : Pc p) : (p = [46]) ∨ (∃ c, c ≠ 46 ∧ c ≠ 91 ∧ p = [c]) ∨ (∃ l, l ≠ [] ∧ 93 ∉ l ∧ p = 91 :: 94 :: (l ++ [93])) ∨ ∃ c l, c ≠ 94 ∧ 93 ∉ c :: l ∧ p = 91 :: c :: (l ++ [93]) := by
  rcases h with ⟨c, hc, rfl⟩ | ⟨l, h1, h2, h3, rfl⟩
  · by_cases h : c = 46
    · exact .inl (by rw [h])
    · exact .inr (.inl ⟨c, h, hc, rfl⟩)
  · match l, h1 with
    | c :: t, _ =>
      by_cases h : c = 94
      · subst h
        exact .inr (.inr (.inl ⟨t, fun e => h2 (by rw [e]), fun hm => h3 (by simp [hm]), rfl⟩))
      · exact .inr (.inr (.inr ⟨c, t, h, h3, rfl⟩))
theorem shw_pc {p : List UInt8} (h : Pc p) : Pc (shw (adm p)) ∧ (∀ b, adm (shw (adm p)) b = adm p b) ∧ (shw (adm p)).length ≤ p.length := by
  rcases pc_cases h with rfl | ⟨c, hc1, hc2, rfl⟩ | ⟨l, h1, h2, rfl⟩ | ⟨c, l, hc, h3, rfl⟩
  · have e : shw (adm [46]) = [46] := by unfold shw; rw [if_pos (lso_all.2 adm_dot)]
    rw [e]
    exact ⟨h, fun _ => rfl, Nat.le_refl _⟩
  · have e1 : lso (adm [c]) = [c] := one_of (lso_nodup _) (mem_lso.2 (by rw [adm_one hc1]; simp)) (fun x hx => by have := mem_lso.1 hx; rw [adm_one hc1] at this; exact (beq_iff_eq.1 this).symm)
    have e : shw (adm [c]) = [c] := by unfold shw; rw [e1]; simp [hc1, hc2]
    rw [e]
    exact ⟨h, fun _ => rfl, Nat.le_refl _⟩
  · generalize hf : adm (91 :: 94 :: (l ++ [93])) = f
    have fv : ∀ b, f b = !(l.contains b) := fun b => by rw [← hf]; exact adm_out _ _ _
    have f93 : f 93 = true := by rw [fv]; simp [h2]
    obtain ⟨y, hy⟩ := List.exists_mem_of_ne_nil l h1
    have fy : f y = false := by rw [fv]; simp [hy]
    have n256 : ¬ (lso f).length = 256 := fun e => by rw [lso_all.1 e y] at fy; cases fy
    have n46 : ¬ lso f = [46] := fun e => by have := mem_lso.2 f93; rw [e] at this; simp at this
    have n91 : ¬ lso f = [91] := fun e => by have := mem_lso.2 f93; rw [e] at this; simp at this
    unfold shw
    rw [if_neg n256, if_neg n46, if_neg n91]
    by_cases h1e : (lso f).length = 1
    · obtain ⟨x, hx⟩ := List.length_eq_one_iff.1 h1e
      have hx93 : x = 93 := by have := mem_lso.2 f93; rw [hx] at this; exact (List.mem_singleton.1 this).symm
      subst hx93
      rw [if_pos h1e, hx]
      refine ⟨.inl ⟨93, by decide, rfl⟩, fun b => ?_, by simp⟩
      rw [adm_one (by decide), f_of_one hx]
    · rw [if_neg h1e, if_pos f93]
      have hm : ∀ b, b ∈ lso (fun b => !f b) ↔ b ∈ l := fun b => by rw [mem_lso, fv]; simp
      refine ⟨.inr ⟨94 :: lso (fun b => !f b), by simp, fun e => ?_, fun e => ?_, rfl⟩, fun b => ?_, ?_⟩
      · have := (hm y).2 hy
        simp only [List.cons.injEq, true_and] at e
        rw [e] at this
        simp at this
      · simp only [List.mem_cons, hm] at e
        rcases e with e | e
        · exact absurd e (by decide)
        · exact h2 e
      · rw [adm_out, fv]
        congr 1
        rw [Bool.eq_iff_iff, con_iff, con_iff, hm]
      · have := sub_len (lso_nodup (fun b => !f b)) (b := l) (fun x hx => (hm x).1 hx)
        simp only [List.length_cons, List.length_append, List.length_nil]
        omega
  · generalize hf : adm (91 :: c :: (l ++ [93])) = f
    have fv : ∀ b, f b = (c :: l).contains b := fun b => by rw [← hf]; exact adm_in hc _ _
    have f93 : f 93 = false := by rw [fv, Bool.eq_false_iff]; simpa using h3
    have fc : f c = true := by rw [fv]; simp
    have hm : ∀ b, b ∈ lso f ↔ b ∈ c :: l := fun b => by rw [mem_lso, fv, con_iff]
    have n256 : ¬ (lso f).length = 256 := fun e => by rw [lso_all.1 e 93] at f93; cases f93
    unfold shw
    rw [if_neg n256]
    by_cases n46 : lso f = [46]
    · rw [if_pos n46]
      refine ⟨.inr ⟨[46], by simp, by decide, by decide, rfl⟩, fun b => ?_, by simp⟩
      rw [f_of_one n46]
      exact (adm_in (x := 91) (c := 46) (by decide) [] b).trans (by rw [Bool.eq_iff_iff, con_iff, beq_iff_eq]; simp [eq_comm])
    · rw [if_neg n46]
      by_cases n91 : lso f = [91]
      · rw [if_pos n91]
        refine ⟨.inr ⟨[91], by simp, by decide, by decide, rfl⟩, fun b => ?_, by simp⟩
        rw [f_of_one n91]
        exact (adm_in (x := 91) (c := 91) (by decide) [] b).trans (by rw [Bool.eq_iff_iff, con_iff, beq_iff_eq]; simp [eq_comm])
      · rw [if_neg n91]
        by_cases h1e : (lso f).length = 1
        · obtain ⟨x, hx⟩ := List.length_eq_one_iff.1 h1e
          rw [if_pos h1e, hx]
          have x46 : x ≠ 46 := fun e => n46 (by rw [hx, e])
          have x91 : x ≠ 91 := fun e => n91 (by rw [hx, e])
          refine ⟨.inl ⟨x, x91, rfl⟩, fun b => ?_, by simp⟩
          rw [adm_one x46, f_of_one hx]
        · rw [if_neg h1e, if_neg (by rw [f93]; decide)]
          have hX : ∀ b, b ∈ (lso f).filter (· != 94) ++ (if f 94 = true then [94] else []) ↔ f b = true := fun b => by
            rw [List.mem_append, List.mem_filter, mem_lso]
            by_cases e : b = 94
            · subst e
              cases f 94 <;> simp
            · cases f 94 <;> simp [e]
          have hN : ((lso f).filter (· != 94) ++ (if f 94 = true then [94] else [])).Nodup := by
            refine List.nodup_append.2 ⟨(lso_nodup f).filter _, by split <;> simp, fun a ha b hb e => ?_⟩
            rw [List.mem_filter] at ha
            have : b = 94 := by
              split at hb
              · simpa using hb
              · simp at hb
            subst this
            subst e
            simp at ha
          have hc1 : c ∈ (lso f).filter (· != 94) := by rw [List.mem_filter]; exact ⟨mem_lso.2 fc, by simpa using hc⟩
          have hH : ∃ x t, x ≠ 94 ∧ (lso f).filter (· != 94) ++ (if f 94 = true then [94] else []) = x :: t := by
            cases hq : (lso f).filter (· != 94) with
            | nil => rw [hq] at hc1; simp at hc1
            | cons x t =>
              have : x ∈ (lso f).filter (· != 94) := by rw [hq]; simp
              rw [List.mem_filter] at this
              exact ⟨x, _, by simpa using this.2, by rw [List.cons_append]⟩
          generalize (lso f).filter (· != 94) ++ (if f 94 = true then [94] else []) = X at *
          obtain ⟨x, t, hx, rfl⟩ := hH
          refine ⟨.inr ⟨x :: t, by simp, fun e => hx (by simpa using congrArg List.head? e), fun e => ?_, rfl⟩, fun b => ?_, ?_⟩
          · rw [(hX 93).1 e] at f93; cases f93
          · refine (adm_in (x := 91) hx t b).trans ?_
            rw [Bool.eq_iff_iff, con_iff]
            exact hX b
          · have := sub_len hN (b := c :: l) (fun y hy => (hm y).1 (mem_lso.2 ((hX y).1 hy)))
            simp only [List.length_cons, List.length_append, List.length_nil] at this ⊢
            omega
/-- a pattern as it is shown -/
def sws (P : List (List UInt8)) : List UInt8 := if P = [] then [46] else (P.map fun p => shw (adm p)).flatten
theorem adm_shw {p : List UInt8} (h : Pc p) : adm (shw (adm p)) = adm p := funext (shw_pc h).2.1
theorem pcs_sws {P : List (List UInt8)} (h : ∀ p ∈ P, Pc p) : pcs (P.map fun p => shw (adm p)).flatten = some (P.map fun p => shw (adm p)) := by
  refine pcs_of _ fun p hp => ?_
  obtain ⟨q, hq, rfl⟩ := List.mem_map.1 hp
  exact (shw_pc (h q hq)).1
theorem flat_len {P : List (List UInt8)} (h : ∀ p ∈ P, Pc p) : (P.map fun p => shw (adm p)).flatten.length ≤ P.flatten.length := by
  induction P with
  | nil => simp
  | cons p t ih =>
    have h1 := (shw_pc (h p (by simp))).2.2
    have h2 := ih (fun x hx => h x (by simp [hx]))
    simp only [List.map_cons, List.flatten_cons, List.length_append]
    omega
theorem pc_all {p : List UInt8} (h : Pc p) (ha : ∀ b, adm p b = true) : p = [46] := by
  rcases pc_cases h with rfl | ⟨c, hc1, hc2, rfl⟩ | ⟨l, h1, h2, rfl⟩ | ⟨c, l, hc, h3, rfl⟩
  · rfl
  · exfalso
    have a := ha 46
    rw [adm_one hc1] at a
    exact hc1 (beq_iff_eq.1 a)
  · exfalso
    obtain ⟨y, hy⟩ := List.exists_mem_of_ne_nil l h1
    have := ha y
    rw [adm_out] at this
    simp [hy] at this
  · exfalso
    have := ha 93
    rw [adm_in hc, con_iff] at this
    exact h3 this
theorem pc_some {p : List UInt8} (h : Pc p) : ∃ b, adm p b = true := by
  rcases pc_cases h with rfl | ⟨c, hc1, hc2, rfl⟩ | ⟨l, h1, h2, rfl⟩ | ⟨c, l, hc, h3, rfl⟩
  · exact ⟨0, adm_dot 0⟩
  · exact ⟨c, by rw [adm_one hc1]; simp⟩
  · exact ⟨93, by rw [adm_out]; simp [h2]⟩
  · exact ⟨c, by rw [adm_in hc]; simp⟩
theorem rd_cases (l : List UInt8) : (rd l).1 = [] ∨ (l ≠ [] ∧ l.length ≤ 512 ∧ l ≠ [46] ∧ pcs l = some (rd l).1 ∧ (rd l).1.length ≤ 16 ∧ (rd l).2 = 0) := by
  unfold rd
  split
  · exact .inl rfl
  · rename_i h1
    split
    · exact .inl rfl
    · rename_i h2
      split
      · exact .inl rfl
      · rename_i P hP
        split
        · exact .inl rfl
        · rename_i h3
          exact .inr ⟨fun e => h1 (.inl e), by have : ¬ 512 < l.length := fun e => h1 (.inr e); omega, h2, hP, by simp only; omega, rfl⟩
theorem rd_dot {l : List UInt8} (h : (rd l).1 ≠ []) : ((rd l).1.map fun p => shw (adm p)).flatten ≠ [46] := by
  rcases rd_cases l with e | ⟨h1, h2, h3, h4, h5, h6⟩
  · exact absurd e h
  · intro e
    have hp := pcs_sws (rd_pc l)
    rw [e] at hp
    have hp2 : pcs [46] = some [[46]] := by decide
    rw [hp2, Option.some.injEq] at hp
    generalize hP : (rd l).1 = P at *
    obtain ⟨p, rfl⟩ : ∃ p, P = [p] := List.length_eq_one_iff.1 (by have := congrArg List.length hp; simpa using this.symm)
    · simp only [List.map_cons, List.map_nil, List.cons.injEq, and_true] at hp
      have hpc : Pc p := by have := rd_pc l p; rw [hP] at this; exact this (by simp)
      have := pc_all hpc (fun b => by rw [← adm_shw hpc, ← hp]; exact adm_dot b)
      subst this
      exact h3 (by rw [← (pcs_pcs h4).2]; rfl)
theorem sws_len {l : List UInt8} (h0 : (rd l).2 = 0) : (sws (rd l).1).length ≤ l.length := by
  unfold sws
  split
  · rename_i e
    cases l with
    | nil => simp [rd] at h0
    | cons a t => simp
  · rename_i h
    rcases rd_cases l with e | ⟨h1, h2, h3, h4, h5, h6⟩
    · exact absurd e h
    · have := flat_len (rd_pc l)
      rw [(pcs_pcs h4).2] at this
      exact this
/-- what is shown is read as items that admit the same -/
theorem rd_back {l : List UInt8} (h0 : (rd l).2 = 0) : rd (sws (rd l).1) = ((rd l).1.map (fun p => shw (adm p)), 0) := by
  have hl := sws_len h0
  by_cases h : (rd l).1 = []
  · rw [h]; rfl
  · have hd := rd_dot h
    rcases rd_cases l with e | ⟨h1, h2, h3, h4, h5, h6⟩
    · exact absurd e h
    · have hs := pcs_sws (rd_pc l)
      have e : sws (rd l).1 = ((rd l).1.map fun p => shw (adm p)).flatten := by unfold sws; rw [if_neg h]
      rw [e] at hl ⊢
      have hne : ((rd l).1.map fun p => shw (adm p)).flatten ≠ [] := by
        intro e2
        rw [e2, pcs_nil, Option.some.injEq] at hs
        exact h (by simpa using hs.symm)
      generalize ((rd l).1.map fun p => shw (adm p)).flatten = T at *
      generalize (rd l).1 = P at *
      unfold rd
      rw [if_neg (fun e => e.elim hne (fun e => by omega)), if_neg hd, hs]
      simp only [List.length_map]
      rw [if_neg (by omega)]
theorem back_adm (l : List UInt8) : ((rd l).1.map (fun p => shw (adm p))).map adm = (rd l).1.map adm := by
  rw [List.map_map]
  refine List.map_congr_left fun p hp => ?_
  exact adm_shw (rd_pc l p hp)
theorem sws_eq {P Q : List (List UInt8)} (h : P.map adm = Q.map adm) : sws P = sws Q := by
  unfold sws
  have hl := congrArg List.length h
  simp only [List.length_map] at hl
  have e : (P.map fun p => shw (adm p)) = Q.map fun p => shw (adm p) := by
    have := congrArg (List.map shw) h
    rwa [List.map_map, List.map_map] at this
  by_cases hP : P = []
  · have hQ : Q = [] := List.eq_nil_of_length_eq_zero (by rw [← hl, hP]; rfl)
    rw [hP, hQ]
  · have hQ : Q ≠ [] := fun e => hP (List.eq_nil_of_length_eq_zero (by rw [hl, e]; rfl))
    rw [if_neg hP, if_neg hQ, e]
theorem sws_inj {l m : List UInt8} (h : sws (rd l).1 = sws (rd m).1) : (rd l).1.map adm = (rd m).1.map adm := by
  by_cases hl : (rd l).1 = []
  · by_cases hm : (rd m).1 = []
    · rw [hl, hm]
    · exfalso
      have := rd_dot hm
      unfold sws at h
      rw [if_pos hl, if_neg hm] at h
      exact this h.symm
  · by_cases hm : (rd m).1 = []
    · exfalso
      have := rd_dot hl
      unfold sws at h
      rw [if_neg hl, if_pos hm] at h
      exact this h
    · unfold sws at h
      rw [if_neg hl, if_neg hm] at h
      have h1 := pcs_sws (rd_pc l)
      have h2 := pcs_sws (rd_pc m)
      rw [h, h2, Option.some.injEq] at h1
      rw [← back_adm l, ← back_adm m, h1]
end Go.Proofs.YtlajdmjpobckhaaGreatDoor.Cd
/- Contracts: the items of a pattern: only, others, has. -/
namespace Go.Proofs.YtlajdmjpobckhaaGreatDoor
open Go.RowKit
namespace Pt
open Cd

theorem hide {p : Prop} (h : p) : Hid p := h
theorem unhide {p : Prop} (h : Hid p) : p := h
/-- the four cells of an item -/
def itC (f : UInt8 → Bool) : Array Value := #[.int .u64 (wd f 0), .int .u64 (wd f 1), .int .u64 (wd f 2), .int .u64 (wd f 3)]
theorem itC_get (f : UInt8 → Bool) {k : Nat} (h : k < 4) : (itC f)[k]? = some (.int .u64 (wd f k)) := by
  have : k = 0 ∨ k = 1 ∨ k = 2 ∨ k = 3 := by omega
  rcases this with rfl | rfl | rfl | rfl <;> rfl

theorem bit_has {x j : Nat} (h : x < 18446744073709551616) : (bits BinOp.and IntKind.u64 ((x : Int) / 2 ^ j) 1 == 1) = x.testBit j := by
  have e : ((x : Int) / 2 ^ j) = ((x / 2 ^ j : Nat) : Int) := by simp
  have h2 : x / 2 ^ j < 18446744073709551616 := Nat.lt_of_le_of_lt (Nat.div_le_self _ _) h
  rw [e, show (1 : Int) = ((1 : Nat) : Int) from rfl, bits_and_u64_nat _ _ h2 (by decide), Nat.and_one_is_mod, Nat.testBit_eq_decide_div_mod_eq, Bool.eq_iff_iff, beq_iff_eq, decide_eq_true_eq]
  omega
theorem bit_not (f : UInt8 → Bool) (k : Nat) : bits BinOp.xor IntKind.u64 18446744073709551615 ((wd f k : Nat) : Int) = ((wd (fun b => !f b) k : Nat) : Int) := by
  rw [show (18446744073709551615 : Int) = ((18446744073709551615 : Nat) : Int) from rfl, bits_xor_u64_nat _ _ (by decide) (wd_lt f k)]
  congr 1
  apply Nat.eq_of_testBit_eq
  intro j
  have e : (18446744073709551615 : Nat) = 2 ^ 64 - 1 := by decide
  rw [Nat.testBit_xor, e, Nat.testBit_two_pow_sub_one, wd_bit, wd_bit]
  cases decide (j < 64) <;> simp
theorem pow_lt64 {j : Nat} (hj : j < 64) : 2 ^ j < 18446744073709551616 := by
  have : 2 ^ j ≤ 2 ^ 63 := Nat.pow_le_pow_right (by decide) (by omega)
  have e : 2 ^ 63 = 9223372036854775808 := by decide
  omega
theorem bit_put {x j : Nat} (h : x < 18446744073709551616) (hj : j < 64) : bits BinOp.or IntKind.u64 (x : Int) (IntKind.u64.wrap (2 ^ j)) = ((x ||| 2 ^ j : Nat) : Int) := by
  have e : ((2 : Int) ^ j) = ((2 ^ j : Nat) : Int) := by simp
  have h2 := pow_lt64 hj
  rw [e, IntKind.wrap_u64]
  have e3 : ((2 ^ j : Nat) : Int) % 18446744073709551616 = ((2 ^ j : Nat) : Int) := by generalize 2 ^ j = p at *; omega
  rw [e3]
  exact bits_or_u64_nat _ _ h h2
theorem ret_bool {a b : Bool} (h : a = b) : Ending.returned (.bool a) = .returned (.bool b) := by rw [h]

set_option maxHeartbeats 1000000 in
set_option maxRecDepth 100000 in
theorem has_any (f : UInt8 → Bool) (b : UInt8) (w : World) :
    Calls Tryz.prog 187 #[.agg (itC f), .int .u8 (b.toNat : Int)] w fun e w' => e = .returned (.bool (f b)) ∧ w' = w.alloc (.cells (itC f) 223) := by
  have hb : (b.toNat : Int) < 256 := by have := b.toNat_lt; omega
  have hg := itC_get f (k := b.toNat / 64) (by omega)
  have HX := hide (wd_has f b)
  have HL := hide (wd_lt f (b.toNat / 64))
  generalize wd f (b.toNat / 64) = x at *
  generalize itC f = C at *
  go_enter Tryz.func187, Tryz.ntmps187
  go_wp2
  go_ret
  exact ⟨ret_bool ((bit_has (unhide HL)).trans (unhide HX)), rfl⟩

/-- the first k cells turned -/
def mixC (f : UInt8 → Bool) (k : Nat) : Array Value := #[.int .u64 (if 0 < k then wd (fun b => !f b) 0 else wd f 0 : Nat), .int .u64 (if 1 < k then wd (fun b => !f b) 1 else wd f 1 : Nat), .int .u64 (if 2 < k then wd (fun b => !f b) 2 else wd f 2 : Nat), .int .u64 (if 3 < k then wd (fun b => !f b) 3 else wd f 3 : Nat)]
theorem mixC_start (f : UInt8 → Bool) : itC f = mixC f 0 := rfl
theorem mixC_end (f : UInt8 → Bool) : mixC f 4 = itC (fun b => !f b) := rfl
theorem mixC_get (f : UInt8 → Bool) {k : Nat} (h : k < 4) : (mixC f k)[k]? = some (.int .u64 (wd f k)) := by
  have : k = 0 ∨ k = 1 ∨ k = 2 ∨ k = 3 := by omega
  rcases this with rfl | rfl | rfl | rfl <;> rfl
theorem mixC_set (f : UInt8 → Bool) {k : Nat} (h : k < 4) : (mixC f k).setIfInBounds k (.int .u64 (wd (fun b => !f b) k)) = mixC f (k + 1) := by
  have : k = 0 ∨ k = 1 ∨ k = 2 ∨ k = 3 := by omega
  rcases this with rfl | rfl | rfl | rfl <;> rfl
def zeroI : Array Value := #[.int .u64 0, .int .u64 0, .int .u64 0, .int .u64 0]

set_option maxHeartbeats 1000000 in
set_option maxRecDepth 100000 in
theorem others_any (f : UInt8 → Bool) (w : World) :
    Calls Tryz.prog 184 #[.agg (itC f)] w fun e w' => e = .returned (.agg (itC (fun b => !f b))) ∧ w' = (w.alloc (.cells (itC (fun b => !f b)) 223)).alloc (.cells (itC (fun b => !f b)) 223) := by
  have HN := hide (fun k => bit_not f k)
  have HG := hide (fun k h => mixC_get f (k := k) h)
  have HS := hide (fun k h => mixC_set f (k := k) h)
  go_enter Tryz.func184, Tryz.ntmps184
  go_wp2
  go_loopw [4] (fun i wr => ∃ k : Nat, k ≤ 4 ∧ i = .int .i64 k ∧ wr = (w.alloc (.cells (mixC f k) 223)).alloc (.cells #[.int .u64 0, .int .u64 0, .int .u64 0, .int .u64 0] 223)) (fun i _ => 4 - (intOf i).toNat)
  case atStart => exact ⟨0, by omega, rfl, rfl⟩
  case round =>
    obtain ⟨k, hk, rfl, rfl⟩ := hrel
    by_cases hlt : k < 4
    · have hltz : (k : Int) < 4 := by omega
      have hg := unhide HG k hlt
      have hn := unhide HN k
      have HS2 := hide (unhide HS k hlt)
      generalize mixC f k = C at *
      generalize wd f k = x at *
      generalize wd (fun b => !f b) k = y at *
      go_wp2
      go_roundw
      case rel => exact ⟨k + 1, by omega, by go_num, by rw [← unhide HS2, ← hn]; rfl⟩
      case measure => simp [intOf]; omega
    · have hltz : ¬ (k : Int) < 4 := by omega
      have hC : mixC f k = #[.int .u64 (wd (fun b => !f b) 0), .int .u64 (wd (fun b => !f b) 1), .int .u64 (wd (fun b => !f b) 2), .int .u64 (wd (fun b => !f b) 3)] := by
        obtain rfl : k = 4 := by omega
        exact mixC_end f
      rw [hC]
      clear hC HN HG HS
      go_wp2
      exact bodyPost_ret (v := .agg (itC (fun b => !f b))) (by simp [results, Tryz.results184, go_sem, itC]) rfl ⟨rfl, rfl⟩

theorem take_snoc (s : ByteArray) (k : Nat) (h : k < s.size) : s.data.toList.take (k + 1) = s.data.toList.take k ++ [s[k]] := by
  rw [List.take_succ_eq_append_getElem (by simpa using h)]; rfl
theorem itC_put (f : UInt8 → Bool) (c : UInt8) : (itC f).setIfInBounds (c.toNat / 64) (.int .u64 ((wd f (c.toNat / 64) ||| 2 ^ (c.toNat % 64) : Nat) : Int)) = itC (fun b => f b || b == c) := by
  have hc := c.toNat_lt
  have hk : c.toNat / 64 < 4 := by omega
  have key : ∀ k, k < 4 → wd (fun b => f b || b == c) k = if k = c.toNat / 64 then wd f k ||| 2 ^ (c.toNat % 64) else wd f k := fun k h => wd_put f c k h
  generalize c.toNat / 64 = q at *
  generalize 2 ^ (c.toNat % 64) = p at *
  unfold itC
  rw [key 0 (by decide), key 1 (by decide), key 2 (by decide), key 3 (by decide)]
  have : q = 0 ∨ q = 1 ∨ q = 2 ∨ q = 3 := by omega
  rcases this with rfl | rfl | rfl | rfl <;> rfl
/-- the set of the bytes of a list -/
def setOf (l : List UInt8) : UInt8 → Bool := fun b => l.contains b
theorem setOf_snoc (l : List UInt8) (c : UInt8) : setOf (l ++ [c]) = fun b => setOf l b || b == c := by
  funext b
  unfold setOf
  rw [Bool.eq_iff_iff]
  simp
theorem itC_none : itC (setOf []) = #[.int .u64 0, .int .u64 0, .int .u64 0, .int .u64 0] := by
  have : setOf [] = fun _ => false := by funext b; simp [setOf]
  unfold itC
  rw [this]
  simp [wd_none]

set_option maxHeartbeats 1000000 in
set_option maxRecDepth 100000 in
theorem only_any (s : ByteArray) (w : World) (hs : s.size ≤ maxLen) :
    Calls Tryz.prog 183 #[.string s] w fun e w' => e = .returned (.agg (itC (setOf s.data.toList))) ∧ w' = (w.alloc (.cells (itC (setOf s.data.toList)) 223)).alloc (.cells (itC (setOf s.data.toList)) 223) := by
  unfold maxLen at hs
  go_enter Tryz.func183, Tryz.ntmps183
  go_wp2
  go_loopw [4] (fun i wr => ∃ k : Nat, k ≤ s.size ∧ i = .int .i64 k ∧ wr = (w.alloc (.cells #[.int .u64 0, .int .u64 0, .int .u64 0, .int .u64 0] 223)).alloc (.cells (itC (setOf (s.data.toList.take k))) 223)) (fun i _ => s.size - (intOf i).toNat)
  case atStart => exact ⟨0, by omega, rfl, by rw [List.take_zero, itC_none]⟩
  case round =>
    obtain ⟨k, hk, rfl, rfl⟩ := hrel
    by_cases hlt : k < s.size
    · have hg := itC_get (setOf (s.data.toList.take k)) (k := s[k].toNat / 64) (by have := s[k].toNat_lt; omega)
      have HP := hide (itC_put (setOf (s.data.toList.take k)) s[k])
      have HT := hide (congrArg setOf (take_snoc s k hlt))
      have HW := hide (wd_lt (setOf (s.data.toList.take k)) (s[k].toNat / 64))
      have hc : (s[k].toNat : Int) < 256 := by have := s[k].toNat_lt; omega
      generalize itC (setOf (s.data.toList.take k)) = C at *
      generalize wd (setOf (s.data.toList.take k)) (s[k].toNat / 64) = x at *
      go_wp2
      go_roundw
      case rel => exact ⟨k + 1, by omega, by go_num, by rw [bit_put (unhide HW) (Nat.mod_lt _ (by decide)), unhide HP, unhide HT, setOf_snoc]⟩
      case measure => simp [intOf]; omega
    · have hC : itC (setOf (s.data.toList.take k)) = #[.int .u64 (wd (setOf s.data.toList) 0), .int .u64 (wd (setOf s.data.toList) 1), .int .u64 (wd (setOf s.data.toList) 2), .int .u64 (wd (setOf s.data.toList) 3)] := by
        rw [List.take_of_length_le (by simp; omega)]
        rfl
      rw [hC]
      clear hC
      go_wp2
      exact bodyPost_ret (v := .agg (itC (setOf s.data.toList))) (by simp [results, Tryz.results183, go_sem, itC]) rfl ⟨rfl, rfl⟩
end Pt
end Go.Proofs.YtlajdmjpobckhaaGreatDoor
