/- Contracts: a pattern's Starts and Ends. -/
import Derived.Test.YtlajdmjpobckhaaGreatDoorGd11
namespace Go.Proofs.YtlajdmjpobckhaaGreatDoor
open Go.RowKit
namespace Pt
open Cd

/-- as many cells as a pattern has -/
def Sz65 (X : Array Value) : Prop := X.size = 65
def ldP (v : Value) : Sem Value := Instr.loadAt 226 v
theorem load_as (v : Value) : Instr.loadAt 226 v = ldP v := rfl
theorem ldP_row {w : World} {g : Nat} {X : Array Value} (hg : w.heap[g]? = some (.cells X 226 (0, 0))) (h : Sz65 X) : (ldP (.pointer (some ⟨g, 0, none⟩))).run Tryz.prog w = .ok (.agg X) w := by
  have hl := run_loadVar_row (P := Tryz.prog) w g 226 226 X (0, 0) _ hg Tryz.underlying226 rfl (by rw [show X.size = 65 from h]; exact infoP)
  simp only [ldP, Instr.loadAt, Instr.sureAddr, Sem.run_bind, Sem.run_pure, Result.andThen_ok, hl]
theorem ldP_new (W : World) (X : Array Value) (h : Sz65 X) : (ldP (.pointer (some ⟨W.heap.size, 0, none⟩))).run Tryz.prog (W.alloc (.cells X 226)) = .ok (.agg X) (W.alloc (.cells X 226)) := ldP_row (heap_alloc_last W _) h
theorem ldP_drew (W : World) (X : Array Value) (h : Sz65 X) : (ldP (.pointer (some ⟨W.heap.size, 0, none⟩))).run Tryz.prog ((W.alloc (.cells X 226)).drew) = .ok (.agg X) ((W.alloc (.cells X 226)).drew) := ldP_row (heap_alloc_last W _) h
attribute [local go_sem ↓] load_as
attribute [local go_sem] ldP_new ldP_drew
/-- does w begin with bytes that the items admit? -/
def startsB (fs : List (UInt8 → Bool)) (l : List UInt8) : Bool := decide (fs.length ≤ l.length) && each fs (l.take fs.length)
def endsB (fs : List (UInt8 → Bool)) (l : List UInt8) : Bool := decide (fs.length ≤ l.length) && each fs (l.drop (l.length - fs.length))

end Pt
end Go.Proofs.YtlajdmjpobckhaaGreatDoor
/- Contract: a pattern's Ends, at a text that is long enough. -/
namespace Go.Proofs.YtlajdmjpobckhaaGreatDoor
open Go.RowKit
namespace Pt
open Cd
attribute [local go_sem ↓] load_as
attribute [local go_sem] ldP_new ldP_drew

end Pt
end Go.Proofs.YtlajdmjpobckhaaGreatDoor
/- Contracts: the document's Read: its closing, and the pieces. -/
namespace Go.Proofs.YtlajdmjpobckhaaGreatDoor
open Go.RowKit
namespace Pt
open Cd

/-- where the next closing bracket stands -/
def clo (l : List UInt8) (i : Nat) : Int := if 93 ∈ l.drop i then ((i + ((l.drop i).takeWhile (· != 93)).length : Nat) : Int) else -1
theorem drop_cons (s : ByteArray) (k : Nat) (h : k < s.size) : s.data.toList.drop k = s[k] :: s.data.toList.drop (k + 1) := by
  rw [List.drop_eq_getElem_cons (by simpa using h)]; rfl
theorem clo_hit (s : ByteArray) (k : Nat) (h : k < s.size) (hc : s[k] = 93) : clo s.data.toList k = (k : Int) := by
  unfold clo
  rw [drop_cons s k h, hc]
  simp
theorem clo_miss (s : ByteArray) (k : Nat) (h : k < s.size) (hc : s[k] ≠ 93) : clo s.data.toList k = clo s.data.toList (k + 1) := by
  unfold clo
  rw [drop_cons s k h]
  have h1 : (s[k] != 93) = true := by simpa using hc
  have h2 : ¬ 93 = s[k] := fun e => hc e.symm
  rw [List.takeWhile_cons, if_pos h1]
  by_cases h3 : 93 ∈ s.data.toList.drop (k + 1)
  · rw [if_pos (by simp [h3]), if_pos h3, List.length_cons]
    congr 1
    omega
  · rw [if_neg (by simp [h3, h2]), if_neg h3]
theorem clo_end (s : ByteArray) (k : Nat) (h : s.size ≤ k) : clo s.data.toList k = -1 := by
  unfold clo
  rw [List.drop_of_length_le (by simpa using h)]
  simp
theorem byte_z {a : UInt8} {n : Nat} (h : a.toNat = n) : ((a.toNat : Int) == (n : Int)) = true := by simp [h]
theorem ret_int {a b : Int} (h : a = b) : Ending.returned (.int .i64 a) = .returned (.int .i64 b) := by rw [h]

end Pt
end Go.Proofs.YtlajdmjpobckhaaGreatDoor
/- Contract: the document's Read. -/
namespace Go.Proofs.YtlajdmjpobckhaaGreatDoor
open Go.RowKit
namespace Pt
open Cd

def txt (P : List (List UInt8)) : List Value := P.map fun p => Value.string (str p)
theorem txt_snoc (P : List (List UInt8)) (p : List UInt8) : txt P ++ [.string (str p)] = txt (P ++ [p]) := by simp [txt]
/-- where the piece at i ends, and that it is one -/
theorem piece_plain (s : ByteArray) (i : Nat) (h : i < s.size) (hc : s[i] ≠ 91) : cut1 (s.data.toList.drop i) = some ([s[i]], s.data.toList.drop (i + 1)) ∧ s.extract i (i + 1) = str [s[i]] := by
  rw [extract_str, drop_cons s i h]
  refine ⟨by simp [cut1, hc], ?_⟩
  rw [show i + 1 - i = 1 by omega]
  simp
theorem tw_drop {r : List UInt8} (h : 93 ∈ r) : ∃ m rest, m = (r.takeWhile (· != 93)).length ∧ m < r.length ∧ r.dropWhile (· != 93) = 93 :: rest ∧ rest = r.drop (m + 1) ∧ r.take (m + 1) = r.takeWhile (· != 93) ++ [93] := by
  obtain ⟨rest, hr⟩ := dw_some h
  obtain ⟨h1, h2, h3⟩ := tw_facts h
  refine ⟨_, rest, rfl, h1, hr, by rw [h3, hr]; rfl, ?_⟩
  have e := List.takeWhile_append_dropWhile (p := fun x : UInt8 => x != 93) (l := r)
  rw [hr] at e
  have e2 : r = (r.takeWhile (· != 93) ++ [93]) ++ rest := by rw [List.append_assoc]; exact e.symm
  have e3 : (r.takeWhile (· != 93) ++ [93]).length = (r.takeWhile (· != 93)).length + 1 := by simp
  rw [← e3]
  generalize r.takeWhile (· != 93) ++ [93] = q at *
  rw [e2]
  simp
/-- a bracket at i: the place of its end; what is asked of it -/
theorem piece_brack (s : ByteArray) (i : Nat) (h : i < s.size) (hc : s[i] = 91) :
    (clo s.data.toList i = -1 ∧ cut1 (s.data.toList.drop i) = none) ∨
    ∃ k : Nat, clo s.data.toList i = (k : Int) ∧ i < k ∧ k < s.size ∧
      ((k = i + 1 ∧ cut1 (s.data.toList.drop i) = none) ∨
       (k = i + 2 ∧ (∃ h1 : i + 1 < s.size, s[i + 1] = 94) ∧ cut1 (s.data.toList.drop i) = none) ∨
       (k ≠ i + 1 ∧ (k = i + 2 → ∃ h1 : i + 1 < s.size, s[i + 1] ≠ 94) ∧ ∃ p, cut1 (s.data.toList.drop i) = some (p, s.data.toList.drop (k + 1)) ∧ s.extract i (k + 1) = str p)) := by
  have hl : s.data.toList.length = s.size := by simp
  rw [drop_cons s i h, hc]
  unfold clo
  rw [drop_cons s i h, hc]
  by_cases h93 : 93 ∈ s.data.toList.drop (i + 1)
  · right
    obtain ⟨m, rest, hm, hml, hr, hrest, htk⟩ := tw_drop h93
    rw [List.length_drop, hl] at hml
    have hd1 : rest = s.data.toList.drop (i + 1 + m + 1) := by rw [hrest, List.drop_drop]; congr 1
    refine ⟨i + 1 + m, ?_, by omega, by omega, ?_⟩
    · rw [if_pos (by simp [h93]), List.takeWhile_cons, if_pos (by decide), List.length_cons, ← hm]
      congr 1
      omega
    · have hex : s.extract i (i + 1 + m + 1) = str (91 :: ((s.data.toList.drop (i + 1)).takeWhile (· != 93) ++ [93])) := by
        rw [extract_str, drop_cons s i h, hc, show i + 1 + m + 1 - i = m + 1 + 1 by omega, List.take_succ_cons, htk]
      cases htw : (s.data.toList.drop (i + 1)).takeWhile (· != 93) with
      | nil =>
        left
        rw [htw] at hm
        exact ⟨by simp at hm; omega, by simp [cut1, htw, hr]⟩
      | cons d q =>
        rw [htw] at hm hex
        have hi1 : i + 1 < s.size := by omega
        have hd : s[i + 1] = d := by
          have e := drop_cons s (i + 1) hi1
          rw [e, List.takeWhile_cons] at htw
          split at htw
          · exact (List.cons.inj htw).1
          · cases htw
        by_cases hq : q = [] ∧ d = 94
        · obtain ⟨rfl, rfl⟩ := hq
          right; left
          exact ⟨by simp at hm; omega, ⟨hi1, hd⟩, by simp [cut1, htw, hr]⟩
        · right; right
          refine ⟨by simp at hm; omega, fun e => ⟨hi1, fun e2 => hq ⟨?_, by rw [← hd, e2]⟩⟩, _, ?_, hex⟩
          · apply List.eq_nil_of_length_eq_zero
            simp at hm
            omega
          · have hn : ¬ (d = 94 ∧ q = []) := fun e => hq ⟨e.2, e.1⟩
            simp [cut1, htw, hr, hn, hd1]
  · left
    refine ⟨by rw [if_neg (by simp [h93])], by simp [cut1, dw_none h93]⟩
theorem rd_none {l : List UInt8} (h : l = [] ∨ 512 < l.length) : rd l = ([], 40) := by unfold rd; rw [if_pos h]
theorem rd_bad {l : List UInt8} (h0 : l ≠ []) (h1 : l.length ≤ 512) (h2 : l ≠ [46]) (h : pcs l = none) : rd l = ([], 41) := by
  unfold rd; rw [if_neg (fun e => e.elim h0 (fun e => by omega)), if_neg h2, h]
theorem rd_many {l : List UInt8} {P : List (List UInt8)} (h0 : l ≠ []) (h1 : l.length ≤ 512) (h2 : l ≠ [46]) (h : pcs l = some P) (h3 : 16 < P.length) : rd l = ([], 42) := by
  unfold rd; rw [if_neg (fun e => e.elim h0 (fun e => by omega)), if_neg h2, h]; simp only; rw [if_pos h3]
theorem rd_few {l : List UInt8} {P : List (List UInt8)} (h0 : l ≠ []) (h1 : l.length ≤ 512) (h2 : l ≠ [46]) (h : pcs l = some P) (h3 : P.length ≤ 16) : rd l = (P, 0) := by
  unfold rd; rw [if_neg (fun e => e.elim h0 (fun e => by omega)), if_neg h2, h]; simp only; rw [if_neg (by omega)]
theorem ret_ref {v : Value} {a b : Int} (h : a = b) : Ending.returned (.tuple #[v, .int .i64 a]) = .returned (.tuple #[v, .int .i64 b]) := by rw [h]

end Pt
end Go.Proofs.YtlajdmjpobckhaaGreatDoor
/- Contract: the document's Read: the loop over the pieces. -/
namespace Go.Proofs.YtlajdmjpobckhaaGreatDoor
open Go.RowKit
namespace Pt
open Cd

theorem ref_push {w wr w1 : World} {e size : Nat} {v : Value} {n : Nat} {xs : List Value} {o : Obj} (hown : wr.ownsRow w.heap.size e size v n xs) (hB : Below w.heap.size w wr) (hg : (wr.alloc o).grownBy w1 v.ownBlock) : Below w.heap.size w w1 :=
  (hB.alloc hB.size o).grown hg (by have := hB.size; simp; omega) (fun k e => (hown.lt k e).1)
theorem one_new (W : World) (u : Value) (t : TypeId) : ∀ j x, [u][j]? = some x → (W.alloc (.cells #[u] t)).cell? ((⟨W.heap.size, 0, none⟩ : Addr).add j) = some x := new_cells W #[u] t

end Pt
end Go.Proofs.YtlajdmjpobckhaaGreatDoor
/- Contracts: the document's Read, listed, Admits. -/
namespace Go.Proofs.YtlajdmjpobckhaaGreatDoor
open Go.RowKit
namespace Pt
open Cd

theorem con_step (s : ByteArray) (k : Nat) (b : UInt8) (h : k < s.size) : (s.data.toList.drop k).contains b = ((s[k] == b) || (s.data.toList.drop (k + 1)).contains b) := by
  rw [drop_cons s k h, Bool.eq_iff_iff, con_iff, List.mem_cons, Bool.or_eq_true, beq_iff_eq, con_iff]
  exact ⟨fun e => e.imp Eq.symm id, fun e => e.imp Eq.symm id⟩
theorem con_end (s : ByteArray) (k : Nat) (b : UInt8) (h : s.size ≤ k) : (s.data.toList.drop k).contains b = false := by
  rw [List.drop_of_length_le (by simpa using h)]
  rfl

theorem ext_mid (p q r : List UInt8) : (str (p ++ q ++ r)).extract p.length ((str (p ++ q ++ r)).size - r.length) = str q := by
  rw [extract_str, str_list, str_size, List.append_assoc, List.drop_left]
  congr 1
  have : (p ++ (q ++ r)).length - r.length - p.length = q.length := by simp; omega
  rw [this, List.take_left]
/-- a piece of a text that is read -/
def Pcs (p : List UInt8) : Prop := Pc p ∧ p.length ≤ 512
theorem flat_mem {P : List (List UInt8)} {p : List UInt8} (h : p ∈ P) : p.length ≤ P.flatten.length := by
  induction P with
  | nil => simp at h
  | cons q t ih =>
    rw [List.flatten_cons, List.length_append]
    rcases List.mem_cons.1 h with rfl | h
    · omega
    · have := ih h; omega
theorem rd_pcs (l : List UInt8) : ∀ p ∈ (rd l).1, Pcs p := by
  intro p hp
  refine ⟨rd_pc l p hp, ?_⟩
  rcases rd_cases l with e | ⟨_, h2, _, h4, _, _⟩
  · rw [e] at hp; simp at hp
  · have := flat_mem hp
    rw [(pcs_pcs h4).2] at this
    omega
/-- pieces in memory -/
def TextsAt (W : World) (v : Value) (P : List (List UInt8)) : Prop :=
  (v = .slice none 0 0 ∧ P = []) ∨ ∃ g cap, v = .slice (some ⟨g, 0, none⟩) P.length cap ∧ g < W.heap.size ∧ ∀ j p, P[j]? = some p → W.cell? ⟨g, j, none⟩ = some (.string (str p))
theorem TextsAt.below {W W' : World} {v : Value} {P : List (List UInt8)} (h : TextsAt W v P) (hb : Below W.heap.size W W') : TextsAt W' v P := by
  rcases h with h | ⟨g, cap, h1, h2, h3⟩
  · exact .inl h
  · exact .inr ⟨g, cap, h1, Nat.lt_of_lt_of_le h2 hb.size, fun j u hu => (hb.cell (p := ⟨g, j, none⟩) h2).trans (h3 j u hu)⟩
end Pt
end Go.Proofs.YtlajdmjpobckhaaGreatDoor
