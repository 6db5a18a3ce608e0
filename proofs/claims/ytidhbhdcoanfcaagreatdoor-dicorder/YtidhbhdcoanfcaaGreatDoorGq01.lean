import Derived.Test.YtidhbhdcoanfcaaGreatDoorChecked
import Derived.WalkSpells
import Derived.WalkLawsBesides
import Derived.BigQuiet
import Derived.Lib.Strings
namespace Go.Proofs.YtidhbhdcoanfcaaGreatDoor.Wd

def fit (b : UInt8) : Bool := decide (33 ≤ b.toNat) && decide (b.toNat ≠ 127)
def esc (b : UInt8) : Bool := (b.toNat == 92) || (b.toNat == 47) || (b.toNat == 35)
def str (l : List UInt8) : ByteArray := ⟨l.toArray⟩
theorem str_self (s : ByteArray) : str s.data.toList = s := rfl
theorem str_list (l : List UInt8) : (str l).data.toList = l := by simp [str]
theorem str_size (l : List UInt8) : (str l).size = l.length := by simp [str, ByteArray.size]
theorem str_inj {a b : List UInt8} : str a = str b ↔ a = b := by
 constructor
 ·intro h
  have := congrArg (fun s : ByteArray => s.data.toList) h
  simpa [str] using this
 ·rintro rfl; rfl
theorem drop_cons (s : ByteArray) (k : Nat) (h : k < s.size) : s.data.toList.drop k = s[k] :: s.data.toList.drop (k + 1) := by
 rw [List.drop_eq_getElem_cons (by simpa using h)]; rfl
theorem drop_end (s : ByteArray) (k : Nat) (h : s.size ≤ k) : s.data.toList.drop k = [] := List.drop_of_length_le (by simpa using h)
theorem extract_end (s : ByteArray) (k : Nat) : s.extract k s.size = str (s.data.toList.drop k) := by
 apply ByteArray.ext
 simp only [ByteArray.data_extract, str]
 apply Array.ext'
 simp
 have : s.size = s.data.toList.length := by simp
 rw [this, List.take_of_length_le (by simp)]
theorem byte_eq {a b : UInt8} (h : (a.toNat : Int) = b.toNat) : a = b := UInt8.toNat_inj.1 (by omega)

def rd : List UInt8 → List UInt8 → Option (List UInt8 × List UInt8 × Bool)
 | acc, [] => some (acc, [], false)
 | acc, [c] => if c.toNat = 47 then some (acc, [], true) else if c.toNat = 92 then none else some (acc ++ [c], [], false)
 | acc, c :: d :: u => if c.toNat = 47 then some (acc, d :: u, true) else if c.toNat = 92 then (if esc d then rd (acc ++ [d]) u else none) else rd (acc ++ [c]) (d :: u)

theorem rd_cut_l (acc : List UInt8) (c : UInt8) (t : List UInt8) (h : c.toNat = 47) : rd acc (c :: t) = some (acc, t, true) := by
 cases t <;> simp [rd, h]
theorem rd_plain_l (acc : List UInt8) (c : UInt8) (t : List UInt8) (h : c.toNat ≠ 47) (h2 : c.toNat ≠ 92) : rd acc (c :: t) = rd (acc ++ [c]) t := by
 cases t <;> simp [rd, h, h2]
theorem rd_esc_l (acc : List UInt8) (c d : UInt8) (t : List UInt8) (h : c.toNat = 92) (h2 : esc d = true) : rd acc (c :: d :: t) = rd (acc ++ [d]) t := by
 simp [rd, h, h2]
theorem rd_bad_l (acc : List UInt8) (c d : UInt8) (t : List UInt8) (h : c.toNat = 92) (h2 : esc d = false) : rd acc (c :: d :: t) = none := by
 simp [rd, h, h2]
theorem rd_last_l (acc : List UInt8) (c : UInt8) (h : c.toNat = 92) : rd acc [c] = none := by simp [rd, h]

variable (s : ByteArray) (acc : List UInt8) (k : Nat)
theorem rd_end (h : s.size ≤ k) : rd acc (s.data.toList.drop k) = some (acc, [], false) := by rw [drop_end s k h]; rfl
theorem rd_cut (h : k < s.size) (hc : s[k].toNat = 47) : rd acc (s.data.toList.drop k) = some (acc, s.data.toList.drop (k + 1), true) := by
 rw [drop_cons s k h, rd_cut_l _ _ _ hc]
theorem rd_plain (h : k < s.size) (hc : s[k].toNat ≠ 47) (hc2 : s[k].toNat ≠ 92) : rd acc (s.data.toList.drop k) = rd (acc ++ [s[k]]) (s.data.toList.drop (k + 1)) := by
 rw [drop_cons s k h, rd_plain_l _ _ _ hc hc2]
theorem rd_last (h : k < s.size) (hc : s[k].toNat = 92) (h1 : s.size ≤ k + 1) : rd acc (s.data.toList.drop k) = none := by
 rw [drop_cons s k h, drop_end s _ h1, rd_last_l _ _ hc]
theorem rd_bad (h : k < s.size) (hc : s[k].toNat = 92) (h1 : k + 1 < s.size) (he : esc s[k + 1] = false) : rd acc (s.data.toList.drop k) = none := by
 rw [drop_cons s k h, drop_cons s _ h1, rd_bad_l _ _ _ _ hc he]
theorem rd_esc (h : k < s.size) (hc : s[k].toNat = 92) (h1 : k + 1 < s.size) (he : esc s[k + 1] = true) : rd acc (s.data.toList.drop k) = rd (acc ++ [s[k + 1]]) (s.data.toList.drop (k + 2)) := by
 rw [drop_cons s k h, drop_cons s _ h1, rd_esc_l _ _ _ _ hc he]
theorem rd_start : rd [] (s.data.toList.drop 0) = rd [] s.data.toList := by rw [List.drop_zero]

def wt (l : List UInt8) : List UInt8 := l.flatMap fun c => if esc c then [92, c] else [c]
theorem wt_len (l : List UInt8) : (wt l).length ≤ 2 * l.length := by
 induction l with
 | nil => simp [wt]
 | cons c t ih =>
  have e : wt (c :: t) = (if esc c then [92, c] else [c]) ++ wt t := by simp [wt]
  rw [e, List.length_append, List.length_cons]
  split <;> simp only [List.length_cons, List.length_nil] <;> omega
theorem take_snoc (h : k < s.size) : s.data.toList.take (k + 1) = s.data.toList.take k ++ [s[k]] := by
 rw [List.take_succ_eq_append_getElem (by simpa using h)]; rfl
theorem take_full (h : s.size ≤ k) : s.data.toList.take k = s.data.toList := List.take_of_length_le (by simpa using h)
theorem esc_cases {c : UInt8} (h : esc c = true) : c.toNat = 92 ∨ c.toNat = 47 ∨ c.toNat = 35 := by simpa [esc, or_assoc] using h
theorem esc_none {c : UInt8} (h : esc c = false) : c.toNat ≠ 92 ∧ c.toNat ≠ 47 ∧ c.toNat ≠ 35 := by simpa [esc, and_assoc] using h

theorem back (w rest acc : List UInt8) : rd acc (wt w ++ rest) = rd (acc ++ w) rest := by
 induction w generalizing acc with
 | nil => simp [wt]
 | cons c t ih =>
  have e : wt (c :: t) = (if esc c then [92, c] else [c]) ++ wt t := by simp [wt]
  rw [e]
  cases he : esc c with
  | true =>
   simp only [if_true, List.cons_append, List.nil_append]
   rw [rd_esc_l _ _ _ _ (by decide) he, ih]; simp
  | false =>
   obtain ⟨h1, h2, h3⟩ := esc_none he
   simp only [Bool.false_eq_true, if_false, List.cons_append, List.nil_append]
   rw [rd_plain_l _ _ _ h2 h1, ih]; simp
theorem all_step (h : k < s.size) (h0 : (s.data.toList.take k).all fit = true) (h1 : fit s[k] = true) : (s.data.toList.take (k + 1)).all fit = true := by
 rw [take_snoc s k h, List.all_append, h0]; simp [h1]
theorem all_bad (h : k < s.size) (h1 : fit s[k] = false) : s.data.toList.all fit = false := by
 rw [List.all_eq_false]
 exact ⟨s[k], by rw [ByteArray.getElem_eq_getElem_data]; simp, by simp [h1]⟩
theorem fit_of {c : UInt8} (h1 : 32 < (c.toNat : Int)) (h2 : (c.toNat : Int) ≠ 127) : fit c = true := by simp [fit]; omega
theorem unfit_lo {c : UInt8} (h1 : (c.toNat : Int) ≤ 32) : fit c = false := by simp [fit]; omega
theorem unfit_del {c : UInt8} (h1 : (c.toNat : Int) = 127) : fit c = false := by simp [fit]; omega

def uq : List UInt8 → List UInt8 → List UInt8
 | acc, [] => acc
 | acc, c :: t => if acc.contains c then uq acc t else uq (acc ++ [c]) t
theorem uq_again (h : k < s.size) (hc : acc.contains s[k] = true) : uq acc (s.data.toList.drop k) = uq acc (s.data.toList.drop (k + 1)) := by
 rw [drop_cons s k h]; simp only [uq, hc, if_true]
theorem uq_new (h : k < s.size) (hc : acc.contains s[k] = false) : uq acc (s.data.toList.drop k) = uq (acc ++ [s[k]]) (s.data.toList.drop (k + 1)) := by
 rw [drop_cons s k h]; simp only [uq, hc]; rfl
theorem uq_end (h : s.size ≤ k) : uq acc (s.data.toList.drop k) = acc := by rw [drop_end s k h]; rfl
end Go.Proofs.YtidhbhdcoanfcaaGreatDoor.Wd
namespace Go.Proofs.YtidhbhdcoanfcaaGreatDoor
open Go.RowKit
namespace VlW

theorem hide {p : Prop} (h : p) : Hid p := h
theorem unhide {p : Prop} (h : Hid p) : p := h

set_option maxHeartbeats 400000 in
theorem is_any (b : UInt8) (w : World) : Calls Tryz.prog 151 #[.int .u8 (b.toNat : Int)] w fun e w' => e = .returned (.bool (Wd.fit b)) ∧ w' = w := by
 by_cases h1 : 32 < (b.toNat : Int)
 ·by_cases h2 : (b.toNat : Int) = 127
  ·rw [Wd.unfit_del h2]
   have e2 : ((b.toNat : Int) != 127) = false := by rw [h2]; rfl
   clear h2
   go_enter Tryz.func151, Tryz.ntmps151
   go_wp2
   go_ret
   exact ⟨rfl, rfl⟩
  ·rw [Wd.fit_of h1 h2]
   have e2 : ((b.toNat : Int) != 127) = true := by rw [bne_iff_ne]; exact h2
   clear h2
   go_enter Tryz.func151, Tryz.ntmps151
   go_wp2
   go_ret
   exact ⟨rfl, rfl⟩
 ·rw [Wd.unfit_lo (by omega)]
  go_enter Tryz.func151, Tryz.ntmps151
  go_wp2
  go_ret
  exact ⟨rfl, rfl⟩

theorem retb {a b : Bool} (h : a = b) : Ending.returned (.bool a) = .returned (.bool b) := by rw [h]
def okB (l : List UInt8) : Bool := !l.isEmpty && l.all Wd.fit
theorem okB_bad {l : List UInt8} (h : l.all Wd.fit = false) : okB l = false := by unfold okB; rw [h, Bool.and_false]
theorem okB_all {s : ByteArray} (h : s.data.toList.all Wd.fit = true) : okB s.data.toList = !s.toList.isEmpty := by unfold okB; rw [h, Bool.and_true, Lib.toList_data]

set_option maxHeartbeats 1000000 in
theorem all_any (s : ByteArray) (w : World) (hs : s.size ≤ maxLen) :
  Calls Tryz.prog 129 #[.string s] w fun e w' => e = .returned (.bool (okB s.data.toList)) ∧ w' = w := by
 unfold maxLen at hs
 go_enter Tryz.func129, Tryz.ntmps129
 go_wp2
 go_loop [3] (fun i => ∃ k : Nat, k ≤ s.size ∧ i = .int .i64 k ∧ Hid ((s.data.toList.take k).all Wd.fit = true)) (fun i => s.size - (intOf i).toNat)
 case atStart => exact ⟨0, Nat.zero_le _, rfl, rfl⟩
 case round =>
  obtain ⟨k, hk, rfl, HD⟩ := hrel
  by_cases hlt : k < s.size
  ·cases hf : Wd.fit s[k] with
   | true =>
    have HS := hide (Wd.all_step s k hlt (unhide HD) hf)
    have HN := hide (fun W => is_any s[k] W)
    rw [hf] at HN
    clear hf
    go_wp2_with (go_at_call 151; refine (unhide HN _).mono ?_; rintro e W1 ⟨rfl, rfl⟩)
    go_round
    case rel => exact ⟨k + 1, by omega, by go_num, HS⟩
    case measure => simp [intOf]; omega
   | false =>
    have HS := hide (okB_bad (Wd.all_bad s k hlt hf))
    have HN := hide (fun W => is_any s[k] W)
    rw [hf] at HN
    clear hf
    go_wp2_with (go_at_call 151; refine (unhide HN _).mono ?_; rintro e W1 ⟨rfl, rfl⟩)
    go_ret
    exact ⟨retb (unhide HS).symm, rfl⟩
  ·have HA : Hid (s.data.toList.all Wd.fit = true) := by rw [Hid, ← Wd.take_full s k (by omega)]; exact unhide HD
   clear HD
   have HE := hide (okB_all (unhide HA))
   go_wp2
   go_ret
   exact ⟨retb (unhide HE).symm, rfl⟩

def isW (s : ByteArray) : Bool := decide (s.size ≤ 64) && okB s.data.toList
end VlW
namespace Bts

theorem hide {p : Prop} (h : p) : Hid p := h
theorem unhide {p : Prop} (h : Hid p) : p := h
def bytes (l : List UInt8) : List Value := l.map fun b => Value.int .u8 (b.toNat : Int)
theorem bytes_snoc (l : List UInt8) (c : UInt8) : bytes (l ++ [c]) = bytes l ++ [.int .u8 (c.toNat : Int)] := by simp [bytes]
theorem info5 : (Tryz.prog.info? 5).map (fun i => (i.zero, i.size, i.bytes)) = some (some (.int .u8 0), 1, 1) := by kernel_rfl
theorem below_push {w wr w1 : World} {e : TypeId} {v : Value} {n : Nat} {xs : List Value} {o : Obj} (hown : wr.ownsRow w.heap.size e 1 v n xs) (hB : Below w.heap.size w wr) (hg : (wr.alloc o).grownBy w1 v.ownBlock) : Below w.heap.size w w1 :=
 (hB.alloc hB.size o).grown hg (by have := hB.size; simp; omega) (fun k e => (hown.lt k e).1)
theorem add_zero_off (g j : Nat) : (⟨g, 0, none⟩ : Addr).add j = ⟨g, j, none⟩ := by
 unfold Addr.add
 split
 ·rename_i h; subst h; rfl
 ·simp
theorem owns_cells {w : World} {B : Nat} {v : Value} {L : List UInt8} (h : w.ownsRow B 5 1 v L.length (bytes L)) (h0 : 0 < L.length) :
  ∃ g cap, v = .slice (some ⟨g, 0, none⟩) L.length cap ∧ g < w.heap.size ∧ ∀ j x, L[j]? = some x → w.cell? ⟨g, j, none⟩ = some (.int .u8 (x.toNat : Int)) := by
 have hc := h
 obtain ⟨hl, ⟨rfl, h1⟩ | ⟨g, cap, cur, rfl, hg, hh, hc1, hm, hsz, htk⟩⟩ := h
 ·omega
 ·refine ⟨g, cap, rfl, (Array.getElem?_eq_some_iff.1 hh).1, fun j x hj => ?_⟩
  have := hc.cells (g := g) rfl j (.int .u8 (x.toNat : Int)) (by simp [bytes, hj])
  rwa [add_zero_off] at this
theorem conv_owns {w : World} {B : Nat} {v : Value} {L : List UInt8} (h : w.ownsRow B 5 1 v L.length (bytes L)) :
  (convert 104 9 v).run Tryz.prog w = .ok (.string (Wd.str L)) w := by
 by_cases h0 : 0 < L.length
 ·obtain ⟨g, cap, rfl, _, hcell⟩ := owns_cells h h0
  exact run_convert_bytes_back w 104 9 5 ⟨g, 0, none⟩ cap L Tryz.underlying104 Tryz.underlying5 Tryz.underlying9 (fun j hj => by rw [add_zero_off]; exact hcell j _ (List.getElem?_eq_getElem hj))
 ·have : L = [] := List.eq_nil_of_length_eq_zero (by omega)
  subst this
  obtain ⟨hl, ⟨rfl, h1⟩ | ⟨g, cap, cur, rfl, hg, hh, hc1, hm, hsz, htk⟩⟩ := h
  ·exact run_convert_bytes_nil w 104 5 Tryz.underlying104 Tryz.underlying5 0 0 9 Tryz.underlying9
  ·exact run_convert_bytes_back w 104 9 5 ⟨g, 0, none⟩ cap [] Tryz.underlying104 Tryz.underlying5 Tryz.underlying9 (fun j hj => absurd hj (by simp))
end Bts
end Go.Proofs.YtidhbhdcoanfcaaGreatDoor
