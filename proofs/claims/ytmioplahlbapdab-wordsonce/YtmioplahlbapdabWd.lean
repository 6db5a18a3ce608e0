/- Plain mathematics of words: no program is named here. -/
namespace Go.Proofs.Ytmioplahlbapdab.Wd

def fit (b : UInt8) : Bool := decide (33 ≤ b.toNat) && decide (b.toNat ≠ 127)
def esc (b : UInt8) : Bool := (b.toNat == 92) || (b.toNat == 47) || (b.toNat == 35)
def str (l : List UInt8) : ByteArray := ⟨l.toArray⟩
theorem str_self (s : ByteArray) : str s.data.toList = s := rfl
theorem str_list (l : List UInt8) : (str l).data.toList = l := by simp [str]
theorem str_size (l : List UInt8) : (str l).size = l.length := by simp [str, ByteArray.size]
theorem str_inj {a b : List UInt8} : str a = str b ↔ a = b := by
  constructor
  · intro h
    have := congrArg (fun s : ByteArray => s.data.toList) h
    simpa [str] using this
  · rintro rfl; rfl
theorem drop_cons (s : ByteArray) (k : Nat) (h : k < s.size) : s.data.toList.drop k = s[k] :: s.data.toList.drop (k + 1) := by
  rw [List.drop_eq_getElem_cons (by simpa using h)]; rfl
theorem drop_end (s : ByteArray) (k : Nat) (h : s.size ≤ k) : s.data.toList.drop k = [] := List.drop_of_length_le (by simpa using h)
theorem extract_end (s : ByteArray) (k : Nat) : s.extract k s.size = str (s.data.toList.drop k) := by
  apply ByteArray.ext
  simp only [ByteArray.data_extract, str]
  apply Array.ext'
  simp
  have : s.size = s.data.toList.length := by simp
  rw [this, List.take_of_length_le (by simp)]
theorem byte_eq {a b : UInt8} (h : (a.toNat : Int) = b.toNat) : a = b := UInt8.toNat_inj.1 (by omega)

/-- reading from the left; none: a backslash with a wrong byte behind it, or none -/
def rd : List UInt8 → List UInt8 → Option (List UInt8 × List UInt8 × Bool)
  | acc, [] => some (acc, [], false)
  | acc, [c] => if c.toNat = 47 then some (acc, [], true) else if c.toNat = 92 then none else some (acc ++ [c], [], false)
  | acc, c :: d :: u => if c.toNat = 47 then some (acc, d :: u, true) else if c.toNat = 92 then (if esc d then rd (acc ++ [d]) u else none) else rd (acc ++ [c]) (d :: u)

theorem rd_cut_l (acc : List UInt8) (c : UInt8) (t : List UInt8) (h : c.toNat = 47) : rd acc (c :: t) = some (acc, t, true) := by
  cases t <;> simp [rd, h]
theorem rd_plain_l (acc : List UInt8) (c : UInt8) (t : List UInt8) (h : c.toNat ≠ 47) (h2 : c.toNat ≠ 92) : rd acc (c :: t) = rd (acc ++ [c]) t := by
  cases t <;> simp [rd, h, h2]
theorem rd_esc_l (acc : List UInt8) (c d : UInt8) (t : List UInt8) (h : c.toNat = 92) (h2 : esc d = true) : rd acc (c :: d :: t) = rd (acc ++ [d]) t := by
  simp [rd, h, h2]
theorem rd_bad_l (acc : List UInt8) (c d : UInt8) (t : List UInt8) (h : c.toNat = 92) (h2 : esc d = false) : rd acc (c :: d :: t) = none := by
  simp [rd, h, h2]
theorem rd_last_l (acc : List UInt8) (c : UInt8) (h : c.toNat = 92) : rd acc [c] = none := by simp [rd, h]

variable (s : ByteArray) (acc : List UInt8) (k : Nat)
theorem rd_end (h : s.size ≤ k) : rd acc (s.data.toList.drop k) = some (acc, [], false) := by rw [drop_end s k h]; rfl
theorem rd_cut (h : k < s.size) (hc : s[k].toNat = 47) : rd acc (s.data.toList.drop k) = some (acc, s.data.toList.drop (k + 1), true) := by
  rw [drop_cons s k h, rd_cut_l _ _ _ hc]
theorem rd_plain (h : k < s.size) (hc : s[k].toNat ≠ 47) (hc2 : s[k].toNat ≠ 92) : rd acc (s.data.toList.drop k) = rd (acc ++ [s[k]]) (s.data.toList.drop (k + 1)) := by
  rw [drop_cons s k h, rd_plain_l _ _ _ hc hc2]
theorem rd_last (h : k < s.size) (hc : s[k].toNat = 92) (h1 : s.size ≤ k + 1) : rd acc (s.data.toList.drop k) = none := by
  rw [drop_cons s k h, drop_end s _ h1, rd_last_l _ _ hc]
theorem rd_bad (h : k < s.size) (hc : s[k].toNat = 92) (h1 : k + 1 < s.size) (he : esc s[k + 1] = false) : rd acc (s.data.toList.drop k) = none := by
  rw [drop_cons s k h, drop_cons s _ h1, rd_bad_l _ _ _ _ hc he]
theorem rd_esc (h : k < s.size) (hc : s[k].toNat = 92) (h1 : k + 1 < s.size) (he : esc s[k + 1] = true) : rd acc (s.data.toList.drop k) = rd (acc ++ [s[k + 1]]) (s.data.toList.drop (k + 2)) := by
  rw [drop_cons s k h, drop_cons s _ h1, rd_esc_l _ _ _ _ hc he]
theorem rd_start : rd [] (s.data.toList.drop 0) = rd [] s.data.toList := by rw [List.drop_zero]

/-- how many bytes both begin with -/
def cm : List UInt8 → List UInt8 → Nat
  | a :: x, b :: y => if a = b then cm x y + 1 else 0
  | _, _ => 0
theorem cm_nil (x : List UInt8) : cm x [] = 0 := by cases x <;> rfl
theorem cm_step (a b : ByteArray) (k : Nat) (h1 : k < a.size) (h2 : k < b.size) (h : a[k] = b[k]) : cm (a.data.toList.drop k) (b.data.toList.drop k) = cm (a.data.toList.drop (k + 1)) (b.data.toList.drop (k + 1)) + 1 := by
  rw [drop_cons a k h1, drop_cons b k h2]; simp [cm, h]
theorem cm_part (a b : ByteArray) (k : Nat) (h1 : k < a.size) (h2 : k < b.size) (h : a[k] ≠ b[k]) : cm (a.data.toList.drop k) (b.data.toList.drop k) = 0 := by
  rw [drop_cons a k h1, drop_cons b k h2]; simp [cm, h]
theorem cm_end1 (a b : ByteArray) (k : Nat) (h1 : a.size ≤ k) : cm (a.data.toList.drop k) (b.data.toList.drop k) = 0 := by
  rw [drop_end a k h1]; rfl
theorem cm_end2 (a b : ByteArray) (k : Nat) (h1 : b.size ≤ k) : cm (a.data.toList.drop k) (b.data.toList.drop k) = 0 := by
  rw [drop_end b k h1]; exact cm_nil _

/-- a backslash where one is needed -/
def wt (l : List UInt8) : List UInt8 := l.flatMap fun c => if esc c then [92, c] else [c]
theorem wt_snoc (l : List UInt8) (c : UInt8) : wt (l ++ [c]) = wt l ++ (if esc c then [92, c] else [c]) := by simp [wt, List.flatMap_append]
theorem wt_len (l : List UInt8) : (wt l).length ≤ 2 * l.length := by
  induction l with
  | nil => simp [wt]
  | cons c t ih =>
    have e : wt (c :: t) = (if esc c then [92, c] else [c]) ++ wt t := by simp [wt]
    rw [e, List.length_append, List.length_cons]
    split <;> simp only [List.length_cons, List.length_nil] <;> omega
theorem take_snoc (h : k < s.size) : s.data.toList.take (k + 1) = s.data.toList.take k ++ [s[k]] := by
  rw [List.take_succ_eq_append_getElem (by simpa using h)]; rfl
theorem take_full (h : s.size ≤ k) : s.data.toList.take k = s.data.toList := List.take_of_length_le (by simpa using h)
theorem take_len (h : k ≤ s.size) : (s.data.toList.take k).length = k := by simp; omega
theorem wt_esc (h : k < s.size) (he : esc s[k] = true) : wt (s.data.toList.take (k + 1)) = wt (s.data.toList.take k) ++ [92] ++ [s[k]] := by
  rw [take_snoc s k h, wt_snoc, if_pos he, List.append_assoc]; rfl
theorem wt_plain (h : k < s.size) (he : esc s[k] = false) : wt (s.data.toList.take (k + 1)) = wt (s.data.toList.take k) ++ [s[k]] := by
  rw [take_snoc s k h, wt_snoc, if_neg (by simp [he])]
theorem esc_cases {c : UInt8} (h : esc c = true) : c.toNat = 92 ∨ c.toNat = 47 ∨ c.toNat = 35 := by simpa [esc, or_assoc] using h
theorem esc_none {c : UInt8} (h : esc c = false) : c.toNat ≠ 92 ∧ c.toNat ≠ 47 ∧ c.toNat ≠ 35 := by simpa [esc, and_assoc] using h

/-- what is written is read back -/
theorem back (w rest acc : List UInt8) : rd acc (wt w ++ rest) = rd (acc ++ w) rest := by
  induction w generalizing acc with
  | nil => simp [wt]
  | cons c t ih =>
    have e : wt (c :: t) = (if esc c then [92, c] else [c]) ++ wt t := by simp [wt]
    rw [e]
    cases he : esc c with
    | true =>
      simp only [if_true, List.cons_append, List.nil_append]
      rw [rd_esc_l _ _ _ _ (by decide) he, ih]; simp
    | false =>
      obtain ⟨h1, h2, h3⟩ := esc_none he
      simp only [Bool.false_eq_true, if_false, List.cons_append, List.nil_append]
      rw [rd_plain_l _ _ _ h2 h1, ih]; simp
theorem back_slash (w rest : List UInt8) : rd [] (wt w ++ 47 :: rest) = some (w, rest, true) := by
  rw [back, rd_cut_l _ _ _ (by decide)]; simp
theorem back_whole (w : List UInt8) : rd [] (wt w) = some (w, [], false) := by
  have := back w [] []
  simpa [rd] using this

/-- all are word bytes -/
theorem all_step (h : k < s.size) (h0 : (s.data.toList.take k).all fit = true) (h1 : fit s[k] = true) : (s.data.toList.take (k + 1)).all fit = true := by
  rw [take_snoc s k h, List.all_append, h0]; simp [h1]
theorem all_bad (h : k < s.size) (h1 : fit s[k] = false) : s.data.toList.all fit = false := by
  rw [List.all_eq_false]
  exact ⟨s[k], by rw [ByteArray.getElem_eq_getElem_data]; simp, by simp [h1]⟩
theorem fit_of {c : UInt8} (h1 : 32 < (c.toNat : Int)) (h2 : (c.toNat : Int) ≠ 127) : fit c = true := by simp [fit]; omega
theorem unfit_lo {c : UInt8} (h1 : (c.toNat : Int) ≤ 32) : fit c = false := by simp [fit]; omega
theorem unfit_del {c : UInt8} (h1 : (c.toNat : Int) = 127) : fit c = false := by simp [fit]; omega

/-- each once -/
def uq : List UInt8 → List UInt8 → List UInt8
  | acc, [] => acc
  | acc, c :: t => if acc.contains c then uq acc t else uq (acc ++ [c]) t
theorem uq_again (h : k < s.size) (hc : acc.contains s[k] = true) : uq acc (s.data.toList.drop k) = uq acc (s.data.toList.drop (k + 1)) := by
  rw [drop_cons s k h]; simp only [uq, hc, if_true]
theorem uq_new (h : k < s.size) (hc : acc.contains s[k] = false) : uq acc (s.data.toList.drop k) = uq (acc ++ [s[k]]) (s.data.toList.drop (k + 1)) := by
  rw [drop_cons s k h]; simp only [uq, hc]; rfl
theorem uq_end (h : s.size ≤ k) : uq acc (s.data.toList.drop k) = acc := by rw [drop_end s k h]; rfl
end Go.Proofs.Ytmioplahlbapdab.Wd
