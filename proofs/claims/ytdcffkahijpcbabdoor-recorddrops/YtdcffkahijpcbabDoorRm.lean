/- Layer 5, the plain part: what a store is, and the map that keeps its runs as a rising list. No walk. -/
import Derived.Test.YtdcffkahijpcbabDoorChecked
import Derived.WalkKit
import Derived.Maps.RangeWalk
import Derived.Maps.AppendAt
namespace Go.Proofs.YtdcffkahijpcbabDoor
open Go.RowKit
namespace Rs

def Hid (p : Prop) : Prop := p
theorem hide {p : Prop} (h : p) : Hid p := h
theorem unhide {p : Prop} (h : Hid p) : p := h

structure Run where
  num : Nat
  txt : List UInt8
  shut : Bool
def tot : List Run → Nat
  | [] => 0
  | r :: t => r.txt.length + tot t
structure Sto where
  cap : Nat
  runs : List Run
  made : Nat
  peak : Nat
  ahead : Nat
structure Sto.Ok (m : Sto) : Prop where
  cap : m.cap ≤ 67108864
  made : m.made ≤ 16777216
  used : tot m.runs ≤ m.cap
  peak : tot m.runs ≤ m.peak
  peakle : m.peak ≤ m.cap
  ahead : m.ahead ≤ 9223372036854775807
  sorted : m.runs.Pairwise fun a b => a.num < b.num
  nums : ∀ r ∈ m.runs, 1 ≤ r.num ∧ r.num ≤ m.made

theorem tot_app (a b : List Run) : tot (a ++ b) = tot a + tot b := by
  induction a with
  | nil => simp [tot]
  | cons x t ih => simp [tot, ih]; omega
theorem tot_mem {l : List Run} {r : Run} (h : r ∈ l) : r.txt.length ≤ tot l := by
  induction l with
  | nil => cases h
  | cons x t ih =>
    simp only [tot]
    rcases List.mem_cons.1 h with rfl | h
    · omega
    · have := ih h; omega
/-- the run of that number -/
def look (l : List Run) (k : Int) : Option Run := l.find? fun r => (r.num : Int) == k
theorem look_mem {l : List Run} {k : Int} {r : Run} (h : look l k = some r) : r ∈ l ∧ (r.num : Int) = k := by
  unfold look at h
  exact ⟨List.mem_of_find?_eq_some h, by simpa using List.find?_some h⟩
theorem look_of {l : List Run} (hs : l.Pairwise fun a b => a.num < b.num) {r : Run} (h : r ∈ l) : look l r.num = some r := by
  unfold look
  induction l with
  | nil => cases h
  | cons x t ih =>
    obtain ⟨h1, h2⟩ := List.pairwise_cons.1 hs
    rcases List.mem_cons.1 h with rfl | h
    · simp
    · have := h1 r h
      rw [List.find?_cons_of_neg (by simp; omega)]
      exact ih h2 h
theorem look_none {l : List Run} {k : Int} (h : look l k = none) : ∀ r ∈ l, (r.num : Int) ≠ k := by
  unfold look at h
  intro r hr
  have := List.find?_eq_none.1 h r hr
  simpa using this
/-- another run in the place of the one of its number -/
def repl (l : List Run) (r : Run) : List Run := l.map fun x => if x.num = r.num then r else x
/-- without the run of that number -/
def drop (l : List Run) (k : Int) : List Run := l.filter fun r => !((r.num : Int) == k)
theorem repl_nums (l : List Run) (r : Run) : (repl l r).map (·.num) = l.map (·.num) := by
  unfold repl
  rw [List.map_map]
  apply List.map_congr_left
  intro x _
  simp only [Function.comp]
  split
  · next h => exact h.symm
  · rfl
theorem pair_nums {l : List Run} : (l.Pairwise fun a b => a.num < b.num) ↔ (l.map (·.num)).Pairwise (· < ·) := by
  rw [List.pairwise_map]
theorem repl_sorted {l : List Run} (r : Run) (h : l.Pairwise fun a b => a.num < b.num) : (repl l r).Pairwise fun a b => a.num < b.num := by
  rw [pair_nums, repl_nums, ← pair_nums]; exact h
theorem repl_mem {l : List Run} {r x : Run} (h : x ∈ repl l r) : (x = r ∧ ∃ y ∈ l, y.num = r.num) ∨ (x ∈ l ∧ x.num ≠ r.num) := by
  unfold repl at h
  obtain ⟨y, hy, rfl⟩ := List.mem_map.1 h
  split
  · next h => exact .inl ⟨rfl, y, hy, h⟩
  · next h => exact .inr ⟨hy, h⟩
theorem repl_none {t : List Run} {r : Run} (hn : ∀ b ∈ t, r.num < b.num) : repl t r = t := by
  unfold repl
  conv => rhs; rw [← List.map_id t]
  apply List.map_congr_left
  intro b hb
  have := hn b hb
  rw [if_neg (by omega)]
  rfl
theorem tot_repl {l : List Run} (hs : l.Pairwise fun a b => a.num < b.num) {r0 r : Run} (h : r0 ∈ l) (hn : r.num = r0.num) : tot (repl l r) + r0.txt.length = tot l + r.txt.length := by
  induction l with
  | nil => cases h
  | cons x t ih =>
    obtain ⟨h1, h2⟩ := List.pairwise_cons.1 hs
    rcases List.mem_cons.1 h with rfl | h
    · have e : repl t r = t := repl_none fun b hb => by have := h1 b hb; omega
      have e2 : repl (r0 :: t) r = r :: repl t r := by simp [repl, hn]
      rw [e2, e]
      simp only [tot]
      omega
    · have := h1 r0 h
      have e2 : repl (x :: t) r = x :: repl t r := by simp [repl]; intro e; omega
      rw [e2]
      simp only [tot]
      have := ih h2 h
      omega
theorem tot_drop {l : List Run} (hs : l.Pairwise fun a b => a.num < b.num) {r : Run} (h : r ∈ l) : tot (drop l r.num) + r.txt.length = tot l := by
  induction l with
  | nil => cases h
  | cons x t ih =>
    obtain ⟨h1, h2⟩ := List.pairwise_cons.1 hs
    rcases List.mem_cons.1 h with rfl | h
    · have e : drop t r.num = t := by
        unfold drop
        rw [List.filter_eq_self]
        intro b hb
        have := h1 b hb
        simp; omega
      have e2 : drop (r :: t) r.num = drop t r.num := by simp [drop]
      rw [e2, e]
      simp only [tot]
      omega
    · have := h1 r h
      have e2 : drop (x :: t) r.num = x :: drop t r.num := by simp [drop, List.filter_cons]; intro e; omega
      rw [e2]
      simp only [tot]
      have := ih h2 h
      omega
theorem drop_sorted {l : List Run} (k : Int) (h : l.Pairwise fun a b => a.num < b.num) : (drop l k).Pairwise fun a b => a.num < b.num := h.filter _
theorem drop_mem {l : List Run} {k : Int} {x : Run} (h : x ∈ drop l k) : x ∈ l ∧ (x.num : Int) ≠ k := by
  have := List.mem_filter.1 h
  exact ⟨this.1, by simpa using this.2⟩

/-! the map as a list -/
abbrev DV := DataW Value
/-- an element reads as itself -/
def Rh (v : Value) : Option (DV × List MemPlace) := some (.held v, [])
def ent (f : Nat → Value) (r : Run) : Lit × DV := (.int .i64 r.num, .held (f r.num))
def upd (f : Nat → Value) (n : Nat) (v : Value) (j : Nat) : Value := if j = n then v else f j
theorem upd_same (f : Nat → Value) (n : Nat) (v : Value) : upd f n v n = v := if_pos rfl
theorem upd_ne (f : Nat → Value) {n j : Nat} (v : Value) (h : j ≠ n) : upd f n v j = f j := if_neg h
def dat (f : Nat → Value) (l : List Run) : DV := .map (l.map (ent f))
theorem same_key (a : Nat) (k : Int) : (Lit.int .i64 (a : Int)).sameKey (.int .i64 k) = ((a : Int) == k) := by
  simp [Lit.sameKey]
  rfl
theorem dat_has (f : Nat → Value) (l : List Run) (k : Int) : Maps.has (dat f l) (.int .i64 k) = (look l k).isSome := by
  unfold dat look
  rw [Maps.has_eq, List.any_map, Bool.eq_iff_iff, List.any_eq_true, List.find?_isSome]
  simp [ent, same_key]
theorem dat_at (f : Nat → Value) {l : List Run} {k : Int} {r : Run} (h : look l k = some r) (z : DV) : (dat f l).atKey (.int .i64 k) z = .held (f r.num) := by
  unfold look at h
  have e : (l.map (ent f)).find? (fun p => p.1.sameKey (.int .i64 k)) = some (ent f r) := by
    rw [List.find?_map]
    have e2 : ((fun p : Lit × DV => p.1.sameKey (.int .i64 k)) ∘ ent f) = fun r : Run => ((r.num : Int) == k) := by
      funext x
      exact same_key x.num k
    rw [e2, h]
    rfl
  unfold dat DataW.atKey
  simp only [e]
  rfl
theorem insert_last (x : Lit × DV) (l : List (Lit × DV)) (h : ∀ y ∈ l, x.1.before y.1 = false) : DataW.insert x l = l ++ [x] := by
  induction l with
  | nil => rfl
  | cons y t ih =>
    unfold DataW.insert
    rw [h y (by simp), if_neg (by simp), ih fun z hz => h z (by simp [hz])]
    rfl
theorem dat_new (f : Nat → Value) {l : List Run} {n : Nat} (h : ∀ r ∈ l, r.num < n) (v : Value) :
    (dat f l).put (.int .i64 (n : Int)) (.held v) = dat (upd f n v) (l ++ [⟨n, [], false⟩]) := by
  have e1 : (l.map (ent f)).filter (fun p => !p.1.sameKey (.int .i64 (n : Int))) = l.map (ent (upd f n v)) := by
    rw [List.filter_eq_self.2]
    · apply List.map_congr_left
      intro r hr
      have := h r hr
      unfold ent
      rw [upd_ne _ _ (Nat.ne_of_lt this)]
    · intro p hp
      obtain ⟨r, hr, rfl⟩ := List.mem_map.1 hp
      have := h r hr
      show (!(Lit.int .i64 (r.num : Int)).sameKey (.int .i64 (n : Int))) = true
      rw [same_key]
      simp; omega
  unfold dat DataW.put
  simp only [e1]
  rw [insert_last _ _ fun y hy => by
    obtain ⟨r, hr, rfl⟩ := List.mem_map.1 hy
    have := h r hr
    simp [ent, Lit.before]; omega]
  simp [ent, upd_same]
theorem insert_mid (x : Lit × DV) : ∀ (a b : List (Lit × DV)), (∀ y ∈ a, x.1.before y.1 = false) → (∀ y ∈ b, x.1.before y.1 = true) → DataW.insert x (a ++ b) = a ++ x :: b
  | [], b, _, h2 => by
    cases b with
    | nil => rfl
    | cons y t => show DataW.insert x (y :: t) = _; unfold DataW.insert; rw [h2 y (by simp)]; simp
  | y :: a, b, h1, h2 => by
    show DataW.insert x (y :: (a ++ b)) = _
    unfold DataW.insert
    rw [h1 y (by simp), if_neg (by simp), insert_mid x a b (fun z hz => h1 z (by simp [hz])) h2]
    rfl
theorem split_at {l : List Run} (hs : l.Pairwise fun a b => a.num < b.num) {r : Run} (h : r ∈ l) : ∃ a b, l = a ++ r :: b ∧ (∀ x ∈ a, x.num < r.num) ∧ ∀ x ∈ b, r.num < x.num := by
  obtain ⟨a, b, rfl⟩ := List.append_of_mem h
  rw [List.pairwise_append] at hs
  obtain ⟨_, h2, h3⟩ := hs
  exact ⟨a, b, rfl, fun x hx => h3 x hx r (by simp), fun x hx => (List.pairwise_cons.1 h2).1 x hx⟩
theorem dat_put (f : Nat → Value) {l : List Run} (hs : l.Pairwise fun a b => a.num < b.num) {r0 r : Run} (h : r0 ∈ l) (hn : r.num = r0.num) (v : Value) :
    (dat f l).put (.int .i64 (r0.num : Int)) (.held v) = dat (upd f r0.num v) (repl l r) := by
  obtain ⟨a, b, rfl, h1, h2⟩ := split_at hs h
  have ka : ∀ x ∈ a, (!(ent f x).1.sameKey (.int .i64 (r0.num : Int))) = true := fun x hx => by
    have := h1 x hx
    show (!(Lit.int .i64 (x.num : Int)).sameKey (.int .i64 (r0.num : Int))) = true
    rw [same_key]; simp; omega
  have kb : ∀ x ∈ b, (!(ent f x).1.sameKey (.int .i64 (r0.num : Int))) = true := fun x hx => by
    have := h2 x hx
    show (!(Lit.int .i64 (x.num : Int)).sameKey (.int .i64 (r0.num : Int))) = true
    rw [same_key]; simp; omega
  have kr : (!(ent f r0).1.sameKey (.int .i64 (r0.num : Int))) = false := by
    show (!(Lit.int .i64 (r0.num : Int)).sameKey (.int .i64 (r0.num : Int))) = false
    rw [same_key]; simp
  have e1 : ((a ++ r0 :: b).map (ent f)).filter (fun p => !p.1.sameKey (.int .i64 (r0.num : Int))) = a.map (ent f) ++ b.map (ent f) := by
    rw [List.map_append, List.map_cons, List.filter_append, List.filter_cons, kr]
    rw [List.filter_eq_self.2, List.filter_eq_self.2]
    · simp
    · intro p hp
      obtain ⟨x, hx, rfl⟩ := List.mem_map.1 hp
      exact kb x hx
    · intro p hp
      obtain ⟨x, hx, rfl⟩ := List.mem_map.1 hp
      exact ka x hx
  have e2 : repl (a ++ r0 :: b) r = a ++ r :: b := by
    have hb : repl b r = b := repl_none fun x hx => by have := h2 x hx; omega
    have ha : repl a r = a := by
      unfold repl
      conv => rhs; rw [← List.map_id a]
      apply List.map_congr_left
      intro x hx
      have := h1 x hx
      rw [if_neg (by omega)]
      rfl
    unfold repl at ha hb ⊢
    rw [List.map_append, List.map_cons, ha, hb, if_pos hn.symm]
  unfold dat DataW.put
  simp only [e1, e2]
  rw [insert_mid]
  · rw [List.map_append, List.map_cons]
    have ea : a.map (ent f) = a.map (ent (upd f r0.num v)) := List.map_congr_left fun x hx => by
      have := h1 x hx
      unfold ent; rw [upd_ne _ _ (Nat.ne_of_lt this)]
    have eb : b.map (ent f) = b.map (ent (upd f r0.num v)) := List.map_congr_left fun x hx => by
      have := h2 x hx
      unfold ent; rw [upd_ne _ _ (Nat.ne_of_gt this)]
    rw [ea, eb]
    congr 3
    unfold ent
    rw [hn, upd_same]
  · intro y hy
    obtain ⟨x, hx, rfl⟩ := List.mem_map.1 hy
    have := h1 x hx
    simp [ent, Lit.before]; omega
  · intro y hy
    obtain ⟨x, hx, rfl⟩ := List.mem_map.1 hy
    have := h2 x hx
    simp [ent, Lit.before]; omega
theorem dat_del (f : Nat → Value) (l : List Run) (k : Int) : (dat f l).del (.int .i64 k) = dat f (drop l k) := by
  unfold dat DataW.del drop
  simp only [List.filter_map]
  congr 3
  funext x
  show (!(Lit.int .i64 (x.num : Int)).sameKey (.int .i64 k)) = _
  rw [same_key]
theorem dat_size (f : Nat → Value) (l : List Run) : Maps.size (dat f l) = l.length := by simp [dat, Maps.size]
end Rs
end Go.Proofs.YtdcffkahijpcbabDoor
