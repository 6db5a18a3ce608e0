/- Layer 5, the plain part: what a store is, and the map that keeps its runs as a rising list. No walk. -/
import Derived.Test.YtohfhkdhccpoaaaGreatDoorChecked
import Derived.WalkKit
import Derived.Maps.RangeWalk
import Derived.Maps.AppendAt
import Derived.Deep.AppendSrc
import Derived.Lib.OwnKind
import Derived.Stop.IfaceNil
import Derived.LaidEql
import Derived.BigRegion
namespace Go.Proofs.YtohfhkdhccpoaaaGreatDoor
open Go.RowKit
namespace Rs

def Hid (p : Prop) : Prop := p
theorem hide {p : Prop} (h : p) : Hid p := h
theorem unhide {p : Prop} (h : Hid p) : p := h

structure Run where
  num : Nat
  txt : List UInt8
  shut : Bool
def tot : List Run → Nat
  | [] => 0
  | r :: t => r.txt.length + tot t
structure Sto where
  cap : Nat
  runs : List Run
  made : Nat
  peak : Nat
  ahead : Nat
structure Sto.Ok (m : Sto) : Prop where
  cap : m.cap ≤ 67108864
  made : m.made ≤ 16777216
  used : tot m.runs ≤ m.cap
  peak : tot m.runs ≤ m.peak
  peakle : m.peak ≤ m.cap
  ahead : m.ahead ≤ 9223372036854775807
  sorted : m.runs.Pairwise fun a b => a.num < b.num
  nums : ∀ r ∈ m.runs, 1 ≤ r.num ∧ r.num ≤ m.made

theorem tot_app (a b : List Run) : tot (a ++ b) = tot a + tot b := by
  induction a with
  | nil => simp [tot]
  | cons x t ih => simp [tot, ih]; omega
theorem tot_mem {l : List Run} {r : Run} (h : r ∈ l) : r.txt.length ≤ tot l := by
  induction l with
  | nil => cases h
  | cons x t ih =>
    simp only [tot]
    rcases List.mem_cons.1 h with rfl | h
    · omega
    · have := ih h; omega
/-- the run of that number -/
def look (l : List Run) (k : Int) : Option Run := l.find? fun r => (r.num : Int) == k
theorem look_mem {l : List Run} {k : Int} {r : Run} (h : look l k = some r) : r ∈ l ∧ (r.num : Int) = k := by
  unfold look at h
  exact ⟨List.mem_of_find?_eq_some h, by simpa using List.find?_some h⟩
theorem look_of {l : List Run} (hs : l.Pairwise fun a b => a.num < b.num) {r : Run} (h : r ∈ l) : look l r.num = some r := by
  unfold look
  induction l with
  | nil => cases h
  | cons x t ih =>
    obtain ⟨h1, h2⟩ := List.pairwise_cons.1 hs
    rcases List.mem_cons.1 h with rfl | h
    · simp
    · have := h1 r h
      rw [List.find?_cons_of_neg (by simp; omega)]
      exact ih h2 h
theorem look_none {l : List Run} {k : Int} (h : look l k = none) : ∀ r ∈ l, (r.num : Int) ≠ k := by
  unfold look at h
  intro r hr
  have := List.find?_eq_none.1 h r hr
  simpa using this
/-- another run in the place of the one of its number -/
def repl (l : List Run) (r : Run) : List Run := l.map fun x => if x.num = r.num then r else x
/-- without the run of that number -/
def drop (l : List Run) (k : Int) : List Run := l.filter fun r => !((r.num : Int) == k)
theorem repl_nums (l : List Run) (r : Run) : (repl l r).map (·.num) = l.map (·.num) := by
  unfold repl
  rw [List.map_map]
  apply List.map_congr_left
  intro x _
  simp only [Function.comp]
  split
  · next h => exact h.symm
  · rfl
theorem pair_nums {l : List Run} : (l.Pairwise fun a b => a.num < b.num) ↔ (l.map (·.num)).Pairwise (· < ·) := by
  rw [List.pairwise_map]
theorem repl_sorted {l : List Run} (r : Run) (h : l.Pairwise fun a b => a.num < b.num) : (repl l r).Pairwise fun a b => a.num < b.num := by
  rw [pair_nums, repl_nums, ← pair_nums]; exact h
theorem repl_mem {l : List Run} {r x : Run} (h : x ∈ repl l r) : (x = r ∧ ∃ y ∈ l, y.num = r.num) ∨ (x ∈ l ∧ x.num ≠ r.num) := by
  unfold repl at h
  obtain ⟨y, hy, rfl⟩ := List.mem_map.1 h
  split
  · next h => exact .inl ⟨rfl, y, hy, h⟩
  · next h => exact .inr ⟨hy, h⟩
theorem repl_none {t : List Run} {r : Run} (hn : ∀ b ∈ t, r.num < b.num) : repl t r = t := by
  unfold repl
  conv => rhs; rw [← List.map_id t]
  apply List.map_congr_left
  intro b hb
  have := hn b hb
  rw [if_neg (by omega)]
  rfl
theorem tot_repl {l : List Run} (hs : l.Pairwise fun a b => a.num < b.num) {r0 r : Run} (h : r0 ∈ l) (hn : r.num = r0.num) : tot (repl l r) + r0.txt.length = tot l + r.txt.length := by
  induction l with
  | nil => cases h
  | cons x t ih =>
    obtain ⟨h1, h2⟩ := List.pairwise_cons.1 hs
    rcases List.mem_cons.1 h with rfl | h
    · have e : repl t r = t := repl_none fun b hb => by have := h1 b hb; omega
      have e2 : repl (r0 :: t) r = r :: repl t r := by simp [repl, hn]
      rw [e2, e]
      simp only [tot]
      omega
    · have := h1 r0 h
      have e2 : repl (x :: t) r = x :: repl t r := by simp [repl]; intro e; omega
      rw [e2]
      simp only [tot]
      have := ih h2 h
      omega
theorem tot_drop {l : List Run} (hs : l.Pairwise fun a b => a.num < b.num) {r : Run} (h : r ∈ l) : tot (drop l r.num) + r.txt.length = tot l := by
  induction l with
  | nil => cases h
  | cons x t ih =>
    obtain ⟨h1, h2⟩ := List.pairwise_cons.1 hs
    rcases List.mem_cons.1 h with rfl | h
    · have e : drop t r.num = t := by
        unfold drop
        rw [List.filter_eq_self]
        intro b hb
        have := h1 b hb
        simp; omega
      have e2 : drop (r :: t) r.num = drop t r.num := by simp [drop]
      rw [e2, e]
      simp only [tot]
      omega
    · have := h1 r h
      have e2 : drop (x :: t) r.num = x :: drop t r.num := by simp [drop, List.filter_cons]; intro e; omega
      rw [e2]
      simp only [tot]
      have := ih h2 h
      omega
theorem drop_sorted {l : List Run} (k : Int) (h : l.Pairwise fun a b => a.num < b.num) : (drop l k).Pairwise fun a b => a.num < b.num := h.filter _
theorem drop_mem {l : List Run} {k : Int} {x : Run} (h : x ∈ drop l k) : x ∈ l ∧ (x.num : Int) ≠ k := by
  have := List.mem_filter.1 h
  exact ⟨this.1, by simpa using this.2⟩

/-! the map as a list -/
abbrev DV := DataW Value
/-- an element reads as itself -/
def Rh (v : Value) : Option (DV × List MemPlace) := some (.held v, [])
def ent (f : Nat → Value) (r : Run) : Lit × DV := (.int .i64 r.num, .held (f r.num))
def upd (f : Nat → Value) (n : Nat) (v : Value) (j : Nat) : Value := if j = n then v else f j
theorem upd_same (f : Nat → Value) (n : Nat) (v : Value) : upd f n v n = v := if_pos rfl
theorem upd_ne (f : Nat → Value) {n j : Nat} (v : Value) (h : j ≠ n) : upd f n v j = f j := if_neg h
def dat (f : Nat → Value) (l : List Run) : DV := .map (l.map (ent f))
theorem same_key (a : Nat) (k : Int) : (Lit.int .i64 (a : Int)).sameKey (.int .i64 k) = ((a : Int) == k) := by
  simp [Lit.sameKey]
  rfl
theorem dat_has (f : Nat → Value) (l : List Run) (k : Int) : Maps.has (dat f l) (.int .i64 k) = (look l k).isSome := by
  unfold dat look
  rw [Maps.has_eq, List.any_map, Bool.eq_iff_iff, List.any_eq_true, List.find?_isSome]
  simp [ent, same_key]
theorem dat_at (f : Nat → Value) {l : List Run} {k : Int} {r : Run} (h : look l k = some r) (z : DV) : (dat f l).atKey (.int .i64 k) z = .held (f r.num) := by
  unfold look at h
  have e : (l.map (ent f)).find? (fun p => p.1.sameKey (.int .i64 k)) = some (ent f r) := by
    rw [List.find?_map]
    have e2 : ((fun p : Lit × DV => p.1.sameKey (.int .i64 k)) ∘ ent f) = fun r : Run => ((r.num : Int) == k) := by
      funext x
      exact same_key x.num k
    rw [e2, h]
    rfl
  unfold dat DataW.atKey
  simp only [e]
  rfl
theorem insert_last (x : Lit × DV) (l : List (Lit × DV)) (h : ∀ y ∈ l, x.1.before y.1 = false) : DataW.insert x l = l ++ [x] := by
  induction l with
  | nil => rfl
  | cons y t ih =>
    unfold DataW.insert
    rw [h y (by simp), if_neg (by simp), ih fun z hz => h z (by simp [hz])]
    rfl
theorem dat_new (f : Nat → Value) {l : List Run} {n : Nat} (h : ∀ r ∈ l, r.num < n) (v : Value) :
    (dat f l).put (.int .i64 (n : Int)) (.held v) = dat (upd f n v) (l ++ [⟨n, [], false⟩]) := by
  have e1 : (l.map (ent f)).filter (fun p => !p.1.sameKey (.int .i64 (n : Int))) = l.map (ent (upd f n v)) := by
    rw [List.filter_eq_self.2]
    · apply List.map_congr_left
      intro r hr
      have := h r hr
      unfold ent
      rw [upd_ne _ _ (Nat.ne_of_lt this)]
    · intro p hp
      obtain ⟨r, hr, rfl⟩ := List.mem_map.1 hp
      have := h r hr
      show (!(Lit.int .i64 (r.num : Int)).sameKey (.int .i64 (n : Int))) = true
      rw [same_key]
      simp; omega
  unfold dat DataW.put
  simp only [e1]
  rw [insert_last _ _ fun y hy => by
    obtain ⟨r, hr, rfl⟩ := List.mem_map.1 hy
    have := h r hr
    simp [ent, Lit.before]; omega]
  simp [ent, upd_same]
theorem insert_mid (x : Lit × DV) : ∀ (a b : List (Lit × DV)), (∀ y ∈ a, x.1.before y.1 = false) → (∀ y ∈ b, x.1.before y.1 = true) → DataW.insert x (a ++ b) = a ++ x :: b
  | [], b, _, h2 => by
    cases b with
    | nil => rfl
    | cons y t => show DataW.insert x (y :: t) = _; unfold DataW.insert; rw [h2 y (by simp)]; simp
  | y :: a, b, h1, h2 => by
    show DataW.insert x (y :: (a ++ b)) = _
    unfold DataW.insert
    rw [h1 y (by simp), if_neg (by simp), insert_mid x a b (fun z hz => h1 z (by simp [hz])) h2]
    rfl
theorem split_at {l : List Run} (hs : l.Pairwise fun a b => a.num < b.num) {r : Run} (h : r ∈ l) : ∃ a b, l = a ++ r :: b ∧ (∀ x ∈ a, x.num < r.num) ∧ ∀ x ∈ b, r.num < x.num := by
  obtain ⟨a, b, rfl⟩ := List.append_of_mem h
  rw [List.pairwise_append] at hs
  obtain ⟨_, h2, h3⟩ := hs
  exact ⟨a, b, rfl, fun x hx => h3 x hx r (by simp), fun x hx => (List.pairwise_cons.1 h2).1 x hx⟩
theorem dat_put (f : Nat → Value) {l : List Run} (hs : l.Pairwise fun a b => a.num < b.num) {r0 r : Run} (h : r0 ∈ l) (hn : r.num = r0.num) (v : Value) :
    (dat f l).put (.int .i64 (r0.num : Int)) (.held v) = dat (upd f r0.num v) (repl l r) := by
  obtain ⟨a, b, rfl, h1, h2⟩ := split_at hs h
  have ka : ∀ x ∈ a, (!(ent f x).1.sameKey (.int .i64 (r0.num : Int))) = true := fun x hx => by
    have := h1 x hx
    show (!(Lit.int .i64 (x.num : Int)).sameKey (.int .i64 (r0.num : Int))) = true
    rw [same_key]; simp; omega
  have kb : ∀ x ∈ b, (!(ent f x).1.sameKey (.int .i64 (r0.num : Int))) = true := fun x hx => by
    have := h2 x hx
    show (!(Lit.int .i64 (x.num : Int)).sameKey (.int .i64 (r0.num : Int))) = true
    rw [same_key]; simp; omega
  have kr : (!(ent f r0).1.sameKey (.int .i64 (r0.num : Int))) = false := by
    show (!(Lit.int .i64 (r0.num : Int)).sameKey (.int .i64 (r0.num : Int))) = false
    rw [same_key]; simp
  have e1 : ((a ++ r0 :: b).map (ent f)).filter (fun p => !p.1.sameKey (.int .i64 (r0.num : Int))) = a.map (ent f) ++ b.map (ent f) := by
    rw [List.map_append, List.map_cons, List.filter_append, List.filter_cons, kr]
    rw [List.filter_eq_self.2, List.filter_eq_self.2]
    · simp
    · intro p hp
      obtain ⟨x, hx, rfl⟩ := List.mem_map.1 hp
      exact kb x hx
    · intro p hp
      obtain ⟨x, hx, rfl⟩ := List.mem_map.1 hp
      exact ka x hx
  have e2 : repl (a ++ r0 :: b) r = a ++ r :: b := by
    have hb : repl b r = b := repl_none fun x hx => by have := h2 x hx; omega
    have ha : repl a r = a := by
      unfold repl
      conv => rhs; rw [← List.map_id a]
      apply List.map_congr_left
      intro x hx
      have := h1 x hx
      rw [if_neg (by omega)]
      rfl
    unfold repl at ha hb ⊢
    rw [List.map_append, List.map_cons, ha, hb, if_pos hn.symm]
  unfold dat DataW.put
  simp only [e1, e2]
  rw [insert_mid]
  · rw [List.map_append, List.map_cons]
    have ea : a.map (ent f) = a.map (ent (upd f r0.num v)) := List.map_congr_left fun x hx => by
      have := h1 x hx
      unfold ent; rw [upd_ne _ _ (Nat.ne_of_lt this)]
    have eb : b.map (ent f) = b.map (ent (upd f r0.num v)) := List.map_congr_left fun x hx => by
      have := h2 x hx
      unfold ent; rw [upd_ne _ _ (Nat.ne_of_gt this)]
    rw [ea, eb]
    congr 3
    unfold ent
    rw [hn, upd_same]
  · intro y hy
    obtain ⟨x, hx, rfl⟩ := List.mem_map.1 hy
    have := h1 x hx
    simp [ent, Lit.before]; omega
  · intro y hy
    obtain ⟨x, hx, rfl⟩ := List.mem_map.1 hy
    have := h2 x hx
    simp [ent, Lit.before]; omega
theorem dat_del (f : Nat → Value) (l : List Run) (k : Int) : (dat f l).del (.int .i64 k) = dat f (drop l k) := by
  unfold dat DataW.del drop
  simp only [List.filter_map]
  congr 3
  funext x
  show (!(Lit.int .i64 (x.num : Int)).sameKey (.int .i64 k)) = _
  rw [same_key]
theorem dat_size (f : Nat → Value) (l : List Run) : Maps.size (dat f l) = l.length := by simp [dat, Maps.size]
end Rs
end Go.Proofs.YtohfhkdhccpoaaaGreatDoor
/- Layer 5, what lies in memory: a store with its runs; what a call may turn; a text's bytes behind a row. No walk. -/
namespace Go.Proofs.YtohfhkdhccpoaaaGreatDoor
open Go.RowKit
namespace Rs

/-- all is as it was but for blocks of F and new ones -/
structure Chg (F : Nat → Prop) (w w' : World) : Prop where
  os : w'.os = w.os
  tape : w'.tape = w.tape
  output : w'.output = w.output
  size : w.heap.size ≤ w'.heap.size
  block : ∀ k, k < w.heap.size → ¬ F k → w'.heap[k]? = w.heap[k]?
/-- F, and what is new -/
def Up (F : Nat → Prop) (w w' : World) (b : Nat) : Prop := F b ∨ (w.heap.size ≤ b ∧ b < w'.heap.size)
theorem Chg.refl (F : Nat → Prop) (w : World) : Chg F w w := ⟨rfl, rfl, rfl, Nat.le_refl _, fun _ _ _ => rfl⟩
theorem Chg.trans {F : Nat → Prop} {a b c : World} (h : Chg F a b) (k : Chg (Up F a b) b c) : Chg F a c :=
  ⟨k.os.trans h.os, k.tape.trans h.tape, k.output.trans h.output, Nat.le_trans h.size k.size, fun i hi hn =>
    (k.block i (Nat.lt_of_lt_of_le hi h.size) (fun e => e.elim hn (fun e => by omega))).trans (h.block i hi hn)⟩
theorem Chg.mono {F G : Nat → Prop} {a b : World} (h : Chg F a b) (hs : ∀ k, F k → G k) : Chg G a b := ⟨h.os, h.tape, h.output, h.size, fun i hi hn => h.block i hi fun e => hn (hs i e)⟩
theorem Chg.of_below {F : Nat → Prop} {a b : World} (h : Below a.heap.size a b) : Chg F a b := ⟨h.os, h.tape, h.output, h.size, fun i hi _ => h.block i hi⟩
theorem Chg.below {F : Nat → Prop} {a b : World} {B : Nat} (h : Chg F a b) (hB : B ≤ a.heap.size) (hF : ∀ k, F k → B ≤ k) : Below B a b :=
  ⟨h.os, h.tape, h.output, h.size, fun i hi => h.block i (by omega) fun e => by have := hF i e; omega⟩
theorem Chg.alloc {F : Nat → Prop} {a b : World} (h : Chg F a b) (o : Obj) : Chg F a (b.alloc o) :=
  ⟨h.os, h.tape, h.output, Nat.le_trans h.size (by simp), fun i hi hn => (Below.heap_alloc b o i (Nat.lt_of_lt_of_le hi h.size)).trans (h.block i hi hn)⟩
theorem Chg.drew {F : Nat → Prop} {a b : World} (h : Chg F a b) : Chg F a b.drew := ⟨h.os, h.tape, h.output, h.size, h.block⟩
theorem Chg.setCell {F : Nat → Prop} {a b : World} (h : Chg F a b) {p : Addr} (hp : F p.block ∨ a.heap.size ≤ p.block) (u : Value) : Chg F a (b.setCell p u) :=
  ⟨h.os, h.tape, h.output, Nat.le_trans h.size (by simp [World.setCell]), fun i hi hn => (Below.heap_setCell b p u i (fun e => by subst e; rcases hp with hp | hp; exact hn hp; omega)).trans (h.block i hi hn)⟩
theorem Chg.grown {F : Nat → Prop} {a b c : World} {row : Option Nat} (h : Chg F a b) (hg : b.grownBy c row) (hr : ∀ k, row = some k → F k ∨ a.heap.size ≤ k) : Chg F a c :=
  ⟨hg.os.trans h.os, hg.tape.trans h.tape, hg.output.trans h.output, Nat.le_trans h.size hg.size, fun i hi hn =>
    (hg.block i (Nat.lt_of_lt_of_le hi h.size) (fun e => by rcases hr i e.symm with e | e; exact hn e; omega)).trans (h.block i hi hn)⟩
theorem up_up {F : Nat → Prop} {a b c : World} (h1 : a.heap.size ≤ b.heap.size) (h2 : b.heap.size ≤ c.heap.size) (k : Nat) : Up (Up F a b) b c k → Up F a c k := by
  unfold Up
  rintro ((h | h) | h)
  · exact .inl h
  · exact .inr ⟨h.1, by omega⟩
  · exact .inr ⟨by omega, h.2⟩

/-! the store -/
def encB (c : UInt8) : Value := .int .u8 (c.toNat : Int)
def el (sl : Nat → Value) (fl : Nat → Bool) (j : Nat) : Value := .agg #[sl j, .bool (fl j)]
def updB (f : Nat → Bool) (n : Nat) (v : Bool) (j : Nat) : Bool := if j = n then v else f j
theorem updB_same (f : Nat → Bool) (n : Nat) (v : Bool) : updB f n v n = v := if_pos rfl
theorem updB_ne (f : Nat → Bool) {n j : Nat} (v : Bool) (h : j ≠ n) : updB f n v j = f j := if_neg h
theorem el_upd (sl : Nat → Value) (fl : Nat → Bool) (n : Nat) (v : Value) (b : Bool) : upd (el sl fl) n (.agg #[v, .bool b]) = el (upd sl n v) (updB fl n b) := by
  funext j
  unfold upd el updB
  split <;> simp_all
structure Rows (w : World) (sl : Nat → Value) (fl : Nat → Bool) (l : List Run) (F : Nat → Prop) : Prop where
  fl : ∀ r ∈ l, fl r.num = r.shut
  own : ∀ r ∈ l, w.ownsRow 0 5 1 (sl r.num) r.txt.length (r.txt.map encB)
  inF : ∀ r ∈ l, ∀ g, (sl r.num).ownBlock = some g → F g
  apart : ∀ r ∈ l, ∀ r' ∈ l, r.num ≠ r'.num → ∀ g, (sl r.num).ownBlock = some g → (sl r'.num).ownBlock ≠ some g
def stoC (m : Sto) (mv : Value) : Array Value := #[.int .i64 m.cap, mv, .int .i64 m.made, .int .i64 (tot m.runs), .int .i64 m.peak, .int .i64 m.ahead]
def MapIs (w : World) (mv : Value) (m : Sto) (F : Nat → Prop) : Prop :=
  (mv = .map none ∧ m.runs = []) ∨ ∃ bm sl fl, mv = .map (some bm) ∧ F bm ∧ w.ownsMap Tryz.prog 3 Rh bm m.runs.length (dat (el sl fl) m.runs) ∧ Rows w sl fl m.runs F
structure At (w : World) (sb : Nat) (m : Sto) (F : Nat → Prop) : Prop where
  ok : m.Ok
  lt : ∀ b, F b → b < w.heap.size
  own : F sb
  map : ∃ mv, w.heap[sb]? = some (Obj.cells (stoC m mv) 69 (0, 0)) ∧ MapIs w mv m F
theorem own_kept {W W' : World} {B : Nat} {e : TypeId} {size n : Nat} {v : Value} {xs : List Value} (h : W.ownsRow B e size v n xs) (hb : ∀ g, v.ownBlock = some g → W'.heap[g]? = W.heap[g]?) : W'.ownsRow B e size v n xs := by
  obtain ⟨hl, ⟨e1, e2⟩ | ⟨g, cap, cur, e1, h1, hg, r⟩⟩ := h
  · exact ⟨hl, .inl ⟨e1, e2⟩⟩
  · exact ⟨hl, .inr ⟨g, cap, cur, e1, h1, (hb g (by rw [e1]; rfl)).trans hg, r⟩⟩
theorem map_kept {W W' : World} {b n : Nat} {D : DV} (h : W.ownsMap Tryz.prog 3 Rh b n D) (hb : W'.heap[b]? = W.heap[b]?) : W'.ownsMap Tryz.prog 3 Rh b n D := by
  obtain ⟨es, clock, h1, r⟩ := h
  exact ⟨es, clock, hb.trans h1, r⟩
theorem map_tight {W : World} {b n : Nat} {f : Nat → Value} {l : List Run} (h : W.ownsMap Tryz.prog 3 Rh b n (dat f l)) : W.ownsMap Tryz.prog 3 Rh b l.length (dat f l) := by
  obtain ⟨es, clock, h1, h2, h3, h4⟩ := h
  refine ⟨es, clock, h1, h2, ?_, h4⟩
  have e := congrArg Maps.size h4
  rw [dat_size] at e
  simp only [Maps.size, length_sorted] at e
  simp at e
  omega
theorem len_nums {l : List Run} {lo hi : Nat} (hs : l.Pairwise fun a b => a.num < b.num) (h : ∀ r ∈ l, lo < r.num ∧ r.num ≤ hi) : l.length ≤ hi - lo := by
  induction l generalizing lo with
  | nil => simp
  | cons x t ih =>
    obtain ⟨h1, h2⟩ := List.pairwise_cons.1 hs
    have := ih h2 (lo := x.num) fun r hr => ⟨h1 r hr, (h r (by simp [hr])).2⟩
    have := h x (by simp)
    simp only [List.length_cons]
    omega
theorem Sto.Ok.len {m : Sto} (h : m.Ok) : m.runs.length ≤ m.made := by
  have := len_nums (lo := 0) h.sorted fun r hr => ⟨by have := h.nums r hr; omega, (h.nums r hr).2⟩
  omega
theorem Rows.kept {w w' : World} {sl : Nat → Value} {fl : Nat → Bool} {l : List Run} {F G : Nat → Prop} (h : Rows w sl fl l F) (hb : ∀ b, F b → w'.heap[b]? = w.heap[b]?) (hG : ∀ b, F b → G b) : Rows w' sl fl l G :=
  ⟨h.fl, fun r hr => own_kept (h.own r hr) fun g hg => hb g (h.inF r hr g hg), fun r hr g hg => hG g (h.inF r hr g hg), h.apart⟩
theorem MapIs.kept {w w' : World} {mv : Value} {m : Sto} {F G : Nat → Prop} (h : MapIs w mv m F) (hb : ∀ b, F b → w'.heap[b]? = w.heap[b]?) (hG : ∀ b, F b → G b) : MapIs w' mv m G := by
  rcases h with h | ⟨bm, sl, fl, h1, h2, h4, h5⟩
  · exact .inl h
  · exact .inr ⟨bm, sl, fl, h1, hG _ h2, map_kept h4 (hb _ h2), h5.kept hb hG⟩
/-- a store that nothing touched, in a greater frame -/
theorem At.kept {w w' : World} {sb : Nat} {m : Sto} {F G : Nat → Prop} (h : At w sb m F) (hb : ∀ b, F b → w'.heap[b]? = w.heap[b]?) (hG : ∀ b, F b → G b) (hl : ∀ b, G b → b < w'.heap.size) : At w' sb m G := by
  obtain ⟨ok, lt, hs, mv, h1, h2⟩ := h
  exact ⟨ok, hl, hG _ hs, mv, (hb sb hs).trans h1, h2.kept hb hG⟩
theorem At.up {w w' : World} {sb : Nat} {m : Sto} {F : Nat → Prop} (h : At w sb m F) (hb : Below w.heap.size w w') : At w' sb m (Up F w w') :=
  h.kept (fun b hF => hb.block b (h.lt b hF)) (fun b hF => .inl hF) (fun b hG => by
    rcases hG with hG | hG
    · exact Nat.lt_of_lt_of_le (h.lt b hG) hb.size
    · exact hG.2)
theorem At.up2 {a w w' : World} {sb : Nat} {m : Sto} {F : Nat → Prop} (h : At w sb m (Up F a w)) (hb : Below w.heap.size w w') : At w' sb m (Up F a w') :=
  h.kept (fun b hF => hb.block b (h.lt b hF)) (fun b hF => hF.imp id fun x => ⟨x.1, Nat.lt_of_lt_of_le x.2 hb.size⟩) (fun b hG => by
    rcases hG with hG | hG
    · exact Nat.lt_of_lt_of_le (h.lt b (.inl hG)) hb.size
    · exact hG.2)
theorem At.join {a b w : World} {sb : Nat} {m : Sto} {F : Nat → Prop} (h : At w sb m (Up (Up F a b) b w)) (h1 : a.heap.size ≤ b.heap.size) (h2 : b.heap.size ≤ w.heap.size) : At w sb m (Up F a w) :=
  h.kept (fun _ _ => rfl) (fun k hk => up_up h1 h2 k hk) (fun k hk => by
    rcases hk with hk | hk
    · exact h.lt k (.inl (.inl hk))
    · exact hk.2)

/-! a text's bytes behind a row -/
theorem set_heap1 {W : World} {g k : Nat} {cur : Array Value} {t : TypeId} {fz : Nat × Nat} (h : W.heap[g]? = some (.cells cur t fz)) (v : Value) : (W.setCell ⟨g, k, none⟩ v).heap[g]? = some (.cells (cur.setIfInBounds k v) t fz) := by
  simp only [World.setCell, Array.getElem?_modify, if_true, h, Option.map_some]
  simp
theorem setCells_heap (g : Nat) (t : TypeId) (fz : Nat × Nat) : ∀ (vs : List Value) (o : Nat) (w : World) (cur : Array Value), w.heap[g]? = some (.cells cur t fz) → o + vs.length ≤ cur.size →
    (w.setCells g o vs).heap[g]? = some (.cells (cur.toList.take o ++ vs ++ cur.toList.drop (o + vs.length)).toArray t fz)
  | [], o, w, cur, h, _ => by
    simp only [World.setCells, h]
    simp
  | v :: r, o, w, cur, h, hl => by
    have h1 := set_heap1 (k := o) h v
    have h2 := setCells_heap g t fz r (o + 1) _ _ h1 (by simp at hl ⊢; omega)
    simp only [World.setCells]
    rw [h2]
    simp only [List.length_cons] at hl
    congr 3
    rw [Array.toList_setIfInBounds, List.take_add_one, List.take_set_of_le (Nat.le_refl _), List.getElem?_set_self (by simp; omega), List.drop_set_of_lt (by omega)]
    simp only [List.length_cons, List.append_assoc, Option.toList, List.cons_append, List.nil_append]
    rw [show o + 1 + r.length = o + (r.length + 1) by omega]
theorem setCells_size (g : Nat) : ∀ (vs : List Value) (o : Nat) (w : World), (w.setCells g o vs).heap.size = w.heap.size ∧ (w.setCells g o vs).os = w.os ∧ (w.setCells g o vs).tape = w.tape ∧ (w.setCells g o vs).output = w.output ∧ ∀ k, k ≠ g → (w.setCells g o vs).heap[k]? = w.heap[k]?
  | [], o, w => ⟨rfl, rfl, rfl, rfl, fun _ _ => rfl⟩
  | v :: r, o, w => by
    obtain ⟨h1, h2, h3, h4, h5⟩ := setCells_size g r (o + 1) (w.setCell ⟨g, o, none⟩ v)
    simp only [World.setCells]
    exact ⟨by rw [h1]; simp [World.setCell], by rw [h2]; rfl, by rw [h3]; rfl, by rw [h4]; rfl, fun k hk => by rw [h5 k hk]; exact Below.heap_setCell _ _ _ _ hk⟩
theorem infoB : (Tryz.prog.info? 5).map (fun i => (i.zero, i.size, i.bytes)) = some (some (.int .u8 0), 1, 1) := by kernel_rfl
theorem append_str (W : World) (v : Value) (n : Nat) (xs : List Value) (s : ByteArray) (ty : TypeId) (hown : W.ownsRow 0 5 1 v n xs) (hb : n + s.size ≤ 67108864) :
    ∃ v' W', (Builtin.append_ #[77, 9] ty #[v, .string s]).run Tryz.prog W = .ok v' W' ∧ W'.ownsRow 0 5 1 v' (n + s.size) (xs ++ byteCells s) ∧ W.grownBy W' v.ownBlock ∧ (v'.ownBlock = v.ownBlock ∨ v'.ownBlock = some W.heap.size) := by
  obtain ⟨i, hi, hz⟩ := Option.map_eq_some_iff.1 infoB
  simp only [Prod.mk.injEq] at hz
  obtain ⟨hz0, hz1, hz2⟩ := hz
  have hs := Src.ofString (P := Tryz.prog) W Tryz.underlying9 s
  have hbl : (byteCells s).length = s.size := byteCells_length s
  have hlen : (xs ++ byteCells s).length = (n + s.size) * 1 := by rw [List.length_append, hown.1, hbl]; omega
  have grown : ∀ (old : Nat) (row : Option Nat), old < n + s.size →
      (W.drew.alloc (.cells ((xs ++ byteCells s).toArray ++ Builtin.zeroCells (Value.int .u8 0).cells (grownCap W (n + s.size) old 5 - (n + s.size))) 5)).ownsRow 0 5 1 (.slice (some ⟨W.heap.size, 0, none⟩) (n + s.size) (grownCap W (n + s.size) old 5)) (n + s.size) (xs ++ byteCells s) ∧
      W.grownBy (W.drew.alloc (.cells ((xs ++ byteCells s).toArray ++ Builtin.zeroCells (Value.int .u8 0).cells (grownCap W (n + s.size) old 5 - (n + s.size))) 5)) row := by
    intro old row ho
    have hge := grownCap_ge W (n + s.size) old 5
    have hcm : grownCap W (n + s.size) old 5 ≤ maxLen := grownCap_le_maxLen W (n + s.size) old 5 (by unfold maxLen; omega)
    refine ⟨⟨hlen, .inr ⟨W.heap.size, _, _, rfl, Nat.zero_le _, (MapKept.heap_alloc W.drew _).1, hge, hcm, ?_, ?_⟩⟩, ⟨rfl, rfl, rfl, by simp, fun k hk _ => Below.heap_alloc W.drew _ k hk⟩⟩
    · simp only [Array.size_append, List.size_toArray, size_zeroCells, hlen]
      simp [Value.cells]
      omega
    · simp only [Array.toList_append]
      rw [← hlen]
      exact List.take_left
  have hsrc : Src Tryz.prog i.size 9 (.string s) s.size (byteCells s) W := by rw [hz1]; exact hs
  rcases hown.2 with ⟨rfl, rfl⟩ | ⟨g, cap, cur, rfl, hbg, hg, hnc, hcm, hcs, htake⟩
  · have hx : xs = [] := List.eq_nil_of_length_eq_zero (by simpa using hown.1)
    subst hx
    by_cases hm : s.size = 0
    · refine ⟨.slice none 0 0, W, ?_, ?_, ⟨rfl, rfl, rfl, Nat.le_refl _, fun _ _ _ => rfl⟩, Or.inl rfl⟩
      · simp [Builtin.append_, run_underlying Tryz.underlying77, run_underlying Tryz.underlying9, sizeOf, typeInfo, hi, Builtin.lenOf, hm, Builtin.firstCells]
      · have e : byteCells s = [] := List.eq_nil_of_length_eq_zero (by rw [hbl, hm])
        rw [e, hm]
        exact World.ownsRow_nil W 0 5 1
    · have hr := run_append_grow_src (P := Tryz.prog) W 77 9 ty 5 i (.int .u8 0) Tryz.underlying77 hi hz0 none 0 0 [] (run_firstCells_none W.drew i.size 0 0 0) (.string s) s.size (byteCells s) hsrc (by omega) (by omega) (growslice_fits (by omega) (by rw [hz2]; omega))
      have hgr := grown 0 (Value.ownBlock (.slice none 0 0)) (by omega)
      exact ⟨_, _, hr, hgr.1, hgr.2, Or.inr rfl⟩
  · by_cases hroom : n + s.size ≤ cap
    · have hcell : ∀ j, j < cur.size → (W.cell? ⟨g, j, none⟩).isSome = true := fun j hj => by
        simp [World.cell?, hg, hj]
      have hr := run_append_room_src (P := Tryz.prog) W 77 9 ty 5 i Tryz.underlying77 hi g 0 n cap (.string s) s.size (byteCells s) hsrc hroom (fun j hj => by
        rw [hz1]; exact hcell _ (by omega)) (fun j hj => by simp [World.frozen?, hg])
      rw [hz1] at hr
      have hh := setCells_heap g 5 (0, 0) (byteCells s) (0 + n * 1) W cur hg (by omega)
      obtain ⟨k1, k2, k3, k4, k5⟩ := setCells_size g (byteCells s) (0 + n * 1) W
      refine ⟨_, _, hr, ⟨hlen, .inr ⟨g, cap, _, rfl, hbg, hh, hroom, hcm, ?_, ?_⟩⟩, ⟨k2, k3, k4, by omega, fun k _ hk => k5 k (fun e => hk (by simp [Value.ownBlock, e]))⟩, Or.inl rfl⟩
      · simp only [List.size_toArray, List.length_append, List.length_take, List.length_drop, Array.length_toList]
        omega
      · rw [Nat.zero_add, htake, ← hlen]
        exact List.take_left
    · have holds : ∀ j u, xs[j]? = some u → W.drew.cell? ((⟨g, 0, none⟩ : Addr).add j) = some u := hown.cells (g := g) rfl
      have hr := run_append_grow_src (P := Tryz.prog) W 77 9 ty 5 i (.int .u8 0) Tryz.underlying77 hi hz0 (some ⟨g, 0, none⟩) n cap xs (by rw [hz1]; exact run_firstCells_some W.drew 1 n ⟨g, 0, none⟩ n cap xs hown.1 holds) (.string s) s.size (byteCells s) hsrc (by omega) (by omega) (growslice_fits (by omega) (by rw [hz2]; omega))
      have hgr := grown cap (Value.ownBlock (.slice (some ⟨g, 0, none⟩) n cap)) (by omega)
      exact ⟨_, _, hr, hgr.1, hgr.2, Or.inr rfl⟩
end Rs
end Go.Proofs.YtohfhkdhccpoaaaGreatDoor
/- Layer 5: the failures' variables, and the simplest calls of a store. -/
namespace Go.Proofs.YtohfhkdhccpoaaaGreatDoor
open Go.RowKit
namespace Rs

abbrev er (E : Nat → Addr) (k : Nat) : Value := .iface 234 (.pointer (some (E k)))
structure Gs (w : World) (E : Nat → Addr) (F : Nat → Prop) : Prop where
  nil : w.cell? ⟨0, 0, none⟩ = some (er E 1)
  noRun : w.cell? ⟨4, 0, none⟩ = some (er E 3)
  shut : w.cell? ⟨11, 0, none⟩ = some (er E 4)
  full : w.cell? ⟨5, 0, none⟩ = some (er E 7)
  spent : w.cell? ⟨6, 0, none⟩ = some (er E 8)
  broken : w.cell? ⟨7, 0, none⟩ = some (er E 9)
  sz : 13 ≤ w.heap.size
  hi : ∀ b, F b → 13 ≤ b
theorem Gs.chg {w w' : World} {E : Nat → Addr} {F : Nat → Prop} (h : Gs w E F) (c : Chg F w w') : Gs w' E (Up F w w') := by
  have hb : ∀ g, g < 13 → w'.cell? ⟨g, 0, none⟩ = w.cell? ⟨g, 0, none⟩ := fun g hg => World.cell?_of_block (a := ⟨g, 0, none⟩) (c.block g (by have := h.sz; omega) fun e => by have := h.hi g e; omega)
  refine ⟨?_, ?_, ?_, ?_, ?_, ?_, Nat.le_trans h.sz c.size, fun b hb => ?_⟩
  · rw [hb _ (by decide)]; exact h.nil
  · rw [hb _ (by decide)]; exact h.noRun
  · rw [hb _ (by decide)]; exact h.shut
  · rw [hb _ (by decide)]; exact h.full
  · rw [hb _ (by decide)]; exact h.spent
  · rw [hb _ (by decide)]; exact h.broken
  · rcases hb with hb | hb
    · exact h.hi b hb
    · have := h.sz; omega
theorem Gs.sub {w : World} {E : Nat → Addr} {F G : Nat → Prop} (h : Gs w E F) (hs : ∀ b, G b → 13 ≤ b) : Gs w E G := ⟨h.nil, h.noRun, h.shut, h.full, h.spent, h.broken, h.sz, hs⟩
theorem cells_sto {w : World} {sb : Nat} {m : Sto} {mv : Value} (h : w.heap[sb]? = some (.cells (stoC m mv) 69 (0, 0))) :
    w.cell? ⟨sb, 0, none⟩ = some (.int .i64 m.cap) ∧ w.cell? ⟨sb, 1, none⟩ = some mv ∧ w.cell? ⟨sb, 2, none⟩ = some (.int .i64 m.made) ∧ w.cell? ⟨sb, 3, none⟩ = some (.int .i64 (tot m.runs)) ∧
    w.cell? ⟨sb, 4, none⟩ = some (.int .i64 m.peak) ∧ w.cell? ⟨sb, 5, none⟩ = some (.int .i64 m.ahead) ∧ ∀ k, w.frozen? ⟨sb, k, none⟩ = false := by
  refine ⟨?_, ?_, ?_, ?_, ?_, ?_, fun k => ?_⟩ <;> simp [World.cell?, World.frozen?, h, stoC]
def Sto.tick (m : Sto) : Sto := { m with ahead := m.ahead - 1 }
theorem Sto.Ok.tick {m : Sto} (h : m.Ok) : m.tick.Ok := ⟨h.cap, h.made, h.used, h.peak, h.peakle, by have := h.ahead; simp only [Sto.tick]; omega, h.sorted, h.nums⟩
theorem tick_zero {m : Sto} (h : m.ahead = 0) : m.tick = m := by cases m; simp only [Sto.tick] at *; subst h; rfl
/-- a cell of the store's own is written -/
theorem At.set {w : World} {sb : Nat} {m m' : Sto} {F : Nat → Prop} (h : At w sb m F) (k : Nat) (v : Value) (hr : m'.runs = m.runs) (ok : m'.Ok) (hc : ∀ mv, (stoC m mv).setIfInBounds k v = stoC m' mv) : At (w.setCell ⟨sb, k, none⟩ v) sb m' F := by
  obtain ⟨_, lt, hs, mv, h1, h2⟩ := h
  have ho : ∀ b, b ≠ sb → (w.setCell ⟨sb, k, none⟩ v).heap[b]? = w.heap[b]? := fun b hb => Below.heap_setCell _ _ _ _ hb
  refine ⟨ok, fun b hb => by simpa [World.setCell] using lt b hb, hs, mv, by rw [set_heap1 h1, hc], ?_⟩
  rcases h2 with ⟨e1, e2⟩ | ⟨bm, sl, fl, e1, e2, e3, e4⟩
  · exact .inl ⟨e1, by rw [hr]; exact e2⟩
  · refine .inr ⟨bm, sl, fl, e1, e2, ?_, ?_⟩
    · rw [hr]
      refine map_kept e3 (ho bm fun e => ?_)
      obtain ⟨es, cl, hb, _⟩ := e3
      rw [e, h1] at hb
      cases hb
    · rw [hr]
      exact ⟨e4.fl, fun r hr => own_kept (e4.own r hr) fun g hg => ho g fun e => by
        obtain ⟨c, fz, hk⟩ := Lib.ownsRow_kind (e4.own r hr) g hg
        rw [e, h1] at hk
        injection hk with hk
        injection hk with _ hk _
        exact absurd hk (by decide), e4.inF, e4.apart⟩
theorem At.chg {w : World} {sb : Nat} {m : Sto} {F : Nat → Prop} (h : At w sb m F) (k : Nat) (v : Value) : Chg F w (w.setCell ⟨sb, k, none⟩ v) := (Chg.refl F w).setCell (.inl h.own) v

/-! step -/
theorem step_nil (w : World) {E : Nat → Addr} {F : Nat → Prop} (G : Gs w E F) : Calls Tryz.prog 55 #[.pointer none] w fun e w' => e = .returned (er E 1) ∧ w' = w := by
  have hg := G.nil
  clear G
  go_enter Tryz.func55, Tryz.ntmps55
  go_wp2
  go_ret
  exact ⟨rfl, rfl⟩
theorem step_no {w : World} {sb : Nat} {m : Sto} {F : Nat → Prop} (h : At w sb m F) (ha : m.ahead ≠ 1) :
    Calls Tryz.prog 55 #[.pointer (some ⟨sb, 0, none⟩)] w fun e w' => e = .returned .nilIface ∧ At w' sb m.tick F ∧ Chg F w w' ∧ w'.heap.size = w.heap.size := by
  have ok := h.ok
  have h1 := ok.ahead
  obtain ⟨mv, hs, _⟩ := h.map
  obtain ⟨_, _, _, _, _, c5, fz⟩ := cells_sto hs
  have H := hide h
  clear h hs
  by_cases h0 : m.ahead = 0
  · have HT := hide (tick_zero h0)
    have h0' : (m.ahead : Int) = 0 := by omega
    rw [h0'] at c5
    clear h0 h0' ha h1 ok
    go_enter Tryz.func55, Tryz.ntmps55
    go_wp2
    go_ret
    exact ⟨rfl, by rw [unhide HT]; exact unhide H, Chg.refl _ _, rfl⟩
  · have g0 : ¬ (m.ahead : Int) = 0 := by omega
    have g1 : ¬ ((m.ahead : Int) - 1) = 0 := by omega
    have HA := hide ((unhide H).set (m' := m.tick) 5 (.int .i64 ((m.ahead : Int) - 1)) rfl ok.tick (fun mv => by
      have e : ((m.ahead - 1 : Nat) : Int) = (m.ahead : Int) - 1 := by omega
      simp [stoC, Sto.tick, e]))
    have HC := hide ((unhide H).chg 5 (.int .i64 ((m.ahead : Int) - 1)))
    clear ok
    go_enter Tryz.func55, Tryz.ntmps55
    go_wp2
    go_ret
    exact ⟨rfl, unhide HA, unhide HC, by simp [World.setCell]⟩
theorem step_yes {w : World} {E : Nat → Addr} {sb : Nat} {m : Sto} {F : Nat → Prop} (h : At w sb m F) (G : Gs w E F) (ha : m.ahead = 1) :
    Calls Tryz.prog 55 #[.pointer (some ⟨sb, 0, none⟩)] w fun e w' => e = .returned (er E 9) ∧ At w' sb m.tick F ∧ Chg F w w' ∧ w'.heap.size = w.heap.size := by
  have ok := h.ok
  have hg := (G.chg (h.chg 5 (.int .i64 0))).broken
  obtain ⟨mv, hs, _⟩ := h.map
  obtain ⟨_, _, _, _, _, c5, fz⟩ := cells_sto hs
  have e1 : (m.ahead : Int) = 1 := by omega
  rw [e1] at c5
  have HA := hide (h.set (m' := m.tick) 5 (.int .i64 0) rfl ok.tick (fun mv => by simp [stoC, Sto.tick, ha]))
  have HC := hide (h.chg 5 (.int .i64 0))
  clear h hs G ha e1 ok
  go_enter Tryz.func55, Tryz.ntmps55
  go_wp2
  go_ret
  exact ⟨rfl, unhide HA, unhide HC, by simp [World.setCell]⟩
end Rs
end Go.Proofs.YtohfhkdhccpoaaaGreatDoor
/- Layer 5: New, find, findOpen. -/
namespace Go.Proofs.YtohfhkdhccpoaaaGreatDoor
open Go.RowKit
namespace Rs

def newS (c : Int) : Sto := ⟨(min (max c 0) 67108864).toNat, [], 0, 0, 0⟩
theorem newS_ok (c : Int) : (newS c).Ok := ⟨by simp only [newS]; omega, by simp [newS], by simp [newS, tot], by simp [newS, tot], by simp [newS], by simp [newS], by simp [newS], by simp [newS]⟩
theorem At.new (w : World) (c : Int) : At (w.alloc (.cells (stoC (newS c) (.map none)) 69)) w.heap.size (newS c) (fun b => b = w.heap.size) :=
  ⟨newS_ok c, fun b hb => by subst hb; simp, rfl, .map none, (MapKept.heap_alloc w _).1, .inl ⟨rfl, rfl⟩⟩
theorem new_any (c : Int) (w : World) (h1 : -9223372036854775808 ≤ c) (h2 : c ≤ 9223372036854775807) :
    Calls Tryz.prog 9 #[.int .i64 c] w fun e w' => e = .returned (.pointer (some ⟨w.heap.size, 0, none⟩)) ∧ At w' w.heap.size (newS c) (fun b => b = w.heap.size) ∧ Below w.heap.size w w' ∧ w'.heap.size = w.heap.size + 1 := by
  have HE : Hid (stoC (newS c) (.map none) = #[.int .i64 (min (max c 0) 67108864), .map none, .int .i64 0, .int .i64 0, .int .i64 0, .int .i64 0]) := by
    show stoC (newS c) (.map none) = _
    have e : (((min (max c 0) 67108864).toNat : Nat) : Int) = min (max c 0) 67108864 := by omega
    simp only [stoC, newS, e, tot]
    rfl
  have HA := hide (At.new w c)
  go_enter Tryz.func9, Tryz.ntmps9
  go_wp2
  all_goals
    go_ret
    have h := unhide HA
    rw [unhide HE] at h
    refine ⟨rfl, ?_, ?_, ?_⟩
    · first
        | (rw [show min (max c 0) 67108864 = 0 by omega] at h; exact h)
        | (rw [show min (max c 0) 67108864 = 67108864 by omega] at h; exact h)
        | (rw [show min (max c 0) 67108864 = c by omega] at h; exact h)
    · exact (Below.refl _ w).alloc (Nat.le_refl _) _
    · simp
/-- a store with a map, laid open -/
structure In (w : World) (sb : Nat) (m : Sto) (F : Nat → Prop) (bm : Nat) (sl : Nat → Value) (fl : Nat → Bool) : Prop where
  ok : m.Ok
  lt : ∀ b, F b → b < w.heap.size
  own : F sb
  sto : w.heap[sb]? = some (.cells (stoC m (.map (some bm))) 69 (0, 0))
  bmF : F bm
  map : w.ownsMap Tryz.prog 3 Rh bm m.runs.length (dat (el sl fl) m.runs)
  rows : Rows w sl fl m.runs F
theorem In.at {w : World} {sb : Nat} {m : Sto} {F : Nat → Prop} {bm : Nat} {sl : Nat → Value} {fl : Nat → Bool} (h : In w sb m F bm sl fl) : At w sb m F :=
  ⟨h.ok, h.lt, h.own, _, h.sto, .inr ⟨bm, sl, fl, rfl, h.bmF, h.map, h.rows⟩⟩
theorem At.open {w : World} {sb : Nat} {m : Sto} {F : Nat → Prop} (h : At w sb m F) : (w.heap[sb]? = some (.cells (stoC m (.map none)) 69 (0, 0)) ∧ m.runs = []) ∨ ∃ bm sl fl, In w sb m F bm sl fl := by
  obtain ⟨ok, lt, ho, mv, hs, ⟨rfl, e⟩ | ⟨bm, sl, fl, rfl, h1, h2, h3⟩⟩ := h
  · exact .inl ⟨hs, e⟩
  · exact .inr ⟨bm, sl, fl, ok, lt, ho, hs, h1, h2, h3⟩
theorem In.kept {w w' : World} {sb : Nat} {m : Sto} {F G : Nat → Prop} {bm : Nat} {sl : Nat → Value} {fl : Nat → Bool} (h : In w sb m F bm sl fl) (hb : ∀ b, F b → w'.heap[b]? = w.heap[b]?) (hG : ∀ b, F b → G b) (hl : ∀ b, G b → b < w'.heap.size) : In w' sb m G bm sl fl :=
  ⟨h.ok, hl, hG _ h.own, (hb _ h.own).trans h.sto, hG _ h.bmF, map_kept h.map (hb _ h.bmF), h.rows.kept hb hG⟩
theorem In.below {w w' : World} {sb : Nat} {m : Sto} {F : Nat → Prop} {bm : Nat} {sl : Nat → Value} {fl : Nat → Bool} (h : In w sb m F bm sl fl) (hb : Below w.heap.size w w') : In w' sb m F bm sl fl :=
  h.kept (fun b hF => hb.block b (h.lt b hF)) (fun _ hF => hF) (fun b hF => Nat.lt_of_lt_of_le (h.lt b hF) hb.size)
theorem law3 : Maps.Keyed Tryz.prog 3 := Maps.int_keyed Tryz.underlying3
theorem zeroE (w : World) : (zeroValue 108).run Tryz.prog w = .ok (.agg #[.slice none 0 0, .bool false]) w := by kernel_rfl
theorem key3 {k : Int} (h1 : -9223372036854775808 ≤ k) (h2 : k ≤ 9223372036854775807) : keyOf Tryz.prog 3 (.int .i64 k) = some (.int .i64 k) := Maps.keyOf_int_mk Tryz.underlying3 (WalkArith.wf_i64 (by omega))
theorem lookup_some {W : World} {bm n : Nat} {f : Nat → Value} {l : List Run} {k : Int} {r : Run} (h : W.ownsMap Tryz.prog 3 Rh bm n (dat f l)) (h1 : -9223372036854775808 ≤ k) (h2 : k ≤ 9223372036854775807) (hl : look l k = some r) :
    (Instr.lookup 67 (.map (some bm)) (.int .i64 k) true).run Tryz.prog W = .ok (.tuple #[f r.num, .bool true]) W := by
  obtain ⟨v, ps, hr, hv⟩ := h.look_ok (t := 67) (e := 108) law3 Tryz.underlying67 (zeroE W) (zd := .held (.agg #[.slice none 0 0, .bool false])) (zp := []) rfl (key3 h1 h2)
  rw [dat_at f hl] at hv
  simp only [Rh, Option.some.injEq, Prod.mk.injEq, DataW.held.injEq] at hv
  rw [dat_has, hl, hv.1] at hr
  exact hr
theorem lookup_none {W : World} {bm n : Nat} {f : Nat → Value} {l : List Run} {k : Int} (h : W.ownsMap Tryz.prog 3 Rh bm n (dat f l)) (h1 : -9223372036854775808 ≤ k) (h2 : k ≤ 9223372036854775807) (hl : look l k = none) :
    (Instr.lookup 67 (.map (some bm)) (.int .i64 k) true).run Tryz.prog W = .ok (.tuple #[.agg #[.slice none 0 0, .bool false], .bool false]) W := by
  obtain ⟨v, ps, hr, hv⟩ := h.look_ok (t := 67) (e := 108) law3 Tryz.underlying67 (zeroE W) (zd := .held (.agg #[.slice none 0 0, .bool false])) (zp := []) rfl (key3 h1 h2)
  have e : (dat f l).atKey (.int .i64 k) (.held (.agg #[.slice none 0 0, .bool false])) = .held (.agg #[.slice none 0 0, .bool false]) := by
    unfold dat DataW.atKey
    have : (l.map (ent f)).find? (fun p => p.1.sameKey (.int .i64 k)) = none := by
      rw [List.find?_eq_none]
      intro p hp
      obtain ⟨x, hx, rfl⟩ := List.mem_map.1 hp
      have := look_none hl x hx
      show ¬ (Lit.int .i64 (x.num : Int)).sameKey (.int .i64 k) = true
      rw [same_key]
      simpa using this
    simp only [this]
  rw [e] at hv
  simp only [Rh, Option.some.injEq, Prod.mk.injEq, DataW.held.injEq] at hv
  rw [dat_has, hl, hv.1] at hr
  exact hr
abbrev zc : Value := .agg #[.slice none 0 0, .bool false]
theorem Gs.new {w : World} {E : Nat → Addr} {F : Nat → Prop} (G : Gs w E F) (o : Obj) : Gs (w.alloc o) E F := (G.chg ((Chg.refl F w).alloc o)).sub G.hi
theorem find_nil (w : World) (k : Int) {E : Nat → Addr} {F : Nat → Prop} (G : Gs w E F) : Calls Tryz.prog 61 #[.pointer none, .int .i64 k] w fun e w' => e = .returned (.tuple #[zc, er E 1]) ∧ Below w.heap.size w w' := by
  have hg := fun o => (G.new o).nil
  clear G
  go_enter Tryz.func61, Tryz.ntmps61
  go_wp2
  go_region
  all_goals
    go_wp2
    refine bodyPost_ret (v := .tuple #[zc, er E 1]) (by simp [results, Tryz.results61, go_sem]) rfl ⟨rfl, ?_⟩
    (repeat (first | exact Below.refl _ _ | refine Below.drew ?_ | refine Below.alloc ?_ (by first | (simp; done) | (simp; omega)) _ | refine Below.setCell ?_ (by first | (simp; done) | (simp; omega)) _))
theorem find_none {w : World} {sb : Nat} {m : Sto} {F : Nat → Prop} {k : Int} {E : Nat → Addr} (h : At w sb m F) (G : Gs w E F) (h1 : -9223372036854775808 ≤ k) (h2 : k ≤ 9223372036854775807) (hl : look m.runs k = none) :
    Calls Tryz.prog 61 #[.pointer (some ⟨sb, 0, none⟩), .int .i64 k] w fun e w' => e = .returned (.tuple #[zc, er E 3]) ∧ Below w.heap.size w w' := by
  have hg := fun o o' => ((G.new o).new o').noRun
  have hsb := h.lt _ h.own
  rcases h.open with ⟨hs, he⟩ | ⟨bm, sl, fl, h⟩
  · obtain ⟨_, c1, _⟩ := cells_sto hs
    have hk := fun o => Maps.look_nil (w := w.alloc o) (e := 108) true law3 Tryz.underlying67 (zeroE (w.alloc o)) (key3 h1 h2)
    clear G h hs he hl
    go_enter Tryz.func61, Tryz.ntmps61
    go_wp2
    go_region
    all_goals
      go_wp2
      refine bodyPost_ret (v := .tuple #[zc, er E 3]) (by simp [results, Tryz.results61, go_sem]) rfl ⟨rfl, ?_⟩
      (repeat (first | exact Below.refl _ _ | refine Below.drew ?_ | refine Below.alloc ?_ (by first | (simp; done) | (simp; omega)) _ | refine Below.setCell ?_ (by first | (simp; done) | (simp; omega)) _))
  · obtain ⟨_, c1, _⟩ := cells_sto h.sto
    have hk := fun o => lookup_none (h.map.alloc o) h1 h2 hl
    clear G h hl
    go_enter Tryz.func61, Tryz.ntmps61
    go_wp2
    go_region
    all_goals
      go_wp2
      refine bodyPost_ret (v := .tuple #[zc, er E 3]) (by simp [results, Tryz.results61, go_sem]) rfl ⟨rfl, ?_⟩
      (repeat (first | exact Below.refl _ _ | refine Below.drew ?_ | refine Below.alloc ?_ (by first | (simp; done) | (simp; omega)) _ | refine Below.setCell ?_ (by first | (simp; done) | (simp; omega)) _))
theorem own_slice {W : World} {B : Nat} {e : TypeId} {size n : Nat} {v : Value} {xs : List Value} (h : W.ownsRow B e size v n xs) : ∃ a c, v = .slice a n c := by
  obtain ⟨_, ⟨rfl, rfl⟩ | ⟨g, cap, cur, rfl, _⟩⟩ := h
  · exact ⟨_, _, rfl⟩
  · exact ⟨_, _, rfl⟩
theorem find_some {w : World} {sb : Nat} {m : Sto} {F : Nat → Prop} {k : Int} {bm : Nat} {sl : Nat → Value} {fl : Nat → Bool} {r : Run} (h : In w sb m F bm sl fl) (h1 : -9223372036854775808 ≤ k) (h2 : k ≤ 9223372036854775807) (hl : look m.runs k = some r) :
    Calls Tryz.prog 61 #[.pointer (some ⟨sb, 0, none⟩), .int .i64 k] w fun e w' => e = .returned (.tuple #[.agg #[sl r.num, .bool r.shut], .nilIface]) ∧ Below w.heap.size w w' := by
  have hsb := h.lt _ h.own
  obtain ⟨_, c1, _⟩ := cells_sto h.sto
  have hk := fun o => lookup_some (h.map.alloc o) h1 h2 hl
  have e : el sl fl r.num = .agg #[sl r.num, .bool r.shut] := by unfold el; rw [h.rows.fl r (look_mem hl).1]
  rw [e] at hk
  obtain ⟨a, c, ev⟩ := own_slice (h.rows.own r (look_mem hl).1)
  rw [ev] at hk ⊢
  clear h hl e ev
  go_enter Tryz.func61, Tryz.ntmps61
  go_wp2
  refine bodyPost_ret (v := .tuple #[.agg #[.slice a r.txt.length c, .bool r.shut], .nilIface]) (by simp [results, Tryz.results61, go_sem]) rfl ⟨rfl, ?_⟩
  (repeat (first | exact Below.refl _ _ | refine Below.drew ?_ | refine Below.alloc ?_ (by first | (simp; done) | (simp; omega)) _ | refine Below.setCell ?_ (by first | (simp; done) | (simp; omega)) _))
end Rs
end Go.Proofs.YtohfhkdhccpoaaaGreatDoor
/- Layer 5: findOpen. -/
namespace Go.Proofs.YtohfhkdhccpoaaaGreatDoor
open Go.RowKit
namespace Rs
theorem At.alloc {w : World} {sb : Nat} {m : Sto} {F : Nat → Prop} (h : At w sb m F) (o : Obj) : At (w.alloc o) sb m F :=
  h.kept (fun b hb => Below.heap_alloc w o b (h.lt b hb)) (fun _ hb => hb) (fun b hb => by have := h.lt b hb; simp; omega)
theorem In.alloc {w : World} {sb : Nat} {m : Sto} {F : Nat → Prop} {bm : Nat} {sl : Nat → Value} {fl : Nat → Bool} (h : In w sb m F bm sl fl) (o : Obj) : In (w.alloc o) sb m F bm sl fl :=
  h.below ((Below.refl _ _).alloc (Nat.le_refl _) o)
theorem bcell {W w1 : World} (hb : Below W.heap.size W w1) : (∀ b o, b < W.heap.size → w1.cell? ⟨b, o, none⟩ = W.cell? ⟨b, o, none⟩) ∧ (∀ b o, b < W.heap.size → w1.frozen? ⟨b, o, none⟩ = W.frozen? ⟨b, o, none⟩) :=
  ⟨fun b o h => hb.cell (p := ⟨b, o, none⟩) h, fun b o h => hb.frozen (p := ⟨b, o, none⟩) h⟩
theorem open_nil (w : World) (k : Int) {E : Nat → Addr} {F : Nat → Prop} (G : Gs w E F) : Calls Tryz.prog 72 #[.pointer none, .int .i64 k] w fun e w' => e = .returned (.tuple #[zc, er E 1]) ∧ Below w.heap.size w w' := by
  have HF : Hid (∀ o, Calls Tryz.prog 61 #[.pointer none, .int .i64 k] (w.alloc o) fun e w' => e = .returned (.tuple #[zc, er E 1]) ∧ Below (w.alloc o).heap.size (w.alloc o) w') := fun o => find_nil _ k (G.new o)
  clear G
  go_enter Tryz.func72, Tryz.ntmps72
  go_wp2_with (go_at_call 61; refine (unhide HF _).mono ?_; rintro e w1 ⟨rfl, hb⟩; obtain ⟨hc, hf⟩ := bcell hb; have hz : w.heap.size < w1.heap.size := (by have := hb.size; simp at this; omega); have HB : Hid (Below w.heap.size w w1) := (((Below.refl _ w).alloc (Nat.le_refl _) _).trans (hb.mono (by simp))); clear hb)
  refine bodyPost_ret (v := .tuple #[zc, er E 1]) (by simp [results, Tryz.results72, go_sem, hc, hz]) rfl ⟨rfl, ?_⟩
  (repeat (first | exact unhide HB | refine Below.drew ?_ | refine Below.alloc ?_ (by first | (simp; done) | (simp; omega)) _ | refine Below.setCell ?_ (by first | (simp; done) | (simp; omega)) _))
theorem open_none {w : World} {sb : Nat} {m : Sto} {F : Nat → Prop} {k : Int} {E : Nat → Addr} (h : At w sb m F) (G : Gs w E F) (h1 : -9223372036854775808 ≤ k) (h2 : k ≤ 9223372036854775807) (hl : look m.runs k = none) :
    Calls Tryz.prog 72 #[.pointer (some ⟨sb, 0, none⟩), .int .i64 k] w fun e w' => e = .returned (.tuple #[zc, er E 3]) ∧ Below w.heap.size w w' := by
  have HF : Hid (∀ o, Calls Tryz.prog 61 #[.pointer (some ⟨sb, 0, none⟩), .int .i64 k] (w.alloc o) fun e w' => e = .returned (.tuple #[zc, er E 3]) ∧ Below (w.alloc o).heap.size (w.alloc o) w') := fun o => find_none (h.alloc o) (G.new o) h1 h2 hl
  clear G h hl
  go_enter Tryz.func72, Tryz.ntmps72
  go_wp2_with (go_at_call 61; refine (unhide HF _).mono ?_; rintro e w1 ⟨rfl, hb⟩; obtain ⟨hc, hf⟩ := bcell hb; have hz : w.heap.size < w1.heap.size := (by have := hb.size; simp at this; omega); have HB : Hid (Below w.heap.size w w1) := (((Below.refl _ w).alloc (Nat.le_refl _) _).trans (hb.mono (by simp))); clear hb)
  refine bodyPost_ret (v := .tuple #[zc, er E 3]) (by simp [results, Tryz.results72, go_sem, hc, hz]) rfl ⟨rfl, ?_⟩
  (repeat (first | exact unhide HB | refine Below.drew ?_ | refine Below.alloc ?_ (by first | (simp; done) | (simp; omega)) _ | refine Below.setCell ?_ (by first | (simp; done) | (simp; omega)) _))
theorem open_shut {w : World} {sb : Nat} {m : Sto} {F : Nat → Prop} {k : Int} {bm : Nat} {sl : Nat → Value} {fl : Nat → Bool} {r : Run} {E : Nat → Addr} (h : In w sb m F bm sl fl) (G : Gs w E F) (h1 : -9223372036854775808 ≤ k) (h2 : k ≤ 9223372036854775807) (hl : look m.runs k = some r) (hs : r.shut = true) :
    Calls Tryz.prog 72 #[.pointer (some ⟨sb, 0, none⟩), .int .i64 k] w fun e w' => e = .returned (.tuple #[zc, er E 4]) ∧ Below w.heap.size w w' := by
  obtain ⟨a, c, ev⟩ := own_slice (h.rows.own r (look_mem hl).1)
  have HF : Hid (∀ o, Calls Tryz.prog 61 #[.pointer (some ⟨sb, 0, none⟩), .int .i64 k] (w.alloc o) fun e w' => e = .returned (.tuple #[.agg #[.slice a r.txt.length c, .bool true], .nilIface]) ∧ Below (w.alloc o).heap.size (w.alloc o) w') := fun o => by
    have := find_some (h.alloc o) h1 h2 hl
    rw [ev, hs] at this
    exact this
  have HG : Hid (∀ o w1, Below (w.alloc o).heap.size (w.alloc o) w1 → w1.cell? ⟨11, 0, none⟩ = some (er E 4) ∧ 11 < w1.heap.size) := fun o w1 hb => ⟨((G.new o).chg (Chg.of_below (F := F) hb)).shut, by have h3 := hb.size; have h4 := G.sz; simp at h3; omega⟩
  have hn1 : ¬ w.heap.size = 11 := by have := G.sz; omega
  have hn2 : ¬ 11 = w.heap.size := by have := G.sz; omega
  clear G h hl ev hs
  go_enter Tryz.func72, Tryz.ntmps72
  go_wp2_with (go_at_call 61; refine (unhide HF _).mono ?_; rintro e w1 ⟨rfl, hb⟩; obtain ⟨hc, hf⟩ := bcell hb; have hz : w.heap.size < w1.heap.size := (by have := hb.size; simp at this; omega); obtain ⟨hg, hg2⟩ := unhide HG _ w1 hb; have HB : Hid (Below w.heap.size w w1) := (((Below.refl _ w).alloc (Nat.le_refl _) _).trans (hb.mono (by simp))); clear hb)
  go_region
  all_goals
    go_wp2
    refine bodyPost_ret (v := .tuple #[zc, er E 4]) (by simp [results, Tryz.results72, go_sem, hc, hz]) rfl ⟨rfl, ?_⟩
    (repeat (first | exact unhide HB | refine Below.drew ?_ | refine Below.alloc ?_ (by first | (simp; done) | (simp; omega)) _ | refine Below.setCell ?_ (by first | (simp; done) | (simp; omega)) _))
theorem open_some {w : World} {sb : Nat} {m : Sto} {F : Nat → Prop} {k : Int} {bm : Nat} {sl : Nat → Value} {fl : Nat → Bool} {r : Run} (h : In w sb m F bm sl fl) (h1 : -9223372036854775808 ≤ k) (h2 : k ≤ 9223372036854775807) (hl : look m.runs k = some r) (hs : r.shut = false) :
    Calls Tryz.prog 72 #[.pointer (some ⟨sb, 0, none⟩), .int .i64 k] w fun e w' => e = .returned (.tuple #[.agg #[sl r.num, .bool false], .nilIface]) ∧ Below w.heap.size w w' := by
  obtain ⟨a, c, ev⟩ := own_slice (h.rows.own r (look_mem hl).1)
  rw [ev]
  have HF : Hid (∀ o, Calls Tryz.prog 61 #[.pointer (some ⟨sb, 0, none⟩), .int .i64 k] (w.alloc o) fun e w' => e = .returned (.tuple #[.agg #[.slice a r.txt.length c, .bool false], .nilIface]) ∧ Below (w.alloc o).heap.size (w.alloc o) w') := fun o => by
    have := find_some (h.alloc o) h1 h2 hl
    rw [ev, hs] at this
    exact this
  clear h hl ev hs
  go_enter Tryz.func72, Tryz.ntmps72
  go_wp2_with (go_at_call 61; refine (unhide HF _).mono ?_; rintro e w1 ⟨rfl, hb⟩; obtain ⟨hc, hf⟩ := bcell hb; have hz : w.heap.size < w1.heap.size := (by have := hb.size; simp at this; omega); have HB : Hid (Below w.heap.size w w1) := (((Below.refl _ w).alloc (Nat.le_refl _) _).trans (hb.mono (by simp))); clear hb)
  refine bodyPost_ret (v := .tuple #[.agg #[.slice a r.txt.length c, .bool false], .nilIface]) (by simp [results, Tryz.results72, go_sem, hc, hz]) rfl ⟨rfl, ?_⟩
  (repeat (first | exact unhide HB | refine Below.drew ?_ | refine Below.alloc ?_ (by first | (simp; done) | (simp; omega)) _ | refine Below.setCell ?_ (by first | (simp; done) | (simp; omega)) _))
end Rs
end Go.Proofs.YtohfhkdhccpoaaaGreatDoor
/- Layer 5: hasRoom. -/
namespace Go.Proofs.YtohfhkdhccpoaaaGreatDoor
open Go.RowKit
namespace Rs
def sz : List ByteArray → Nat
  | [] => 0
  | x :: t => x.size + sz t
theorem sz_app (a b : List ByteArray) : sz (a ++ b) = sz a + sz b := by
  induction a with
  | nil => simp [sz]
  | cons x t ih => simp [sz, ih]; omega
theorem sz_take {L : List ByteArray} {k : Nat} {x : ByteArray} (h : L[k]? = some x) : sz (L.take (k + 1)) = sz (L.take k) + x.size := by
  have hk := (List.getElem?_eq_some_iff.1 h).1
  rw [List.take_succ_eq_append_getElem hk, (List.getElem?_eq_some_iff.1 h).2, sz_app]
  simp [sz]
theorem sz_le (L : List ByteArray) (k : Nat) : sz (L.take k) ≤ sz L := by
  have := sz_app (L.take k) (L.drop k)
  rw [List.take_append_drop] at this
  omega
def Strs (w : World) (v : Value) (L : List ByteArray) : Prop :=
  ∃ ao cap, v = .slice ao L.length cap ∧ L.length ≤ 9223372036854775807 ∧ (0 < L.length → ∃ g off, ao = some ⟨g, off, none⟩ ∧ g < w.heap.size ∧ ∀ (j : Nat) x, L[j]? = some x → w.cell? ⟨g, off + j, none⟩ = some (.string x))
theorem Strs.below {w w' : World} {v : Value} {L : List ByteArray} (h : Strs w v L) (hb : Below w.heap.size w w') : Strs w' v L := by
  obtain ⟨ao, cap, e, hl, h2⟩ := h
  refine ⟨ao, cap, e, hl, fun h0 => ?_⟩
  obtain ⟨g, off, e1, hg, hc⟩ := h2 h0
  exact ⟨g, off, e1, Nat.lt_of_lt_of_le hg hb.size, fun j x hx => (hb.cell (p := ⟨g, off + j, none⟩) hg).trans (hc j x hx)⟩
set_option maxHeartbeats 1000000 in
theorem room_any {w : World} {sb : Nat} {m : Sto} {F : Nat → Prop} {v : Value} {L : List ByteArray} (h : At w sb m F) (hL : Strs w v L) :
    Calls Tryz.prog 73 #[.pointer (some ⟨sb, 0, none⟩), v] w fun e w' => e = .returned (.bool (decide (tot m.runs + sz L ≤ m.cap))) ∧ Below w.heap.size w w' := by
  have ok := h.ok
  have k1 := ok.cap
  have k2 := ok.used
  obtain ⟨mv, hs, _⟩ := h.map
  obtain ⟨c0, _, _, c3, _, _, fz⟩ := cells_sto hs
  obtain ⟨ao, cap, rfl, hn, hcc⟩ := hL
  have HC := hide hcc
  have HSL := hide (sz_le L)
  have HTK := hide (fun k x => @sz_take L k x)
  obtain ⟨R, hR⟩ : ∃ R : Nat, m.cap = tot m.runs + R := ⟨m.cap - tot m.runs, by omega⟩
  have HD : Hid (decide (tot m.runs + sz L ≤ m.cap) = decide (sz L ≤ R)) := hide (by rw [decide_eq_decide]; omega)
  obtain ⟨N, hN⟩ : ∃ N, N = L.length := ⟨_, rfl⟩
  rw [← hN] at hn ⊢
  have HN := hide hN
  rw [unhide HD]
  rw [show ((m.cap : Nat) : Int) = (tot m.runs : Int) + R by omega] at c0
  have hR2 : R ≤ 67108864 := by omega
  have hU2 : tot m.runs ≤ 67108864 := by omega
  generalize tot m.runs = U at *
  clear h hs hcc ok k1 k2 hN hR HD
  go_enter Tryz.func73, Tryz.ntmps73
  go_wp2
  go_region
  all_goals
    go_wp2
    go_loopw [5, 19] (fun r i wr => ∃ k : Nat, k ≤ N ∧ i = .int .i64 k ∧ r = .int .i64 ((R : Int) - (sz (L.take k) : Nat)) ∧ sz (L.take k) ≤ R ∧ Hid (Below w.heap.size w wr)) (fun _ i _ => N - (intOf i).toNat)
    case atStart => exact ⟨0, Nat.zero_le _, rfl, by simp [sz]; omega, by simp [sz], ((Below.refl _ _).drew)⟩
    case round =>
      obtain ⟨k, hk, rfl, rfl, hle, HB⟩ := hrel
      by_cases hlt : k < N
      · obtain ⟨x, hx⟩ : ∃ x, L[k]? = some x := ⟨_, List.getElem?_eq_getElem (by rw [← unhide HN]; exact hlt)⟩
        obtain ⟨g, off, rfl, hg, hc⟩ := unhide HC (by rw [← unhide HN]; omega)
        have hcx : wr.cell? ⟨g, off + k, none⟩ = some (.string x) := ((unhide HB).cell (p := ⟨g, off + k, none⟩) hg).trans (hc k x hx)
        have HS := hide (unhide HTK k x hx)
        have HS2 := hide (unhide HSL (k + 1))
        generalize sz (L.take k) = S at *
        have hltz : (k : Int) < (N : Int) := by omega
        clear hc hx
        by_cases hbig : (x.size : Int) > (R : Int) - (S : Int)
        · go_wp2
          go_ret
          rw [decide_eq_false (by have := unhide HS; have := unhide HS2; omega)]
          exact ⟨rfl, unhide HB⟩
        · go_wp2
          go_roundw
          case rel => exact ⟨k + 1, by omega, by go_num, by rw [unhide HS]; go_num, by rw [unhide HS]; omega, HB⟩
          case measure => simp [intOf]; omega
      · have e : k = N := by omega
        have HL : Hid (sz L = sz (L.take k)) := hide (by rw [e, unhide HN, List.take_length])
        have hltz : ¬ (k : Int) < (N : Int) := by omega
        clear e
        go_wp2
        go_ret
        rw [decide_eq_true (by rw [unhide HL]; exact hle)]
        exact ⟨rfl, unhide HB⟩
end Rs
end Go.Proofs.YtohfhkdhccpoaaaGreatDoor
/- Layer 5: the map of runs is written. No walk. -/
namespace Go.Proofs.YtohfhkdhccpoaaaGreatDoor
open Go.RowKit
namespace Rs
theorem gen_world {P : Program} {c : Code} {Q : Exit → Act → World → Prop} {a : Act} {W : World} (h : ∀ V, V = W → Code.wp P c Q a V) : Code.wp P c Q a W := h W rfl
structure Mp (w : World) (bm : Nat) (sl : Nat → Value) (fl : Nat → Bool) (l : List Run) (F : Nat → Prop) : Prop where
  bmF : F bm
  map : w.ownsMap Tryz.prog 3 Rh bm l.length (dat (el sl fl) l)
  rows : Rows w sl fl l F
theorem In.mp {w : World} {sb : Nat} {m : Sto} {F : Nat → Prop} {bm : Nat} {sl : Nat → Value} {fl : Nat → Bool} (h : In w sb m F bm sl fl) : Mp w bm sl fl m.runs F := ⟨h.bmF, h.map, h.rows⟩
section
variable {w w' : World} {bm : Nat} {sl : Nat → Value} {fl : Nat → Bool} {l : List Run} {F G : Nat → Prop}
theorem Mp.kept (h : Mp w bm sl fl l F) (hb : ∀ b, F b → w'.heap[b]? = w.heap[b]?) (hG : ∀ b, F b → G b) : Mp w' bm sl fl l G := ⟨hG _ h.bmF, map_kept h.map (hb _ h.bmF), h.rows.kept hb hG⟩
theorem Mp.row_ne (h : Mp w bm sl fl l F) {r : Run} (hr : r ∈ l) {g : Nat} (hg : (sl r.num).ownBlock = some g) : g ≠ bm := by
  intro e
  obtain ⟨c, fz, hk⟩ := Lib.ownsRow_kind (h.rows.own r hr) g hg
  obtain ⟨es, cl, hb, _⟩ := h.map
  rw [e, hb] at hk
  cases hk
theorem Mp.new (h : Mp w bm sl fl l F) {n : Nat} (hn : ∀ r ∈ l, r.num < n) (hs : n ≤ 16777216) (hl : l.length ≤ 16777216) :
    ∃ w', (Instr.mapUpdate 67 (.map (some bm)) (.int .i64 (n : Int)) zc).run Tryz.prog w = .ok () w' ∧ Mp w' bm (upd sl n (.slice none 0 0)) (updB fl n false) (l ++ [⟨n, [], false⟩]) F ∧ w.grownBy w' (some bm) := by
  obtain ⟨w', h1, h2, h3⟩ := h.map.update (t := 67) (e := 108) (val := zc) (d := .held zc) (ps := []) law3 Tryz.underlying67 (by unfold maxLen; omega) (key3 (k := (n : Int)) (by omega) (by omega)) rfl
  rw [dat_new _ hn, el_upd] at h2
  refine ⟨w', h1, ⟨h.bmF, map_tight h2, ⟨fun r hr => ?_, fun r hr => ?_, fun r hr g hg => ?_, fun r hr r' hr' hne g hg => ?_⟩⟩, h3⟩
  · rcases List.mem_append.1 hr with hr | hr
    · rw [updB_ne _ _ (by have := hn r hr; omega)]; exact h.rows.fl r hr
    · simp at hr; subst hr; rw [updB_same]
  · rcases List.mem_append.1 hr with hr | hr
    · rw [upd_ne _ _ (by have := hn r hr; omega)]
      exact own_kept (h.rows.own r hr) fun g hg => h3.block g ((h.rows.own r hr).lt g hg).2 fun e => h.row_ne hr hg (by cases e; rfl)
    · simp at hr; subst hr; rw [upd_same]; exact World.ownsRow_nil w' 0 5 1
  · rcases List.mem_append.1 hr with hr | hr
    · rw [upd_ne _ _ (by have := hn r hr; omega)] at hg; exact h.rows.inF r hr g hg
    · simp at hr; subst hr; rw [upd_same] at hg; cases hg
  · rcases List.mem_append.1 hr with hr | hr
    · rw [upd_ne _ _ (by have := hn r hr; omega)] at hg
      rcases List.mem_append.1 hr' with hr' | hr'
      · rw [upd_ne _ _ (by have := hn r' hr'; omega)]
        exact h.rows.apart r hr r' hr' hne g hg
      · simp at hr'; subst hr'; rw [upd_same]; intro e; cases e
    · simp at hr; subst hr; rw [upd_same] at hg; cases hg
theorem Mp.put (h : Mp w bm sl fl l F) (hs : l.Pairwise fun a b => a.num < b.num) {r0 r : Run} (h0 : r0 ∈ l) (hn : r.num = r0.num) (hk : r0.num ≤ 16777216) (hl : l.length ≤ 16777216) {v : Value}
    (ho : w.ownsRow 0 5 1 v r.txt.length (r.txt.map encB)) (hF : ∀ g, v.ownBlock = some g → F g) (hA : ∀ g, v.ownBlock = some g → ∀ x ∈ l, x.num ≠ r0.num → (sl x.num).ownBlock ≠ some g) :
    ∃ w', (Instr.mapUpdate 67 (.map (some bm)) (.int .i64 (r0.num : Int)) (.agg #[v, .bool r.shut])).run Tryz.prog w = .ok () w' ∧ Mp w' bm (upd sl r0.num v) (updB fl r0.num r.shut) (repl l r) F ∧ w.grownBy w' (some bm) := by
  obtain ⟨w', h1, h2, h3⟩ := h.map.update (t := 67) (e := 108) (val := .agg #[v, .bool r.shut]) (d := .held (.agg #[v, .bool r.shut])) (ps := []) law3 Tryz.underlying67 (by unfold maxLen; omega) (key3 (k := (r0.num : Int)) (by omega) (by omega)) rfl
  rw [dat_put _ hs h0 hn, el_upd] at h2
  have hbm : ∀ g, v.ownBlock = some g → g ≠ bm := fun g hg e => by
    obtain ⟨c, fz, hk⟩ := Lib.ownsRow_kind ho g hg
    obtain ⟨es, cl, hb, _⟩ := h.map
    rw [e, hb] at hk
    cases hk
  refine ⟨w', h1, ⟨h.bmF, map_tight h2, ⟨fun x hx => ?_, fun x hx => ?_, fun x hx g hg => ?_, fun x hx y hy hne g hg => ?_⟩⟩, h3⟩
  · rcases repl_mem hx with ⟨rfl, _⟩ | ⟨hx, hxn⟩
    · rw [hn, updB_same]
    · rw [updB_ne _ _ (by omega)]; exact h.rows.fl x hx
  · rcases repl_mem hx with ⟨rfl, _⟩ | ⟨hx, hxn⟩
    · rw [hn, upd_same]
      exact own_kept ho fun g hg => h3.block g (ho.lt g hg).2 fun e => hbm g hg (by cases e; rfl)
    · rw [upd_ne _ _ (by omega)]
      exact own_kept (h.rows.own x hx) fun g hg => h3.block g ((h.rows.own x hx).lt g hg).2 fun e => h.row_ne hx hg (by cases e; rfl)
  · rcases repl_mem hx with ⟨rfl, _⟩ | ⟨hx, hxn⟩
    · rw [hn, upd_same] at hg; exact hF g hg
    · rw [upd_ne _ _ (by omega)] at hg; exact h.rows.inF x hx g hg
  · rcases repl_mem hx with ⟨rfl, _⟩ | ⟨hx, hxn⟩
    · rw [hn, upd_same] at hg
      rcases repl_mem hy with ⟨rfl, _⟩ | ⟨hy, hyn⟩
      · exact absurd rfl hne
      · rw [upd_ne _ _ (by omega)]; exact hA g hg y hy (by omega)
    · rw [upd_ne _ _ (by omega)] at hg
      have hx2 : x ∈ l := by assumption
      rcases repl_mem hy with ⟨e0, _⟩ | ⟨hy, hyn⟩
      · rw [e0, hn, upd_same]; intro e; exact hA g e x hx2 (by omega) hg
      · rw [upd_ne _ _ (by omega)]; exact h.rows.apart x hx2 y hy hne g hg
theorem Mp.del (h : Mp w bm sl fl l F) {k : Int} (h1 : -9223372036854775808 ≤ k) (h2 : k ≤ 9223372036854775807) (ty : TypeId) :
    ∃ w', (Builtin.delete_ #[67, 3] ty #[.map (some bm), .int .i64 k]).run Tryz.prog w = .ok (.tuple #[]) w' ∧ Mp w' bm sl fl (drop l k) F ∧ w.grownBy w' (some bm) := by
  obtain ⟨w', e1, e2, e3⟩ := h.map.drop (t := 67) (e := 108) law3 Tryz.underlying67 (key3 h1 h2) ty
  rw [dat_del] at e2
  have e3 := e3.grown
  refine ⟨w', e1, ⟨h.bmF, map_tight e2, ⟨fun r hr => h.rows.fl r (drop_mem hr).1, fun r hr => ?_, fun r hr => h.rows.inF r (drop_mem hr).1, fun r hr r' hr' => h.rows.apart r (drop_mem hr).1 r' (drop_mem hr').1⟩⟩, e3⟩
  exact own_kept (h.rows.own r (drop_mem hr).1) fun g hg => e3.block g ((h.rows.own r (drop_mem hr).1).lt g hg).2 fun e => h.row_ne (drop_mem hr).1 hg (by cases e; rfl)
theorem Mp.made (w : World) (hF : F w.heap.size) : Mp (w.alloc (.map #[] 0)) w.heap.size sl fl [] F :=
  ⟨hF, World.ownsMap_made w _ _ _, ⟨by simp, by simp, by simp, by simp⟩⟩
end
end Rs
end Go.Proofs.YtohfhkdhccpoaaaGreatDoor
/- Layer 5: Create. -/
namespace Go.Proofs.YtohfhkdhccpoaaaGreatDoor
open Go.RowKit
namespace Rs
def errV (E : Nat → Addr) (c : Nat) : Value := if c = 0 then .nilIface else er E c
theorem errV_zero (E : Nat → Addr) : errV E 0 = .nilIface := rfl
theorem errV_pos (E : Nat → Addr) {c : Nat} (h : c ≠ 0) : errV E c = er E c := if_neg h
def Res (F : Nat → Prop) (w : World) (sb : Nat) (m : Sto) (w' : World) : Prop := At w' sb m (Up F w w') ∧ Chg F w w'
theorem At.res {F : Nat → Prop} {w w' : World} {sb : Nat} {m : Sto} (h : At w' sb m F) (c : Chg F w w') : Res F w sb m w' :=
  ⟨h.kept (fun _ _ => rfl) (fun _ hb => .inl hb) (fun b hb => hb.elim (h.lt b) fun x => x.2), c⟩
theorem Res.below {F : Nat → Prop} {w w1 w2 : World} {sb : Nat} {m : Sto} (h : Res F w sb m w1) (hb : Below w1.heap.size w1 w2) : Res F w sb m w2 :=
  ⟨h.1.up2 hb, h.2.trans (Chg.of_below hb)⟩
theorem Res.trans {F : Nat → Prop} {w w1 w2 : World} {sb : Nat} {m m1 : Sto} (h : Res F w sb m1 w1) (k : Res (Up F w w1) w1 sb m w2) : Res F w sb m w2 :=
  ⟨k.1.join h.2.size k.2.size, h.2.trans k.2⟩
def Sto.grow (m : Sto) : Sto := { m with made := m.made + 1 }
def Sto.newRun (m : Sto) : Sto := { m with made := m.made + 1, runs := m.runs ++ [⟨m.made + 1, [], false⟩] }
theorem newRun_ok {m : Sto} (h : m.Ok) (hm : m.made < 16777216) : m.newRun.Ok := by
  have et : tot m.newRun.runs = tot m.runs := by simp [Sto.newRun, tot_app, tot]
  refine ⟨h.cap, by simp only [Sto.newRun]; omega, by rw [et]; exact h.used, by rw [et]; exact h.peak, h.peakle, h.ahead, ?_, fun r hr => ?_⟩
  · simp only [Sto.newRun]
    rw [List.pairwise_append]
    exact ⟨h.sorted, by simp, fun a ha b hb => by simp at hb; subst hb; have := h.nums a ha; simp only; omega⟩
  · simp only [Sto.newRun] at hr ⊢
    rcases List.mem_append.1 hr with hr | hr
    · have := h.nums r hr; omega
    · simp at hr; subst hr; simp
def crt (m : Sto) : (Int × Nat) × Sto :=
  if m.ahead = 1 then ((0, 9), m.tick) else if 16777216 ≤ m.made then ((0, 8), m.tick) else ((((m.made + 1 : Nat) : Int), 0), m.tick.newRun)
/-- cells and map together -/
theorem At.of_mp {w : World} {sb : Nat} {m : Sto} {F : Nat → Prop} {bm : Nat} {sl : Nat → Value} {fl : Nat → Bool} (ok : m.Ok) (lt : ∀ b, F b → b < w.heap.size) (ho : F sb) (hs : w.heap[sb]? = some (.cells (stoC m (.map (some bm))) 69 (0, 0))) (h : Mp w bm sl fl m.runs F) : At w sb m F :=
  ⟨ok, lt, ho, _, hs, .inr ⟨bm, sl, fl, rfl, h.bmF, h.map, h.rows⟩⟩
theorem stoC_new (m : Sto) (mv : Value) : stoC m.newRun mv = stoC m.grow mv := by simp [stoC, Sto.newRun, Sto.grow, tot_app, tot]
theorem Mp.sub {w : World} {bm : Nat} {sl : Nat → Value} {fl : Nat → Bool} {l : List Run} {F G : Nat → Prop} (h : Mp w bm sl fl l F) (hG : ∀ b, F b → G b) : Mp w bm sl fl l G := h.kept (fun _ _ => rfl) hG
theorem res_of {w V : World} {sb bm : Nat} {m : Sto} {sl : Nat → Value} {fl : Nat → Bool} {F G : Nat → Prop} (ok : m.Ok) (hs : V.heap[sb]? = some (.cells (stoC m (.map (some bm))) 69 (0, 0))) (h : Mp V bm sl fl m.runs G) (hG : ∀ b, G b → Up F w V b) (hF : ∀ b, F b → b < w.heap.size) (ho : F sb) (c : Chg F w V) : Res F w sb m V :=
  ⟨At.of_mp ok (fun b hb => hb.elim (fun x => Nat.lt_of_lt_of_le (hF b x) c.size) fun x => x.2) (.inl ho) hs (h.sub hG), c⟩
/-- the last step of Create: the new run is laid into the map -/
theorem new_facts {V : World} {sb bm : Nat} {m : Sto} {sl : Nat → Value} {fl : Nat → Bool} {G : Nat → Prop} (ok : m.Ok) (hm : m.made < 16777216) (hs : V.heap[sb]? = some (.cells (stoC m.grow (.map (some bm))) 69 (0, 0))) (h : Mp V bm sl fl m.runs G) :
    ∃ V1, (Instr.mapUpdate 67 (.map (some bm)) (.int .i64 ((m.made + 1 : Nat) : Int)) zc).run Tryz.prog V.drew = .ok () V1 ∧ (∃ sl fl, Mp V1 bm sl fl m.newRun.runs G) ∧ V1.heap[sb]? = some (.cells (stoC m.newRun (.map (some bm))) 69 (0, 0)) ∧ V.drew.grownBy V1 (some bm) := by
  have hne : sb ≠ bm := fun e => by
    obtain ⟨es, cl, hb, _⟩ := h.map
    rw [← e, hs] at hb
    cases hb
  have hd : Mp V.drew bm sl fl m.runs G := h.kept (fun _ _ => rfl) (fun _ x => x)
  have hl := ok.len
  obtain ⟨V1, h1, h2, h3⟩ := hd.new (n := m.made + 1) (fun r hr => by have := ok.nums r hr; omega) (by omega) (by omega)
  refine ⟨V1, h1, ⟨_, _, h2⟩, ?_, h3⟩
  rw [stoC_new, h3.block sb (Array.getElem?_eq_some_iff.1 hs).1 (fun e => hne (by cases e; rfl))]
  exact hs
theorem eq_map (w : World) (b : Nat) : (binOp .eql 67 (.map (some b)) (.map none)).run Tryz.prog w = .ok (.bool false) w := by
  have h : ∀ d : Nat, (Op.equalIn (d + 1) 67 (.map (some b)) (.map none)).run Tryz.prog w = .ok false w := fun d => by simp [Op.equalIn, run_underlying Tryz.underlying67]
  simp only [binOp]
  simp [Op.equal, Op.maxDepth, h 9999]
theorem eq_nomap (w : World) : (binOp .eql 67 (.map none) (.map none)).run Tryz.prog w = .ok (.bool true) w := by
  have h : ∀ d : Nat, (Op.equalIn (d + 1) 67 (.map none) (.map none)).run Tryz.prog w = .ok true w := fun d => by simp [Op.equalIn, run_underlying Tryz.underlying67]
  simp only [binOp]
  simp [Op.equal, Op.maxDepth, h 9999]
theorem create_nil (w : World) {E : Nat → Addr} {F : Nat → Prop} (G : Gs w E F) : Calls Tryz.prog 29 #[.pointer none] w fun e w' => e = .returned (.tuple #[.int .i64 0, errV E 1]) ∧ Below w.heap.size w w' := by
  have HS := hide (step_nil w G)
  clear G
  go_enter Tryz.func29, Tryz.ntmps29
  go_wp2_with (go_at_call 55; refine (unhide HS).mono ?_; rintro e w1 ⟨rfl, rfl⟩)
  go_ret2
  exact ⟨rfl, Below.refl _ _⟩
set_option maxRecDepth 100000 in
set_option maxHeartbeats 1000000 in
theorem create_any {w : World} {sb : Nat} {m : Sto} {F : Nat → Prop} {E : Nat → Addr} (h : At w sb m F) (G : Gs w E F) :
    Calls Tryz.prog 29 #[.pointer (some ⟨sb, 0, none⟩)] w fun e w' => e = .returned (.tuple #[.int .i64 (crt m).1.1, errV E (crt m).1.2]) ∧ Res F w sb (crt m).2 w' := by
  by_cases ha : m.ahead = 1
  · have HS := hide (step_yes h G ha)
    have HR : Hid (crt m = ((0, 9), m.tick)) := hide (by unfold crt; rw [if_pos ha])
    clear h G ha
    rw [unhide HR]
    go_enter Tryz.func29, Tryz.ntmps29
    go_wp2_with (go_at_call 55; refine (unhide HS).mono ?_; rintro e w1 ⟨rfl, h1, h2, h3⟩; clear h3; have H1 := hide h1; have H2 := hide h2; clear h1 h2)
    go_ret2
    exact ⟨rfl, (unhide H1).res (unhide H2)⟩
  by_cases hm : 16777216 ≤ m.made
  · have HS := hide (step_no h ha)
    have HR : Hid (crt m = ((0, 8), m.tick)) := hide (by unfold crt; rw [if_neg ha, if_pos hm])
    have HG : Hid (∀ w1, Chg F w w1 → w1.cell? ⟨6, 0, none⟩ = some (er E 8)) := fun w1 c => (G.chg c).spent
    have hmi : (16777216 : Int) ≤ (m.made : Int) := by omega
    clear h G ha hm
    rw [unhide HR]
    go_enter Tryz.func29, Tryz.ntmps29
    go_wp2_with (go_at_call 55; refine (unhide HS).mono ?_; rintro e w1 ⟨rfl, h1, h2, h3⟩; clear h3; have hg := unhide HG w1 h2; obtain ⟨mv, hs, hmm⟩ := h1.map; obtain ⟨_, _, c2, _⟩ := cells_sto hs; clear hmm hs; simp only [Sto.tick] at c2; have H1 := hide h1; have H2 := hide h2; clear h1 h2)
    go_region
    all_goals
      go_wp2
      go_ret2
      exact ⟨rfl, ((unhide H1).res (unhide H2)).below (Below.refl _ _).drew⟩
  · have HS := hide (step_no h ha)
    have HR : Hid (crt m = ((((m.made + 1 : Nat) : Int), 0), m.tick.newRun)) := hide (by unfold crt; rw [if_neg ha, if_neg hm])
    obtain ⟨M, hM⟩ : ∃ M : Int, M = (m.made : Int) := ⟨_, rfl⟩
    have hmi : M < 16777216 := by omega
    have hm0 : 0 ≤ M := by omega
    have HM := hide hm
    have HMM := hide hM
    have HLT := hide h.lt
    clear h G ha hm hM
    rw [unhide HR]
    go_enter Tryz.func29, Tryz.ntmps29
    go_wp2_with fail
    refine (unhide HS).mono ?_
    rintro e w1 ⟨rfl, h1, h2, h3⟩
    have H1 := hide h1
    have H2 := hide h2
    have hsb := h1.lt _ h1.own
    rcases h1.open with ⟨hs, he⟩ | ⟨bm, sl, fl, hin⟩
    · obtain ⟨_, c1, c2, _, _, _, fz⟩ := cells_sto hs
      simp only [Sto.tick] at c2
      rw [← unhide HMM] at c2
      have hmm := @run_makeMap Tryz.prog
      have heq := eq_nomap
      have HH := hide hs
      have HE := hide he
      clear hs he h1 h2 h3
      go_wp2
      refine gen_world ?_
      intro V hV
      have hsV : V.heap[sb]? = some (.cells (stoC m.tick.grow (.map (some w1.heap.size))) 69 (0, 0)) := by
        rw [hV, Below.heap_alloc _ _ _ (by simpa [World.setCell] using hsb), set_heap1 (set_heap1 (unhide HH) _) _]
        have e : ((m.tick.grow.made : Nat) : Int) = M + 1 := by have := unhide HMM; simp only [Sto.tick, Sto.grow]; omega
        simp only [stoC, e]
        rfl
      have hsz : ((w1.setCell ⟨sb, 1, none⟩ (.map (some w1.heap.size))).setCell ⟨sb, 2, none⟩ (.int .i64 (M + 1))).heap.size = w1.heap.size := by simp [World.setCell]
      have hmpV : Mp V w1.heap.size (fun _ => .nilIface) (fun _ => false) m.tick.runs (fun b => F b ∨ b = w1.heap.size) := by
        rw [unhide HE, hV]
        have := Mp.made (sl := fun _ => .nilIface) (fl := fun _ => false) (F := fun b => F b ∨ b = w1.heap.size) ((w1.setCell ⟨sb, 1, none⟩ (.map (some w1.heap.size))).setCell ⟨sb, 2, none⟩ (.int .i64 (M + 1))) (.inr hsz)
        rw [hsz] at this
        exact this
      have hVs : w1.heap.size < V.drew.heap.size := by show _ < V.heap.size; rw [hV]; simp [World.setCell]
      have HCV : Chg F w V := by rw [hV]; exact (((unhide H2).setCell (.inl (unhide H1).own) _).setCell (.inl (unhide H1).own) _).alloc _
      have HG3 : F w1.heap.size ∨ w.heap.size ≤ w1.heap.size := .inr (unhide H2).size
      clear hsz
      obtain ⟨V1, hrun, HMP, hs1, hgr⟩ := new_facts (m := m.tick) (unhide H1).ok (by have := unhide HM; simp only [Sto.tick]; omega) hsV hmpV
      obtain ⟨-, k1, k2, -, -, -, kf⟩ := cells_sto hsV
      obtain ⟨-, -, j2, -⟩ := cells_sto hs1
      have e1 : ((m.tick.made + 1 : Nat) : Int) = M + 1 := by have := unhide HMM; simp only [Sto.tick]; omega
      have e2 : ((m.tick.grow.made : Nat) : Int) = M + 1 := e1
      have e3 : ((m.tick.newRun.made : Nat) : Int) = M + 1 := e1
      rw [e1] at hrun
      rw [e2] at k2
      rw [e3] at j2
      have HFIN : Hid (Res F w sb m.tick.newRun V1) := by
        obtain ⟨sl1, fl1, hmp1⟩ := HMP
        exact res_of (newRun_ok (unhide H1).ok (by have := unhide HM; simp only [Sto.tick]; omega)) hs1 hmp1 (fun b hb => by
          rcases hb with x | x
          · exact .inl x
          · exact .inr ⟨by rw [x]; exact (unhide H2).size, by rw [x]; exact Nat.lt_of_lt_of_le hVs hgr.size⟩) (unhide HLT) (unhide H1).own ((HCV.drew).grown hgr (fun k hk => by cases hk; exact HG3))
      have HE1 : Hid (((m.made + 1 : Nat) : Int) = M + 1) := hide e1
      clear hV e1 e2 e3 hs1 hgr HMP hsV hmpV HCV HG3 hVs
      go_region
      all_goals
        go_wp2
        go_ret2
        refine ⟨?_, unhide HFIN⟩
        rw [unhide HE1]
        rfl
    · obtain ⟨_, c1, c2, _, _, _, fz⟩ := cells_sto hin.sto
      simp only [Sto.tick] at c2
      rw [← unhide HMM] at c2
      have HI := hide hin
      have heq := eq_map
      clear hin h1 h2 h3
      go_wp2
      refine gen_world ?_
      intro V hV
      have hbn : bm ≠ sb := fun e => by
        obtain ⟨es, cl, hb, _⟩ := (unhide HI).map
        rw [e, (unhide HI).sto] at hb
        cases hb
      have hsV : V.heap[sb]? = some (.cells (stoC m.tick.grow (.map (some bm))) 69 (0, 0)) := by
        rw [hV, set_heap1 (unhide HI).sto _]
        have e : ((m.tick.grow.made : Nat) : Int) = M + 1 := by have := unhide HMM; simp only [Sto.tick, Sto.grow]; omega
        simp only [stoC, e]
        rfl
      have hmpV : Mp V bm sl fl m.tick.runs F := by
        rw [hV]
        refine ⟨(unhide HI).bmF, map_kept (unhide HI).map (Below.heap_setCell _ _ _ _ hbn), ⟨(unhide HI).rows.fl, fun r hr => own_kept ((unhide HI).rows.own r hr) fun g hg => Below.heap_setCell _ _ _ _ fun e => ?_, (unhide HI).rows.inF, (unhide HI).rows.apart⟩⟩
        obtain ⟨c, fz, hk⟩ := Lib.ownsRow_kind ((unhide HI).rows.own r hr) g hg
        rw [show g = sb from e, (unhide HI).sto] at hk
        injection hk with hk
        injection hk with _ hk _
        exact absurd hk (by decide)
      have hVs : True := trivial
      have HCV : Chg F w V := by rw [hV]; exact (unhide H2).setCell (.inl (unhide H1).own) _
      have HG3 : F bm ∨ w.heap.size ≤ bm := .inl (unhide HI).bmF
      obtain ⟨V1, hrun, HMP, hs1, hgr⟩ := new_facts (m := m.tick) (unhide H1).ok (by have := unhide HM; simp only [Sto.tick]; omega) hsV hmpV
      obtain ⟨-, k1, k2, -, -, -, kf⟩ := cells_sto hsV
      obtain ⟨-, -, j2, -⟩ := cells_sto hs1
      have e1 : ((m.tick.made + 1 : Nat) : Int) = M + 1 := by have := unhide HMM; simp only [Sto.tick]; omega
      have e2 : ((m.tick.grow.made : Nat) : Int) = M + 1 := e1
      have e3 : ((m.tick.newRun.made : Nat) : Int) = M + 1 := e1
      rw [e1] at hrun
      rw [e2] at k2
      rw [e3] at j2
      have HFIN : Hid (Res F w sb m.tick.newRun V1) := by
        obtain ⟨sl1, fl1, hmp1⟩ := HMP
        exact res_of (newRun_ok (unhide H1).ok (by have := unhide HM; simp only [Sto.tick]; omega)) hs1 hmp1 (fun b hb => by
          exact .inl hb) (unhide HLT) (unhide H1).own ((HCV.drew).grown hgr (fun k hk => by cases hk; exact HG3))
      have HE1 : Hid (((m.made + 1 : Nat) : Int) = M + 1) := hide e1
      clear hV e1 e2 e3 hs1 hgr HMP hsV hmpV HCV HG3 hVs
      go_region
      all_goals
        go_wp2
        go_ret2
        refine ⟨?_, unhide HFIN⟩
        rw [unhide HE1]
        rfl
end Rs
end Go.Proofs.YtohfhkdhccpoaaaGreatDoor
