/- Layer 10: the program's and the document's stores beside each other. -/
import Derived.Test.YtohfhkdhccpoaaaGreatDoorNh
import Derived.Test.YtohfhkdhccpoaaaGreatDoorNc
import Derived.Test.YtohfhkdhccpoaaaGreatDoorMo
import Derived.Test.YtohfhkdhccpoaaaGreatDoorMr0
import Derived.Test.YtohfhkdhccpoaaaGreatDoorGs
import Derived.Test.YtohfhkdhccpoaaaGreatDoorYc10
namespace Go.Proofs.YtohfhkdhccpoaaaGreatDoor
open Go.RowKit Go.Shelf
namespace Rs
open Sm (Tx ofS)
/-- the end of a region whose slots are settled -/
def OneS (A : Act) (S : World → Prop) (e : Exit) (a : Act) (w : World) : Prop := e = .normal ∧ a = A ∧ S w
theorem ones_intro {A : Act} {S : World → Prop} {W : World} (h : S W) : NoPanic (OneS A S) .normal A W := ⟨rfl, rfl, h⟩
theorem wp_ones {P : Program} {c : Code} {Q : Exit → Act → World → Prop} {a A : Act} {w : World} {S : World → Prop} (h : c.wp P (NoPanic (OneS A S)) a w) (hQ : ∀ W, S W → Q .normal A W) : c.wp P Q a w :=
  Code.wp_mono (fun e a w hh => by
    have h2 := NoPanic.imp e a w hh
    obtain ⟨rfl, rfl, h3⟩ := h2
    exact hQ _ h3) h
/-- the document's store -/
def ddT (sb : Nat) (m : Sto) : Thing := ⟨fun w H => ∃ rv sl, DIn w sb m H rv sl, fun ⟨_, _, h⟩ => h.lt, fun ⟨rv, sl, h⟩ a b c => ⟨rv, sl, h.kept a b c⟩⟩
theorem bel_al3 (W : World) (o : Obj) : Below W.heap.size W (W.alloc o) := (Below.refl _ W).alloc (Nat.le_refl _) o
theorem one_parts (W : World) (F : Nat → Prop) (x : Tx) (hF : ∀ b, F b → b < W.heap.size) : Parts (W.alloc (.cells #[.string x] 9)) (.slice (some ⟨W.heap.size, 0, none⟩) 1 1) [x] F := by
  refine ⟨some ⟨W.heap.size, 0, none⟩, 1, rfl, by simp, fun _ => ⟨W.heap.size, 0, rfl, by simp, fun q => by have := hF _ q; omega, fun j z hz => ?_⟩⟩
  have hj := (List.getElem?_eq_some_iff.1 hz).1
  simp at hj
  subst hj
  simp at hz
  subst hz
  rw [World.cell?_alloc_at _ _ _ _ rfl]
  rfl
section
variable {w wr : World} {E : Nat → Addr} {L : List Thing} {D : Nat → Nat} {i sb : Nat} {m : Sto}
theorem sep_dnew (h : Sep w L D wr) (c : Int) (h1 : -9223372036854775808 ≤ c) (h2 : c ≤ 9223372036854775807) :
    Calls Tryz.prog 10 #[.int .i64 c] wr fun e w' => e = .returned (.pointer (some ⟨wr.heap.size, 0, none⟩)) ∧ Sep w (L ++ [ddT wr.heap.size (newS c)]) (fun _ => w'.heap.size) w' ∧ w'.heap.size = wr.heap.size + 1 := by
  refine (dnew_any c wr h1 h2).mono ?_
  rintro e w' ⟨rfl, h3, h4, h5⟩
  exact ⟨rfl, h.add (T := ddT wr.heap.size (newS c)) ⟨_, _, h3⟩ (fun b hb => by rw [hb]; exact Nat.le_refl _) h4, h5⟩
theorem sep_seal (V : EnvZ w E w.heap.size) (h : Sep w L D wr) (hi : L[i]? = some (stoT sb m)) (k : Int) (h1 : -9223372036854775808 ≤ k) (h2 : k ≤ 9223372036854775807) :
    Calls Tryz.prog 47 #[.pointer (some ⟨sb, 0, none⟩), .int .i64 k] wr fun e w' => e = .returned (errV E (sel m k).1) ∧ Sep w (L.set i (stoT sb (sel m k).2)) (fun _ => w'.heap.size) w' := by
  obtain ⟨F, k1, k2, k3, k4⟩ := h.call (Below.refl _ _) hi
  have k1' : At wr sb m F := k1
  refine (seal_any k1' ((V.below k3).toEnv.gs fun b hb => (k2 b hb).1) h1 h2).mono ?_
  rintro e w' ⟨rfl, r⟩
  exact ⟨rfl, (k4 (stoT sb (sel m k).2) w' r.1 r.2 w' (Chg.refl _ _)).reset⟩
theorem sep_append (V : EnvZ w E w.heap.size) (h : Sep w L D wr) (hi : L[i]? = some (stoT sb m)) (k : Int) (h1 : -9223372036854775808 ≤ k) (h2 : k ≤ 9223372036854775807) (x : Tx) :
    Calls Tryz.prog 45 #[.pointer (some ⟨sb, 0, none⟩), .int .i64 k, .slice (some ⟨wr.heap.size, 0, none⟩) 1 1] (wr.alloc (.cells #[.string x] 9)) fun e w' => e = .returned (errV E (app m k [x]).1) ∧ Sep w (L.set i (stoT sb (app m k [x]).2)) (fun _ => w'.heap.size) w' := by
  obtain ⟨F, k1, k2, k3, k4⟩ := h.call (bel_al3 wr (.cells #[.string x] 9)) hi
  have k1' : At (wr.alloc (.cells #[.string x] 9)) sb m F := k1
  refine (append_any k1' ((V.below k3).toEnv.gs fun b hb => (k2 b hb).1) h1 h2 (one_parts wr F x fun b q => (k2 b q).2.1)).mono ?_
  rintro e w' ⟨rfl, r⟩
  exact ⟨rfl, (k4 (stoT sb (app m k [x]).2) w' r.1 r.2 w' (Chg.refl _ _)).reset⟩
theorem sep_break (h : Sep w L D wr) (hi : L[i]? = some (stoT sb m)) (n : Int) (hn : n ≤ 9223372036854775807) :
    Calls Tryz.prog 24 #[.pointer (some ⟨sb, 0, none⟩), .int .i64 n] wr fun e w' => e = .returned (.tuple #[]) ∧ Sep w (L.set i (stoT sb (m.brk n))) (fun _ => w'.heap.size) w' := by
  obtain ⟨F, k1, k2, k3, k4⟩ := h.call (Below.refl _ _) hi
  have k1' : At wr sb m F := k1
  refine (break_any k1' n hn).mono ?_
  rintro e w' ⟨rfl, r⟩
  exact ⟨rfl, (k4 (stoT sb (m.brk n)) w' r.1 r.2 w' (Chg.refl _ _)).reset⟩
theorem sep_used10 (h : Sep w L D wr) (hi : L[i]? = some (stoT sb m)) :
    Calls Tryz.prog 21 #[.pointer (some ⟨sb, 0, none⟩)] wr fun e w' => e = .returned (.int .i64 (tot m.runs)) ∧ w' = wr := by
  obtain ⟨F, k1, k2, k3, -⟩ := h.call (Below.refl _ _) hi
  have k1' : At wr sb m F := k1
  exact used_any k1'
theorem sep_dcreate (h : Sep w L D wr) (hi : L[i]? = some (ddT sb m)) :
    Calls Tryz.prog 44 #[.pointer (some ⟨sb, 0, none⟩)] wr fun e w' => e = .returned (.tuple #[.int .i64 (crt m).1.1, .int .i64 (crt m).1.2]) ∧ Sep w (L.set i (ddT sb (crt m).2)) (fun _ => w'.heap.size) w' := by
  obtain ⟨F, ⟨rv, sl, k1⟩, k2, k3, k4⟩ := h.call (Below.refl _ _) hi
  refine (create_doc k1).mono ?_
  rintro e w' ⟨rfl, r1, r2⟩
  exact ⟨rfl, (k4 (ddT sb (crt m).2) w' r1 r2 w' (Chg.refl _ _)).reset⟩
theorem sep_dseal (h : Sep w L D wr) (hi : L[i]? = some (ddT sb m)) (k : Int) :
    Calls Tryz.prog 48 #[.pointer (some ⟨sb, 0, none⟩), .int .i64 k] wr fun e w' => e = .returned (.int .i64 (sel m k).1) ∧ Sep w (L.set i (ddT sb (sel m k).2)) (fun _ => w'.heap.size) w' := by
  obtain ⟨F, ⟨rv, sl, k1⟩, k2, k3, k4⟩ := h.call (Below.refl _ _) hi
  refine (seal_doc k1 k).mono ?_
  rintro e w' ⟨rfl, r1, r2, r3⟩
  exact ⟨rfl, (k4 (ddT sb (sel m k).2) w' ⟨rv, sl, r1.up⟩ r2 w' (Chg.refl _ _)).reset⟩
theorem sep_dbreak (h : Sep w L D wr) (hi : L[i]? = some (ddT sb m)) (n : Int) (hn : n ≤ 9223372036854775807) :
    Calls Tryz.prog 25 #[.pointer (some ⟨sb, 0, none⟩), .int .i64 n] wr fun e w' => e = .returned (.tuple #[]) ∧ Sep w (L.set i (ddT sb (m.brk n))) (fun _ => w'.heap.size) w' := by
  obtain ⟨F, ⟨rv, sl, k1⟩, k2, k3, k4⟩ := h.call (Below.refl _ _) hi
  refine (break_doc k1 n hn).mono ?_
  rintro e w' ⟨rfl, r1, r2, r3⟩
  exact ⟨rfl, (k4 (ddT sb (m.brk n)) w' ⟨rv, sl, r1.up⟩ r2 w' (Chg.refl _ _)).reset⟩
theorem sep_dappend (h : Sep w L D wr) (hi : L[i]? = some (ddT sb m)) (k : Int) (x : Tx) :
    Calls Tryz.prog 46 #[.pointer (some ⟨sb, 0, none⟩), .int .i64 k, .slice (some ⟨wr.heap.size, 0, none⟩) 1 1] (wr.alloc (.cells #[.string x] 9)) fun e w' => e = .returned (.int .i64 ((app m k [x]).1 : Nat)) ∧ Sep w (L.set i (ddT sb (app m k [x]).2)) (fun _ => w'.heap.size) w' := by
  obtain ⟨F, ⟨rv, sl, k1⟩, k2, k3, k4⟩ := h.call (bel_al3 wr (.cells #[.string x] 9)) hi
  refine (append_doc k1 k (one_parts wr F x fun b q => (k2 b q).2.1) _ _ (rfl : app m k [x] = ((app m k [x]).1, (app m k [x]).2))).mono ?_
  rintro e w' ⟨rfl, r⟩
  exact ⟨rfl, (k4 (ddT sb (app m k [x]).2) w' r.1 r.2 w' (Chg.refl _ _)).reset⟩
theorem sep_sortany {fan b c n : Nat} {m' : Sto} {v : Value} {X : List Tx} (V : EnvZ w E w.heap.size) (h : Sep w L D wr) (hi : L[i]? = some (stoT sb m)) (hT : Um.Txs wr v X) (hv : ∀ a n c, v = .slice (some a) n c → (a.block < w.heap.size ∨ D i ≤ a.block) ∧ a.block < wr.heap.size) (hm : X.length ≤ 16777215) (hb1 : 1 ≤ b) (hb2 : b ≤ 65536) (h2 : 2 ≤ fan) (h64 : fan ≤ 64) (hS : Srt m b fan X c m' n) :
    Calls Tryz.prog 15 #[.pointer (some ⟨sb, 0, none⟩), .int .i64 b, .int .i64 fan, v] wr fun e w' => e = .returned (.tuple #[.int .i64 (n : Nat), errV E c]) ∧ Sep w (L.set i (stoT sb m')) (fun _ => w'.heap.size) w' := by
  obtain ⟨F, k1, k2, k3, k4⟩ := h.call (Below.refl _ _) hi
  have k1' : At wr sb m F := k1
  refine (sort_any (V.below k3) (fun b hb => (k2 b hb).1) k3.size k1' hT (fun a n c e => ⟨fun q => ?_, (hv a n c e).2⟩) hm hb1 hb2 h2 h64 hS).mono ?_
  · have := k2 _ q
    rcases (hv a n c e).1 with y | y <;> omega
  · rintro e w' ⟨rfl, r⟩
    exact ⟨rfl, (k4 (stoT sb m') w' r.1 r.2 w' (Chg.refl _ _)).reset⟩
theorem sep_dsort {fan b c n : Nat} {m' : Sto} {v : Value} {X : List Tx} (h : Sep w L D wr) (hi : L[i]? = some (ddT sb m)) (hT : Um.Txs wr v X) (hv : 0 < X.length → ∀ a n c, v = .slice (some a) n c → (a.block < w.heap.size ∨ D i ≤ a.block) ∧ a.block < wr.heap.size) (hm : X.length ≤ 1048576) (hb1 : 1 ≤ b) (hb2 : b ≤ 65536) (h2 : 2 ≤ fan) (h64 : fan ≤ 64) (hS : Srt m b fan X c m' n) :
    Calls Tryz.prog 26 #[.pointer (some ⟨sb, 0, none⟩), .int .i64 b, .int .i64 fan, v] wr fun e w' => e = .returned (.tuple #[.int .i64 (n : Nat), .int .i64 c]) ∧ Sep w (L.set i (ddT sb m')) (fun _ => w'.heap.size) w' := by
  obtain ⟨F, ⟨rv, sl, k1⟩, k2, k3, k4⟩ := h.call (Below.refl _ _) hi
  refine (sort_doc k1 hT (fun h0 a n c e => ⟨fun q => ?_, (hv h0 a n c e).2⟩) hm hb1 hb2 h2 h64 hS).mono ?_
  · have := k2 _ q
    rcases (hv h0 a n c e).1 with y | y <;> omega
  · rintro e w' ⟨rfl, r⟩
    exact ⟨rfl, (k4 (ddT sb m') w' r.1 r.2 w' (Chg.refl _ _)).reset⟩
end
end Rs
end Go.Proofs.YtohfhkdhccpoaaaGreatDoor
