/- Layer 6: a writer's calls that do not go well: of a dead, of a closed writer, of a text that does not fit; Open where no run is made; Drop. -/
import Derived.Test.YtohfhkdhccpoaaaGreatDoorGe
import Derived.Test.YtohfhkdhccpoaaaGreatDoorGg
import Derived.Test.YtohfhkdhccpoaaaGreatDoorGf
import Derived.Defers
import Derived.Deep.RegionHeld3
namespace Go.Proofs.YtohfhkdhccpoaaaGreatDoor
open Go.RowKit
namespace Rs
/-- a closed writer -/
def WCl (w : World) (wb : Nat) : Prop := w.heap[wb]? = some (.cells #[.pointer none, .int .i64 0, .int .i64 0, .slice none 0 0, .nilIface] 174 (0, 0))
theorem WCl.below {w W : World} {wb : Nat} (h : WCl w wb) (hb : Below w.heap.size w W) : WCl W wb := (hb.block wb (Array.getElem?_eq_some_iff.1 h).1).trans h
theorem WCl.cell {w : World} {wb : Nat} (h : WCl w wb) : w.cell? ⟨wb, 0, none⟩ = some (.pointer none) := by unfold WCl at h; simp [World.cell?, h]
set_option maxRecDepth 100000 in
theorem check_closed {w : World} {E : Nat → Addr} {B wb : Nat} (V : Env w E B) (h : WCl w wb) :
    Calls Tryz.prog 115 #[.pointer (some ⟨wb, 0, none⟩)] w fun e w' => e = .returned (er E 13) ∧ w' = w := by
  have c0 := h.cell
  have hcl := V.cl
  clear h V
  go_enter Tryz.func115, Tryz.ntmps115
  go_wp2
  go_ret
  exact ⟨rfl, rfl⟩
theorem errV_er {E : Nat → Addr} {c : Nat} (h : c ≠ 0) : errV E c = er E c := by unfold errV; rw [if_neg h]
/-- a call whose check fails -/
theorem put_check {w : World} {wb : Nat} {v : Value} {E : Nat → Addr} {c : Nat} (h : Calls Tryz.prog 115 #[.pointer (some ⟨wb, 0, none⟩)] w fun e w' => e = .returned (er E c) ∧ w' = w) :
    Calls Tryz.prog 79 #[.pointer (some ⟨wb, 0, none⟩), v] w fun e w' => e = .returned (er E c) ∧ w' = w := by
  have HCK := hide h
  clear h
  unfold er at *
  go_enter Tryz.func79, Tryz.ntmps79
  go_wp2_with (go_at_call 115; refine (unhide HCK).mono ?_; rintro e w1 ⟨rfl, hw1⟩; have hw2 := hw1.symm; subst hw2; clear hw1)
  go_ret
  exact ⟨rfl, rfl⟩
theorem close_check {w : World} {wb : Nat} {E : Nat → Addr} {c : Nat} (h : Calls Tryz.prog 115 #[.pointer (some ⟨wb, 0, none⟩)] w fun e w' => e = .returned (er E c) ∧ w' = w) :
    Calls Tryz.prog 81 #[.pointer (some ⟨wb, 0, none⟩)] w fun e w' => e = .returned (.tuple #[.int .i64 0, er E c]) ∧ w' = w := by
  have HCK := hide h
  clear h
  unfold er at *
  go_enter Tryz.func81, Tryz.ntmps81
  go_wp2_with (go_at_call 115; refine (unhide HCK).mono ?_; rintro e w1 ⟨rfl, hw1⟩; have hw2 := hw1.symm; subst hw2; clear hw1)
  go_ret2
  exact ⟨rfl, rfl⟩
section
variable {w : World} {E : Nat → Addr} {B sb wb : Nat} {x : Wri} {G : Nat → Prop} {bv v : Value}
theorem put_dead (h : WIn w E sb wb x G bv) (hx : x.dead ≠ 0) :
    Calls Tryz.prog 79 #[.pointer (some ⟨wb, 0, none⟩), v] w fun e w' => e = .returned (er E x.dead) ∧ w' = w :=
  put_check (by have := check_any h; rwa [errV_er hx] at this)
theorem put_closed (V : Env w E B) (h : WCl w wb) :
    Calls Tryz.prog 79 #[.pointer (some ⟨wb, 0, none⟩), v] w fun e w' => e = .returned (er E 13) ∧ w' = w := put_check (check_closed V h)
theorem close_dead (h : WIn w E sb wb x G bv) (hx : x.dead ≠ 0) :
    Calls Tryz.prog 81 #[.pointer (some ⟨wb, 0, none⟩)] w fun e w' => e = .returned (.tuple #[.int .i64 0, er E x.dead]) ∧ w' = w :=
  close_check (by have := check_any h; rwa [errV_er hx] at this)
theorem close_closed (V : Env w E B) (h : WCl w wb) :
    Calls Tryz.prog 81 #[.pointer (some ⟨wb, 0, none⟩)] w fun e w' => e = .returned (.tuple #[.int .i64 0, er E 13]) ∧ w' = w := close_check (check_closed V h)
end
set_option maxRecDepth 100000 in
set_option maxHeartbeats 1000000 in
theorem put_unfit {w : World} {E : Nat → Addr} {B sb wb : Nat} {x : Wri} {G : Nat → Prop} {bv v : Value} {L : List ByteArray} (V : Env w E B) (hB : B ≤ w.heap.size) (hw : WIn w E sb wb x G bv) (hx : x.dead = 0) (hT : Um.Txs w v L) (hn : L.length ≤ 1048576) (hfit : Um.fit (Um.rl L) = false) :
    Calls Tryz.prog 79 #[.pointer (some ⟨wb, 0, none⟩), v] w fun e w' => e = .returned (er E 10) ∧ Below w.heap.size w w' := by
  have HFR := hide (Um.frame_any v L w hT (by omega) ByteArray.empty 62 (by show Um.frA L = _; unfold Um.frA; rw [if_neg (by simp [hfit])]) (by show Um.frE L = 62; unfold Um.frE; rw [if_neg (by simp [hfit])]))
  have HCK := hide (check_any hw)
  rw [show errV E x.dead = .nilIface by rw [hx]; rfl] at HCK
  have HV := hide V
  clear V hw hT hfit
  go_enter Tryz.func79, Tryz.ntmps79
  go_wp2_with (first | (go_at_call 115; refine (unhide HCK).mono ?_; rintro e w1 ⟨rfl, hw1⟩; have hw2 := hw1.symm; subst hw2; clear hw1) | (go_at_call 116; refine (unhide HFR).mono ?_; rintro e w3 ⟨rfl, hb3⟩; have hrc := ((unhide HV).below (hb3.mono hB)).rc; have HB3 := hide hb3; clear hb3))
  go_ret
  exact ⟨rfl, unhide HB3⟩
set_option maxRecDepth 100000 in
set_option maxHeartbeats 1000000 in
theorem open_fail {w : World} {E : Nat → Addr} {B sb b c : Nat} {m m2 : Sto} {F : Nat → Prop} (V : Env w E B) (hF : ∀ b, F b → B ≤ b) (h : At w sb m F) (h1 : 1 ≤ b) (h2 : b ≤ 4096) (hc : crt m = ((0, c), m2)) (hc0 : c ≠ 0) :
    Calls Tryz.prog 77 #[.pointer (some ⟨sb, 0, none⟩), .int .i64 b] w fun e w' => e = .returned (.tuple #[.pointer none, er E c]) ∧ Res F w sb m2 w' := by
  have HCP := hide (place_ok (w := w) sb b h1 h2)
  have HCR := hide (create_any h (V.gs hF))
  rw [hc] at HCR
  rw [show errV E (((0, c), m2) : (Int × Nat) × Sto).1.2 = er E c from errV_er hc0] at HCR
  dsimp only at HCR
  clear V h hc
  unfold er at *
  go_enter Tryz.func77, Tryz.ntmps77
  go_wp2_with (first | (go_at_call 113; refine (unhide HCP).mono ?_; rintro e w1 ⟨rfl, hw1⟩; have hw2 := hw1.symm; subst hw2; clear hw1) | (go_at_call 29; refine (unhide HCR).mono ?_; rintro e w2 ⟨rfl, r2⟩; have HR2 := hide r2; clear r2))
  go_ret2
  exact ⟨rfl, unhide HR2⟩
set_option maxRecDepth 100000 in
theorem drop_closed {w : World} {wb : Nat} (h : WCl w wb) :
    Calls Tryz.prog 80 #[.pointer (some ⟨wb, 0, none⟩)] w fun e w' => e = .returned (.tuple #[]) ∧ w' = w := by
  have c0 := h.cell
  clear h
  go_enter Tryz.func80, Tryz.ntmps80
  go_wp2
  (try simp only [Exit.inBlock, Exit.then])
  refine bodyPost_ret (results_none rfl _ _ _) rfl ?_
  exact ⟨rfl, rfl⟩
set_option maxRecDepth 100000 in
set_option maxHeartbeats 2000000 in
theorem drop_go {w : World} {E : Nat → Addr} {B sb wb : Nat} {m : Sto} {F G : Nat → Prop} {x : Wri} {bv : Value} (V : Env w E B) (hF : ∀ b, F b → B ≤ b) (h : At w sb m F) (hw : WIn w E sb wb x G bv) (hd : ∀ b, F b → ¬ G b) (hrun : x.run ≤ 16777216) :
    Calls Tryz.prog 80 #[.pointer (some ⟨wb, 0, none⟩)] w fun e w' => e = .returned (.tuple #[]) ∧ CRes F G w sb wb (rem m x.run).2 w' := by
  have HC0 := hide (Cw.start h hw hd)
  have HRM : Hid (∀ W, Below w.heap.size w W → B ≤ w.heap.size → Calls Tryz.prog 32 #[.pointer (some ⟨sb, 0, none⟩), .int .i64 x.run] W fun e w' => e = .returned (errV E (rem m x.run).1) ∧ Cw w w' E F G sb wb x (rem m x.run).2 bv (Up F W w')) := fun W hW hB => by
    have c := (unhide HC0).below hW
    exact (remove_any (k := (x.run : Int)) c.at_ ((V.below (hW.mono hB)).gs hF) (by omega) (by omega)).mono fun e w' hh => ⟨hh.1, c.res hh.2⟩
  have HOW := hide hw.own
  have hzw := zero_writer
  obtain ⟨c0, c1, c2, c3, c4, cf⟩ := wcells (unhide HC0).sto
  have hwb : wb < w.heap.size := (Array.getElem?_eq_some_iff.1 (unhide HC0).sto).1
  have hB : B ≤ w.heap.size := Nat.le_trans (hF sb h.own) (Nat.le_of_lt (h.lt sb h.own))
  have HBS := hide hB
  clear V h hw hd hF hB
  go_enter Tryz.func80, Tryz.ntmps80
  go_wp2
  go_region_held3 (fun w' => w'.cell? ⟨wb, 0, none⟩ = some (.pointer (some ⟨sb, 0, none⟩)) ∧ w'.cell? ⟨wb, 1, none⟩ = some (.int .i64 x.run))
    (first | exact ⟨c0, c1⟩ | exact s3)
    (first | (go_at_call 32; refine (unhide HRM _ (by (repeat (first | exact Below.refl _ _ | refine Below.drew ?_ | refine Below.alloc ?_ (by first | (simp; done) | (simp; omega)) _ | refine Below.setCell ?_ (by first | (simp; done) | (simp; omega)) _))) (unhide HBS)).mono ?_; rintro e w3 ⟨rfl, hl3⟩; have HL3 := hide hl3; obtain ⟨z0, z1, z2, z3, z4, zf⟩ := wcells hl3.sto; have s3 := (⟨z0, z1⟩ : _ ∧ _); have hz3 : wb < w3.heap.size := (Array.getElem?_eq_some_iff.1 hl3.sto).1; clear hl3))
  clear s3
  have HFI := hide ((unhide HL3).fin (unhide HOW))
  go_wp2
  go_end0
  exact ⟨rfl, unhide HFI⟩
end Rs
end Go.Proofs.YtohfhkdhccpoaaaGreatDoor
/- Layer 9: a former in memory. No walk. -/
namespace Go.Proofs.YtohfhkdhccpoaaaGreatDoor
open Go.RowKit
namespace Rs
open Sm (Tx ofS)
def nts (l : List Nat) : List Value := l.map fun n : Nat => Value.int .i64 (n : Int)
def forC (sb : Nat) (f : For) (bv mv : Value) : Array Value := #[.pointer (some ⟨sb, 0, none⟩), .int .i64 f.size, bv, mv, .nilIface]
/-- the living former f of the store at sb lies at block fb, in the blocks G -/
structure FIn (w : World) (sb fb : Nat) (f : For) (G : Nat → Prop) (bv mv : Value) : Prop where
  lt : ∀ b, G b → b < w.heap.size
  own : G fb
  sto : w.heap[fb]? = some (.cells (forC sb f bv mv) 117 (0, 0))
  row : Own w bv f.buf
  rowG : ∀ g, bv.ownBlock = some g → G g
  int : w.ownsRow 0 3 1 mv f.made.length (nts f.made)
  intG : ∀ g, mv.ownBlock = some g → G g
/-- a former that died of the failure c -/
def FDe (w : World) (E : Nat → Addr) (sb fb c : Nat) : Prop := w.heap[fb]? = some (.cells #[.pointer (some ⟨sb, 0, none⟩), .int .i64 0, .slice none 0 0, .slice none 0 0, er E c] 117 (0, 0))
/-- a closed former -/
def FCl (w : World) (fb : Nat) : Prop := w.heap[fb]? = some (.cells #[.pointer none, .int .i64 0, .slice none 0 0, .slice none 0 0, .nilIface] 117 (0, 0))
/-- a former, living, dead or closed -/
structure FAt (w : World) (E : Nat → Addr) (sb fb : Nat) (f : For) (G : Nat → Prop) : Prop where
  lt : ∀ b, G b → b < w.heap.size
  own : G fb
  st : (f.dead = 0 ∧ ∃ bv mv, FIn w sb fb f G bv mv) ∨ (f.dead = 13 ∧ FCl w fb) ∨ (f.dead ≠ 0 ∧ f.dead ≠ 13 ∧ FDe w E sb fb f.dead)
theorem FIn.kept {w w' : World} {sb fb : Nat} {f : For} {G H : Nat → Prop} {bv mv : Value} (h : FIn w sb fb f G bv mv) (hb : ∀ b, G b → w'.heap[b]? = w.heap[b]?) (hG : ∀ b, G b → H b) (hl : ∀ b, H b → b < w'.heap.size) : FIn w' sb fb f H bv mv :=
  ⟨hl, hG _ h.own, (hb _ h.own).trans h.sto, h.row.kept fun g hg => hb g (h.rowG g hg), fun g hg => hG g (h.rowG g hg), own_kept h.int fun g hg => hb g (h.intG g hg), fun g hg => hG g (h.intG g hg)⟩
theorem FIn.below {w w' : World} {sb fb : Nat} {f : For} {G : Nat → Prop} {bv mv : Value} (h : FIn w sb fb f G bv mv) (hb : Below w.heap.size w w') : FIn w' sb fb f G bv mv :=
  h.kept (fun b hF => hb.block b (h.lt b hF)) (fun _ x => x) fun b hF => Nat.lt_of_lt_of_le (h.lt b hF) hb.size
theorem FAt.kept {w w' : World} {E : Nat → Addr} {sb fb : Nat} {f : For} {G H : Nat → Prop} (h : FAt w E sb fb f G) (hb : ∀ b, G b → w'.heap[b]? = w.heap[b]?) (hG : ∀ b, G b → H b) (hl : ∀ b, H b → b < w'.heap.size) : FAt w' E sb fb f H := by
  refine ⟨hl, hG _ h.own, ?_⟩
  rcases h.st with ⟨e, bv, mv, k⟩ | ⟨e, k⟩ | ⟨e, e2, k⟩
  · exact .inl ⟨e, bv, mv, k.kept hb hG hl⟩
  · exact .inr (.inl ⟨e, (hb _ h.own).trans k⟩)
  · exact .inr (.inr ⟨e, e2, (hb _ h.own).trans k⟩)
theorem FAt.below {w w' : World} {E : Nat → Addr} {sb fb : Nat} {f : For} {G : Nat → Prop} (h : FAt w E sb fb f G) (hb : Below w.heap.size w w') : FAt w' E sb fb f G :=
  h.kept (fun b hF => hb.block b (h.lt b hF)) (fun _ x => x) fun b hF => Nat.lt_of_lt_of_le (h.lt b hF) hb.size
theorem FIn.at {w : World} {E : Nat → Addr} {sb fb : Nat} {f : For} {G : Nat → Prop} {bv mv : Value} (h : FIn w sb fb f G bv mv) (hd : f.dead = 0) : FAt w E sb fb f G := ⟨h.lt, h.own, .inl ⟨hd, bv, mv, h⟩⟩
theorem FAt.live {w : World} {E : Nat → Addr} {sb fb : Nat} {f : For} {G : Nat → Prop} (h : FAt w E sb fb f G) (hd : f.dead = 0) : ∃ bv mv, FIn w sb fb f G bv mv := by
  rcases h.st with ⟨e, k⟩ | ⟨e, k⟩ | ⟨e, e2, k⟩
  · exact k
  · omega
  · exact absurd hd e
theorem fcells {w : World} {sb fb : Nat} {f : For} {bv mv : Value} (h : w.heap[fb]? = some (.cells (forC sb f bv mv) 117 (0, 0))) :
    w.cell? ⟨fb, 0, none⟩ = some (.pointer (some ⟨sb, 0, none⟩)) ∧ w.cell? ⟨fb, 1, none⟩ = some (.int .i64 f.size) ∧ w.cell? ⟨fb, 2, none⟩ = some bv ∧ w.cell? ⟨fb, 3, none⟩ = some mv ∧ w.cell? ⟨fb, 4, none⟩ = some .nilIface ∧ ∀ k, w.frozen? ⟨fb, k, none⟩ = false := by
  refine ⟨?_, ?_, ?_, ?_, ?_, fun k => ?_⟩ <;> simp [World.cell?, World.frozen?, h, forC]
/-- a row of texts, a row of numbers and a former never share a block -/
theorem FIn.apart {w : World} {sb fb : Nat} {f : For} {G : Nat → Prop} {bv mv : Value} (h : FIn w sb fb f G bv mv) : bv.ownBlock ≠ some fb ∧ mv.ownBlock ≠ some fb ∧ ∀ g, bv.ownBlock = some g → mv.ownBlock ≠ some g := by
  refine ⟨fun e => ?_, fun e => ?_, fun g e e2 => ?_⟩
  · obtain ⟨c1, z1, q1⟩ := Lib.ownsRow_kind h.row fb e
    rw [h.sto] at q1
    injection q1 with q1
    injection q1 with _ q1 _
    exact absurd q1 (by decide)
  · obtain ⟨c1, z1, q1⟩ := Lib.ownsRow_kind h.int fb e
    rw [h.sto] at q1
    injection q1 with q1
    injection q1 with _ q1 _
    exact absurd q1 (by decide)
  · obtain ⟨c1, z1, q1⟩ := Lib.ownsRow_kind h.row g e
    obtain ⟨c2, z2, q2⟩ := Lib.ownsRow_kind h.int g e2
    rw [q1] at q2
    injection q2 with q2
    injection q2 with _ q2 _
    exact absurd q2 (by decide)
/-- behind a call that turned a store and a former -/
def FRes (F G : Nat → Prop) (w : World) (E : Nat → Addr) (sb fb : Nat) (m : Sto) (f : For) (w' : World) : Prop :=
  ∃ F' G', At w' sb m F' ∧ FAt w' E sb fb f G' ∧ (∀ b, F' b → ¬ G' b) ∧ (∀ b, F' b → Up F w w' b) ∧ (∀ b, G' b → Up G w w' b) ∧ Chg (fun b => F b ∨ G b) w w'
theorem own_nums {W : World} {v : Value} {l : List Nat} (h : W.ownsRow 0 3 1 v l.length (nts l)) : ∃ a c, v = .slice a l.length c := by
  rcases h.2 with ⟨e1, e2⟩ | ⟨g, cap, cur, e1, _⟩
  · exact ⟨none, 0, by rw [e1, e2]⟩
  · exact ⟨_, _, e1⟩
theorem nums_cell {w : World} {g N c : Nat} {l : List Nat} (h : w.ownsRow 0 3 1 (.slice (some ⟨g, 0, none⟩) N c) l.length (nts l)) {j n : Nat} (hj : l[j]? = some n) : w.cell? ⟨g, j, none⟩ = some (.int .i64 n) := by
  have hl := (List.getElem?_eq_some_iff.1 hj).1
  have hN : l.length = N := by
    rcases h.2 with ⟨e1, e2⟩ | ⟨g, cap, cur, e1, _⟩
    · cases e1
    · injection e1 with _ e1 _; exact e1.symm
  subst hN
  rw [World.ownsRow.cellAt h j (by omega)]
  simp [nts, hj]
end Rs
end Go.Proofs.YtohfhkdhccpoaaaGreatDoor
/- Layer 9: is a word too long; a former's check; New. -/
namespace Go.Proofs.YtohfhkdhccpoaaaGreatDoor
open Go.RowKit
namespace Rs
open Sm (Tx ofS)
def long (x : Tx) : Bool := decide (255 < x.size)
theorem long_one (x : Tx) (w : World) : Calls Tryz.prog 65 #[.string x] w fun e w' => e = .returned (.bool (long x)) ∧ w' = w := by
  by_cases h : 255 < x.size
  · have e : long x = true := by simp [long, h]
    rw [e]
    have hz : 255 < (x.size : Int) := by omega
    go_enter Tryz.func65, Tryz.ntmps65
    go_wp2
    go_ret
    exact ⟨by simp, rfl⟩
  · have e : long x = false := by simp [long, h]
    rw [e]
    have hz : ¬ 255 < (x.size : Int) := by omega
    go_enter Tryz.func65, Tryz.ntmps65
    go_wp2
    go_ret
    exact ⟨by simp, rfl⟩
theorem long_take {L : List Tx} {k : Nat} {x : Tx} (h : (L.take k).any long = false) (hx : L[k]? = some x) (hn : long x = false) : (L.take (k + 1)).any long = false := by
  have hk : k < L.length := (List.getElem?_eq_some_iff.1 hx).1
  rw [List.take_succ_eq_append_getElem hk, (List.getElem?_eq_some_iff.1 hx).2, List.any_append, h]
  simp [hn]
theorem long_yes {L : List Tx} {k : Nat} {x : Tx} (hx : L[k]? = some x) (hn : long x = true) : L.any long = true := List.any_eq_true.2 ⟨x, List.mem_of_getElem? hx, hn⟩
set_option maxRecDepth 100000 in
set_option maxHeartbeats 2000000 in
theorem index_long {w : World} {v : Value} {L : List Tx} (hT : Um.Txs w v L) (hm : L.length ≤ 9223372036854775807) :
    Calls Tryz.prog 93 #[v, .func (.func 65) #[] #[]] w fun e w' => ∃ r : Int, e = .returned (.int .i64 r) ∧ decide (0 ≤ r) = L.any long ∧ w' = w := by
  have HH := hide (fun x => long_one x w)
  obtain ⟨ao, cap, rfl, hc, _, hcell⟩ := hT
  have HC := hide hcell
  clear hcell
  generalize hn : L.length = n at *
  have HN := hide hn
  clear hn
  go_enter Tryz.func93, Tryz.ntmps93
  go_wp2
  go_loop [8] (fun i => ∃ k : Nat, i = .int .i64 k ∧ k ≤ n ∧ Hid ((L.take k).any long = false)) (fun i => n - (intOf i).toNat)
  case atStart => exact ⟨0, rfl, Nat.zero_le _, by simp [Hid]⟩
  case round =>
    obtain ⟨k, rfl, hk, HT⟩ := hrel
    by_cases hlt : k < n
    · have hltz : (k : Int) < (n : Int) := by omega
      obtain ⟨x, hx⟩ : ∃ x, L[k]? = some x := ⟨_, List.getElem?_eq_getElem (by rw [unhide HN]; exact hlt)⟩
      obtain ⟨g, off, rfl, _, hcc⟩ := unhide HC (by omega)
      have hcx := hcc k x hx
      have HX := hide hx
      have HHX := hide (unhide HH x)
      clear hcc hx
      cases hb : long x
      · rw [hb] at HHX
        have HT2 := hide (long_take (unhide HT) (unhide HX) hb)
        clear hb
        go_wp2_with (go_at_call 65; refine (unhide HHX).mono ?_; rintro e w1 ⟨rfl, hw1⟩; obtain rfl := hw1.symm)
        go_round
        case rel => exact ⟨k + 1, by go_num, by omega, HT2⟩
        case measure => simp [intOf]; omega
      · rw [hb] at HHX
        have HY := hide (long_yes (unhide HX) hb)
        clear hb
        go_wp2_with (go_at_call 65; refine (unhide HHX).mono ?_; rintro e w1 ⟨rfl, hw1⟩; obtain rfl := hw1.symm)
        go_ret
        exact ⟨_, rfl, by rw [unhide HY]; simp, rfl⟩
    · obtain rfl : k = n := by omega
      have hltz : ¬ (k : Int) < (k : Int) := by omega
      have HF : Hid (L.any long = false) := by
        have := unhide HT
        rw [← unhide HN, List.take_length] at this
        exact this
      go_wp2
      go_ret
      exact ⟨_, rfl, by rw [unhide HF]; simp, rfl⟩
set_option maxRecDepth 100000 in
theorem contains_long {w : World} {v : Value} {L : List Tx} (hT : Um.Txs w v L) (hm : L.length ≤ 9223372036854775807) :
    Calls Tryz.prog 64 #[v, .func (.func 65) #[] #[]] w fun e w' => e = .returned (.bool (L.any long)) ∧ w' = w := by
  have HI := hide (index_long hT hm)
  obtain ⟨ao, cap, rfl, _⟩ := hT
  go_enter Tryz.func64, Tryz.ntmps64
  go_wp2_with (go_at_call 93; refine (unhide HI).mono ?_; rintro e w1 ⟨r, rfl, hr, hw1⟩; obtain rfl := hw1.symm; have HR := hide hr; clear hr)
  go_ret
  exact ⟨by rw [← unhide HR]; rfl, rfl⟩
theorem long_no {L : List Tx} (h : L.any long = false) : ∀ x ∈ L, x.size ≤ 255 := fun x hx => by
  have := List.any_eq_false.1 h x hx
  simp [long] at this
  omega
theorem no_long {L : List Tx} (h : ∀ x ∈ L, x.size ≤ 255) : L.any long = false := List.any_eq_false.2 fun x hx => by
  have := h x hx
  simp [long]; omega
set_option maxRecDepth 100000 in
theorem fcheck_live {w : World} {sb fb : Nat} {f : For} {G : Nat → Prop} {bv mv : Value} (h : FIn w sb fb f G bv mv) :
    Calls Tryz.prog 63 #[.pointer (some ⟨fb, 0, none⟩)] w fun e w' => e = .returned .nilIface ∧ w' = w := by
  obtain ⟨c0, c1, c2, c3, c4, cf⟩ := fcells h.sto
  clear h
  go_enter Tryz.func63, Tryz.ntmps63
  go_wp2
  go_ret
  exact ⟨rfl, rfl⟩
set_option maxRecDepth 100000 in
theorem fcheck_dead {w : World} {E : Nat → Addr} {sb fb c : Nat} (h : FDe w E sb fb c) :
    Calls Tryz.prog 63 #[.pointer (some ⟨fb, 0, none⟩)] w fun e w' => e = .returned (er E c) ∧ w' = w := by
  unfold FDe at h
  have c0 : w.cell? ⟨fb, 0, none⟩ = some (.pointer (some ⟨sb, 0, none⟩)) := by simp [World.cell?, h]
  have c4 : w.cell? ⟨fb, 4, none⟩ = some (er E c) := by simp [World.cell?, h]
  clear h
  unfold er at *
  go_enter Tryz.func63, Tryz.ntmps63
  go_wp2
  go_ret
  exact ⟨rfl, rfl⟩
set_option maxRecDepth 100000 in
theorem fcheck_closed {w : World} {E : Nat → Addr} {B fb : Nat} (V : Env w E B) (h : FCl w fb) :
    Calls Tryz.prog 63 #[.pointer (some ⟨fb, 0, none⟩)] w fun e w' => e = .returned (er E 13) ∧ w' = w := by
  unfold FCl at h
  have c0 : w.cell? ⟨fb, 0, none⟩ = some (.pointer none) := by simp [World.cell?, h]
  have hcl := V.cl
  clear h V
  go_enter Tryz.func63, Tryz.ntmps63
  go_wp2
  go_ret
  exact ⟨rfl, rfl⟩
set_option maxRecDepth 100000 in
theorem fcheck_nil {w : World} {E : Nat → Addr} {B : Nat} (V : Env w E B) :
    Calls Tryz.prog 63 #[.pointer none] w fun e w' => e = .returned (er E 1) ∧ w' = w := by
  have hcl := V.g.nil
  clear V
  go_enter Tryz.func63, Tryz.ntmps63
  go_wp2
  go_ret
  exact ⟨rfl, rfl⟩
set_option maxRecDepth 100000 in
theorem fnew_go (w : World) (sb b : Nat) (h1 : 1 ≤ b) (h2 : b ≤ 65536) :
    Calls Tryz.prog 35 #[.pointer (some ⟨sb, 0, none⟩), .int .i64 b] w fun e w' => e = .returned (.tuple #[.pointer (some ⟨w.heap.size, 0, none⟩), .nilIface]) ∧ FIn w' sb w.heap.size ⟨b, [], [], 0⟩ (fun y => y = w.heap.size) (.slice none 0 0) (.slice none 0 0) ∧ Below w.heap.size w w' := by
  have q1 : ¬ (b : Int) < 1 := by omega
  have q2 : ¬ 65536 < (b : Int) := by omega
  go_enter Tryz.func35, Tryz.ntmps35
  go_wp2
  go_ret2
  refine ⟨rfl, ⟨fun y hy => by rw [hy]; simp, rfl, (MapKept.heap_alloc w _).1, World.ownsRow_nil _ _ _ _, fun g hg => (by cases hg), World.ownsRow_nil _ _ _ _, fun g hg => (by cases hg)⟩, (Below.refl _ w).alloc (Nat.le_refl _) _⟩
set_option maxRecDepth 100000 in
theorem fnew_lim {w : World} {E : Nat → Addr} {B : Nat} (V : Env w E B) (sb : Nat) (b : Int) (h : b < 1 ∨ 65536 < b) :
    Calls Tryz.prog 35 #[.pointer (some ⟨sb, 0, none⟩), .int .i64 b] w fun e w' => e = .returned (.tuple #[.pointer none, er E 2]) ∧ Below w.heap.size w w' := by
  have hl := V.li
  have hz : 1 < w.heap.size := by have := V.g.sz; omega
  clear V
  by_cases h1 : b < 1
  · clear h
    go_enter Tryz.func35, Tryz.ntmps35
    go_wp2
    go_quiet (fail)
    go_wp2
    go_ret2
    exact ⟨rfl, ⟨rfl, rfl, rfl, Nat.le_refl _, fun _ _ => rfl⟩⟩
  · have h2 : 65536 < b := by omega
    clear h
    go_enter Tryz.func35, Tryz.ntmps35
    go_wp2
    go_quiet (fail)
    go_wp2
    go_ret2
    exact ⟨rfl, ⟨rfl, rfl, rfl, Nat.le_refl _, fun _ _ => rfl⟩⟩
end Rs
end Go.Proofs.YtohfhkdhccpoaaaGreatDoor
/- Layer 9: what lies in memory while a batch is written. No walk. -/
namespace Go.Proofs.YtohfhkdhccpoaaaGreatDoor
open Go.RowKit
namespace Rs
open Sm (Tx ofS)
/-- as far as blocks count that there were -/
theorem Chg.mono' {F G : Nat → Prop} {a b : World} (h : Chg F a b) (hs : ∀ k, k < a.heap.size → F k → G k) : Chg G a b := ⟨h.os, h.tape, h.output, h.size, fun i hi hn => h.block i hi fun e => hn (hs i hi e)⟩
/-- the store, the former and the three variables that the deferred call holds, while a batch is written -/
structure Bw (w wr : World) (F G : Nat → Prop) (sb fb eb : Nat) (f : For) (A : List Tx) (bv mv ev wv : Value) (m : Sto) (F' : Nat → Prop) : Prop where
  at_ : At wr sb m F'
  sub : ∀ b, F' b → Up F w wr b
  sto : wr.heap[fb]? = some (.cells (forC sb f bv mv) 117 (0, 0))
  len : A.length = f.buf.length
  row : Own wr bv A
  int : wr.ownsRow 0 3 1 mv f.made.length (nts f.made)
  nfb : ¬ F' fb
  nrow : ∀ g, bv.ownBlock = some g → ¬ F' g
  nint : ∀ g, mv.ownBlock = some g → ¬ F' g
  nbx : ∀ b, eb ≤ b → b < eb + 3 → ¬ F' b
  b0 : wr.heap[eb]? = some (.cells #[.pointer (some ⟨fb, 0, none⟩)] 80 (0, 0))
  b1 : wr.heap[eb + 1]? = some (.cells #[ev] 38 (0, 0))
  b2 : wr.heap[eb + 2]? = some (.cells #[wv] 139 (0, 0))
  lfb : G fb ∧ fb < eb
  lrow : ∀ g, bv.ownBlock = some g → (G g ∧ g < eb) ∨ eb + 3 ≤ g
  lint : ∀ g, mv.ownBlock = some g → (G g ∧ g < eb) ∨ eb + 3 ≤ g
  heb : eb = w.heap.size
  chg : Chg (fun b => F b ∨ G b) w wr
section
variable {w wr : World} {F G : Nat → Prop} {sb fb eb : Nat} {f : For} {A : List Tx} {bv mv ev wv : Value} {m : Sto} {F' : Nat → Prop}
theorem Bw.lt3 (h : Bw w wr F G sb fb eb f A bv mv ev wv m F') : eb + 3 ≤ wr.heap.size := (Array.getElem?_eq_some_iff.1 h.b2).1
theorem Bw.cells (h : Bw w wr F G sb fb eb f A bv mv ev wv m F') : wr.cell? ⟨eb, 0, none⟩ = some (.pointer (some ⟨fb, 0, none⟩)) ∧ wr.cell? ⟨eb + 1, 0, none⟩ = some ev ∧ wr.cell? ⟨eb + 2, 0, none⟩ = some wv ∧ wr.frozen? ⟨eb + 1, 0, none⟩ = false ∧ wr.frozen? ⟨eb + 2, 0, none⟩ = false := by
  refine ⟨?_, ?_, ?_, ?_, ?_⟩ <;> simp [World.cell?, World.frozen?, h.b0, h.b1, h.b2]
/-- a turn that touches none of it but the store, which it leaves as said -/
theorem Bw.turn {W : World} {m' : Sto} {F2 : Nat → Prop} (h : Bw w wr F G sb fb eb f A bv mv ev wv m F') (ha : At W sb m' F2) (hs : ∀ b, F2 b → F' b ∨ wr.heap.size ≤ b) (hc : Chg (fun b => F' b ∨ eb + 3 ≤ b ∧ (∀ g, bv.ownBlock = some g → b ≠ g) ∧ (∀ g, mv.ownBlock = some g → b ≠ g)) wr W) : Bw w W F G sb fb eb f A bv mv ev wv m' F2 := by
  have l3 := h.lt3
  have hz := hc.size
  have hc0 := h.chg.size
  have heb := h.heb
  have hlfb := h.lfb.2
  have key : ∀ b, b < wr.heap.size → ¬ F' b → (b < eb + 3 ∨ (bv.ownBlock = some b ∨ mv.ownBlock = some b)) → W.heap[b]? = wr.heap[b]? := fun b hb hn ho => hc.block b hb fun e => by
    rcases e with e | ⟨e1, e2, e3⟩
    · exact hn e
    · rcases ho with o | o | o
      · omega
      · exact e2 b o rfl
      · exact e3 b o rfl
  have n2 : ∀ b, b < wr.heap.size → ¬ F' b → ¬ F2 b := fun b hb hn e => (hs b e).elim hn fun y => by omega
  have hrow := h.row
  refine ⟨ha, fun b hb => ?_, (key fb (by omega) h.nfb (.inl (by omega))).trans h.sto, h.len, hrow.kept fun g hg => key g (own_lt hrow hg).2 (h.nrow g hg) (.inr (.inl hg)), own_kept h.int fun g hg => key g (own_lt h.int hg).2 (h.nint g hg) (.inr (.inr hg)), n2 fb (by omega) h.nfb, fun g hg => n2 g (own_lt hrow hg).2 (h.nrow g hg), fun g hg => n2 g (own_lt h.int hg).2 (h.nint g hg), fun b h1 h2 => n2 b (by omega) (h.nbx b h1 h2), (key eb (by omega) (h.nbx eb (by omega) (by omega)) (.inl (by omega))).trans h.b0, (key (eb + 1) (by omega) (h.nbx _ (by omega) (by omega)) (.inl (by omega))).trans h.b1, (key (eb + 2) (by omega) (h.nbx _ (by omega) (by omega)) (.inl (by omega))).trans h.b2, h.lfb, h.lrow, h.lint, h.heb, h.chg.trans (hc.mono' fun b hb2 hb => ?_)⟩
  · rcases hs b hb with y | y
    · exact (h.sub b y).imp id fun z => ⟨z.1, by omega⟩
    · exact .inr ⟨by omega, ha.lt b hb⟩
  · rcases hb with y | y
    · exact (h.sub b y).imp .inl id
    · exact .inr ⟨by omega, hb2⟩
theorem Bw.below {W : World} (h : Bw w wr F G sb fb eb f A bv mv ev wv m F') (hb : Below wr.heap.size wr W) : Bw w W F G sb fb eb f A bv mv ev wv m F' :=
  h.turn (h.at_.kept (fun b hF => hb.block b (h.at_.lt b hF)) (fun _ x => x) (fun b hF => Nat.lt_of_lt_of_le (h.at_.lt b hF) hb.size)) (fun _ x => .inl x) (Chg.of_below hb)
theorem Bw.res {W : World} {m' : Sto} (h : Bw w wr F G sb fb eb f A bv mv ev wv m F') (r : Res F' wr sb m' W) : Bw w W F G sb fb eb f A bv mv ev wv m' (Up F' wr W) :=
  h.turn r.1 (fun _ x => x.imp id fun y => y.1) (r.2.mono fun _ x => .inl x)
theorem Bw.lo {B : Nat} (h : Bw w wr F G sb fb eb f A bv mv ev wv m F') (hF : ∀ b, F b → B ≤ b) (hB : B ≤ w.heap.size) : ∀ b, F' b → B ≤ b := fun b hb => (h.sub b hb).elim (hF b) fun y => by omega
theorem Bw.env {E : Nat → Addr} {B : Nat} (h : Bw w wr F G sb fb eb f A bv mv ev wv m F') (V : Env w E B) (hF : ∀ b, F b → B ≤ b) (hG : ∀ b, G b → B ≤ b) (hB : B ≤ w.heap.size) : Env wr E B := V.below (h.chg.below hB fun k hk => hk.elim (hF k) (hG k))
/-- another value in one of the variables -/
theorem Bw.setE (h : Bw w wr F G sb fb eb f A bv mv ev wv m F') (u : Value) : Bw w (wr.setCell ⟨eb + 1, 0, none⟩ u) F G sb fb eb f A bv mv u wv m F' := by
  have l3 := h.lt3
  have heb := h.heb
  have hlfb := h.lfb.2
  have hne : ∀ b, b ≠ eb + 1 → (wr.setCell ⟨eb + 1, 0, none⟩ u).heap[b]? = wr.heap[b]? := fun b hb => Below.heap_setCell _ _ _ _ hb
  have hz : (wr.setCell ⟨eb + 1, 0, none⟩ u).heap.size = wr.heap.size := by simp
  have hrow := h.row
  refine ⟨h.at_.kept (fun b hF => hne b fun e => h.nbx b (by omega) (by omega) hF) (fun _ x => x) (fun b hF => by rw [hz]; exact h.at_.lt b hF), fun b hb => (h.sub b hb).imp id fun y => ⟨y.1, by rw [hz]; exact y.2⟩, (hne fb (by omega)).trans h.sto, h.len, hrow.kept fun g hg => hne g (by rcases h.lrow g hg with y | y <;> omega), own_kept h.int fun g hg => hne g (by rcases h.lint g hg with y | y <;> omega), h.nfb, h.nrow, h.nint, h.nbx, (hne eb (by omega)).trans h.b0, ?_, (hne (eb + 2) (by omega)).trans h.b2, h.lfb, h.lrow, h.lint, h.heb, h.chg.setCell (p := ⟨eb + 1, 0, none⟩) (.inr (by show w.heap.size ≤ eb + 1; omega)) u⟩
  rw [set_heap1 h.b1]
  rfl
theorem Bw.setW (h : Bw w wr F G sb fb eb f A bv mv ev wv m F') (u : Value) : Bw w (wr.setCell ⟨eb + 2, 0, none⟩ u) F G sb fb eb f A bv mv ev u m F' := by
  have l3 := h.lt3
  have heb := h.heb
  have hlfb := h.lfb.2
  have hne : ∀ b, b ≠ eb + 2 → (wr.setCell ⟨eb + 2, 0, none⟩ u).heap[b]? = wr.heap[b]? := fun b hb => Below.heap_setCell _ _ _ _ hb
  have hz : (wr.setCell ⟨eb + 2, 0, none⟩ u).heap.size = wr.heap.size := by simp
  have hrow := h.row
  refine ⟨h.at_.kept (fun b hF => hne b fun e => h.nbx b (by omega) (by omega) hF) (fun _ x => x) (fun b hF => by rw [hz]; exact h.at_.lt b hF), fun b hb => (h.sub b hb).imp id fun y => ⟨y.1, by rw [hz]; exact y.2⟩, (hne fb (by omega)).trans h.sto, h.len, hrow.kept fun g hg => hne g (by rcases h.lrow g hg with y | y <;> omega), own_kept h.int fun g hg => hne g (by rcases h.lint g hg with y | y <;> omega), h.nfb, h.nrow, h.nint, h.nbx, (hne eb (by omega)).trans h.b0, (hne (eb + 1) (by omega)).trans h.b1, ?_, h.lfb, h.lrow, h.lint, h.heb, h.chg.setCell (p := ⟨eb + 2, 0, none⟩) (.inr (by show w.heap.size ≤ eb + 2; omega)) u⟩
  rw [set_heap1 h.b2]
  rfl
/-- the former's own rows, turned in place -/
theorem Bw.sorted {W : World} {A2 : List Tx} (h : Bw w wr F G sb fb eb f A bv mv ev wv m F') (hown : Own W bv A2) (hl : A2.length = f.buf.length) (hc : Chg (fun b => bv.ownBlock = some b) wr W) (hk : ∀ g, bv.ownBlock = some g → g ≠ fb ∧ mv.ownBlock ≠ some g) : Bw w W F G sb fb eb f A2 bv mv ev wv m F' := by
  have l3 := h.lt3
  have heb := h.heb
  have hlfb := h.lfb.2
  have hz := hc.size
  have hbx : ∀ b, eb ≤ b → b < eb + 3 → W.heap[b]? = wr.heap[b]? := fun b h1 h2 => hc.block b (by omega) fun e => by rcases h.lrow b e with y | y <;> omega
  have hc2 : Chg (fun b => F b ∨ G b) w W := h.chg.trans (hc.mono fun b hb => by
    rcases h.lrow b hb with y | y
    · exact .inl (.inr y.1)
    · exact .inr ⟨by omega, (own_lt h.row hb).2⟩)
  refine ⟨h.at_.kept (fun b hF => hc.block b (h.at_.lt b hF) fun e => h.nrow b e hF) (fun _ x => x) (fun b hF => Nat.lt_of_lt_of_le (h.at_.lt b hF) hz), fun b hb => (h.sub b hb).imp id fun y => ⟨y.1, by omega⟩, (hc.block fb (by omega) fun e => (hk fb e).1 rfl).trans h.sto, hl, hown, own_kept h.int fun g hg => hc.block g (own_lt h.int hg).2 fun e => (hk g e).2 hg, h.nfb, h.nrow, h.nint, h.nbx, (hbx eb (by omega) (by omega)).trans h.b0, (hbx (eb + 1) (by omega) (by omega)).trans h.b1, (hbx (eb + 2) (by omega) (by omega)).trans h.b2, h.lfb, h.lrow, h.lint, h.heb, hc2⟩
theorem Bw.apart (h : Bw w wr F G sb fb eb f A bv mv ev wv m F') : bv.ownBlock ≠ some fb ∧ mv.ownBlock ≠ some fb ∧ ∀ g, bv.ownBlock = some g → g ≠ fb ∧ mv.ownBlock ≠ some g := by
  have hrow := h.row
  have a1 : bv.ownBlock ≠ some fb := fun e => by
    obtain ⟨c1, z1, q1⟩ := Lib.ownsRow_kind hrow fb e
    rw [h.sto] at q1
    injection q1 with q1
    injection q1 with _ q1 _
    exact absurd q1 (by decide)
  refine ⟨a1, fun e => ?_, fun g e => ⟨fun e2 => a1 (e2 ▸ e), fun e2 => ?_⟩⟩
  · obtain ⟨c1, z1, q1⟩ := Lib.ownsRow_kind h.int fb e
    rw [h.sto] at q1
    injection q1 with q1
    injection q1 with _ q1 _
    exact absurd q1 (by decide)
  · obtain ⟨c1, z1, q1⟩ := Lib.ownsRow_kind hrow g e
    obtain ⟨c2, z2, q2⟩ := Lib.ownsRow_kind h.int g e2
    rw [q1] at q2
    injection q2 with q2
    injection q2 with _ q2 _
    exact absurd q2 (by decide)
/-- the store, the former, and a writer of it -/
def Bx (w wr : World) (E : Nat → Addr) (F G : Nat → Prop) (sb fb eb wb : Nat) (f : For) (A : List Tx) (bv mv ev : Value) (m : Sto) (x : Wri) : Prop :=
  ∃ F' H wbv, Bw w wr F G sb fb eb f A bv mv ev (.pointer (some ⟨wb, 0, none⟩)) m F' ∧ WIn wr E sb wb x H wbv ∧ (∀ b, F' b → ¬ H b) ∧ (∀ b, H b → eb + 3 ≤ b ∧ (∀ g, bv.ownBlock = some g → b ≠ g) ∧ (∀ g, mv.ownBlock = some g → b ≠ g))
end
section
variable {w wr : World} {E : Nat → Addr} {F G : Nat → Prop} {sb fb eb wb : Nat} {f : For} {A : List Tx} {bv mv ev wv : Value} {m : Sto} {x : Wri} {F' : Nat → Prop}
theorem Bx.below {W : World} (h : Bx w wr E F G sb fb eb wb f A bv mv ev m x) (hb : Below wr.heap.size wr W) : Bx w W E F G sb fb eb wb f A bv mv ev m x := by
  obtain ⟨F', H, wbv, h1, h2, h3, h4⟩ := h
  exact ⟨F', H, wbv, h1.below hb, h2.below hb, h3, h4⟩
theorem Bx.setE (h : Bx w wr E F G sb fb eb wb f A bv mv ev m x) (u : Value) : Bx w (wr.setCell ⟨eb + 1, 0, none⟩ u) E F G sb fb eb wb f A bv mv u m x := by
  obtain ⟨F', H, wbv, h1, h2, h3, h4⟩ := h
  exact ⟨F', H, wbv, h1.setE u, h2.kept (fun b hb => Below.heap_setCell _ _ _ _ (by have := (h4 b hb).1; show b ≠ eb + 1; omega)) (fun _ y => y) (fun b hb => by simpa using h2.lt b hb), h3, h4⟩
theorem Bx.bw (h : Bx w wr E F G sb fb eb wb f A bv mv ev m x) : ∃ F', Bw w wr F G sb fb eb f A bv mv ev (.pointer (some ⟨wb, 0, none⟩)) m F' := by
  obtain ⟨F', H, wbv, h1, h2, h3, h4⟩ := h
  exact ⟨F', h1⟩
theorem row_lt (h : Bw w wr F G sb fb eb f A bv mv ev wv m F') : (∀ g, bv.ownBlock = some g → g < wr.heap.size) ∧ (∀ g, mv.ownBlock = some g → g < wr.heap.size) := by
  have hrow := h.row
  exact ⟨fun g hg => (own_lt hrow hg).2, fun g hg => (own_lt h.int hg).2⟩
/-- behind a call that turned the store and the writer -/
theorem Bx.wres {W : World} {m' : Sto} {x' : Wri} {H : Nat → Prop} (h1 : Bw w wr F G sb fb eb f A bv mv ev (.pointer (some ⟨wb, 0, none⟩)) m F') (h4 : ∀ b, H b → eb + 3 ≤ b ∧ (∀ g, bv.ownBlock = some g → b ≠ g) ∧ (∀ g, mv.ownBlock = some g → b ≠ g)) (r : WRes F' H wr E sb wb m' x' W) : Bx w W E F G sb fb eb wb f A bv mv ev m' x' := by
  obtain ⟨F2, H2, wbv', q1, q2, q3, q4, q5, q6⟩ := r
  have l3 := h1.lt3
  obtain ⟨r1, r2⟩ := row_lt h1
  refine ⟨F2, H2, wbv', h1.turn q1 (fun b hb => (q4 b hb).imp id fun y => y.1) (q6.mono fun b hb => hb.imp id (h4 b)), q2, q3, fun b hb => ?_⟩
  rcases q5 b hb with y | y
  · exact h4 b y
  · exact ⟨by omega, fun g hg e => by have := r1 g hg; omega, fun g hg e => by have := r2 g hg; omega⟩
theorem Bx.cres {W : World} {m' : Sto} {H : Nat → Prop} (h1 : Bw w wr F G sb fb eb f A bv mv ev (.pointer (some ⟨wb, 0, none⟩)) m F') (h4 : ∀ b, H b → eb + 3 ≤ b ∧ (∀ g, bv.ownBlock = some g → b ≠ g) ∧ (∀ g, mv.ownBlock = some g → b ≠ g)) (r : CRes F' H wr sb wb m' W) : ∃ F2, Bw w W F G sb fb eb f A bv mv ev (.pointer (some ⟨wb, 0, none⟩)) m' F2 := by
  obtain ⟨F2, q1, q2, q3, q4, q6⟩ := r
  exact ⟨F2, h1.turn q1 (fun b hb => (q2 b hb).imp id fun y => y.1) (q6.mono fun b hb => hb.imp id (h4 b))⟩
end
end Rs
end Go.Proofs.YtohfhkdhccpoaaaGreatDoor
/- Layer 9: removeRuns; what write defers. -/
namespace Go.Proofs.YtohfhkdhccpoaaaGreatDoor
open Go.RowKit
namespace Rs
open Sm (Tx ofS)
theorem remAll_take {m : Sto} {l : List Nat} {k n : Nat} (h : l[k]? = some n) : remAll m (l.take (k + 1)) = (rem (remAll m (l.take k)) n).2 := by
  have hk := (List.getElem?_eq_some_iff.1 h).1
  rw [List.take_succ_eq_append_getElem hk, (List.getElem?_eq_some_iff.1 h).2]
  simp [remAll]
theorem res_refl {w : World} {sb : Nat} {m : Sto} {F : Nat → Prop} (h : At w sb m F) : Res F w sb m w := h.res (Chg.refl _ _)
set_option maxRecDepth 100000 in
set_option maxHeartbeats 2000000 in
theorem remove_runs {w : World} {E : Nat → Addr} {B sb fb : Nat} {m : Sto} {F : Nat → Prop} {mv : Value} {l : List Nat} (V : Env w E B) (hF : ∀ b, F b → B ≤ b) (h : At w sb m F) (c0 : w.cell? ⟨fb, 0, none⟩ = some (.pointer (some ⟨sb, 0, none⟩))) (c3 : w.cell? ⟨fb, 3, none⟩ = some mv) (hl : w.ownsRow 0 3 1 mv l.length (nts l)) (n1 : ¬ F fb) (n2 : ∀ g, mv.ownBlock = some g → ¬ F g) (hn : ∀ n ∈ l, n ≤ 16777216) (hll : l.length ≤ 16777216) (hfb : fb < w.heap.size) :
    Calls Tryz.prog 95 #[.pointer (some ⟨fb, 0, none⟩)] w fun e w' => e = .returned (.tuple #[]) ∧ Res F w sb (remAll m l) w' := by
  have HB : Hid (B ≤ w.heap.size) := Nat.le_trans (hF sb h.own) (Nat.le_of_lt (h.lt sb h.own))
  have HRM : Hid (∀ (k n : Nat) (wr : World), l[k]? = some n → Res F w sb (remAll m (l.take k)) wr → Calls Tryz.prog 32 #[.pointer (some ⟨sb, 0, none⟩), .int .i64 n] wr fun e w' => e = .returned (errV E (rem (remAll m (l.take k)) n).1) ∧ Res F w sb (remAll m (l.take (k + 1))) w') := fun k n wr hk r => by
    have hb := unhide HB
    have q := remove_any (k := (n : Int)) r.1 (((V.below (r.2.below hb hF)).gs fun b hb2 => hb2.elim (hF b) fun y => by omega)) (by omega) (by have := hn n (List.mem_of_getElem? hk); omega)
    rw [remAll_take hk]
    exact q.mono fun e w' hh => ⟨hh.1, r.trans hh.2⟩
  obtain ⟨ao, cap, rfl⟩ := own_nums hl
  have HLC : Hid (∀ (k n : Nat) (wr : World), l[k]? = some n → Chg F w wr → ∃ g, ao = some ⟨g, 0, none⟩ ∧ wr.cell? ⟨g, k, none⟩ = some (.int .i64 n)) := fun k n wr hk c => by
    have hkl := (List.getElem?_eq_some_iff.1 hk).1
    obtain ⟨g, rfl⟩ : ∃ g, ao = some ⟨g, 0, none⟩ := by
      rcases hl.2 with ⟨_, e⟩ | ⟨g, cap, cur, e, _⟩
      · omega
      · injection e with e _ _; exact ⟨g, e⟩
    exact ⟨g, rfl, (World.cell?_of_block (a := ⟨g, k, none⟩) (c.block g (own_lt hl rfl).2 (n2 g rfl))).trans (nums_cell hl hk)⟩
  have HC0 : Hid (∀ wr : World, Chg F w wr → wr.cell? ⟨fb, 0, none⟩ = some (.pointer (some ⟨sb, 0, none⟩))) := fun wr c => (World.cell?_of_block (a := ⟨fb, 0, none⟩) (c.block fb hfb n1)).trans c0
  have H0 := hide (res_refl h)
  generalize hN : l.length = N at *
  have HN := hide hN
  clear V hF h hl n1 n2 hn hN
  go_enter Tryz.func95, Tryz.ntmps95
  go_wp2
  go_loopw [9] (fun s9 wr => ∃ k : Nat, s9 = .int .i64 k ∧ k ≤ N ∧ Hid (Res F w sb (remAll m (l.take k)) wr)) (fun s9 _ => N - (intOf s9).toNat)
  case atStart => exact ⟨0, rfl, Nat.zero_le _, by simpa [remAll] using H0⟩
  case round =>
    obtain ⟨k, rfl, hk, HR⟩ := hrel
    by_cases hlt : k < N
    · have hltz : (k : Int) < (N : Int) := by omega
      have hk0 : 0 ≤ (k : Int) := by omega
      obtain ⟨n, hx⟩ : ∃ n, l[k]? = some n := ⟨_, List.getElem?_eq_getElem (by rw [unhide HN]; exact hlt)⟩
      obtain ⟨g, rfl, hcx⟩ := unhide HLC k n wr hx (unhide HR).2
      have hc0 := unhide HC0 wr (unhide HR).2
      have HRK := hide (unhide HRM k n wr hx (unhide HR))
      clear hx
      go_wp2_with (go_at_call 32; refine (unhide HRK).mono ?_; rintro e w3 ⟨rfl, h3⟩; have HR3 := hide h3; clear h3)
      go_roundw
      case rel => exact ⟨k + 1, by go_num, by omega, HR3⟩
      case measure => simp [intOf]; omega
    · obtain rfl : k = N := by omega
      have hltz : ¬ (k : Int) < (k : Int) := by omega
      have HF : Hid (Res F w sb (remAll m l) wr) := by
        have := unhide HR
        rw [← unhide HN, List.take_length] at this
        exact this
      clear HR
      go_wp2
      go_end0
      exact ⟨rfl, unhide HF⟩
/-- nothing is deferred to a write that went well -/
theorem clos_nil {w : World} {eb : Nat} (u : FrameMode) (h1 : w.cell? ⟨eb + 1, 0, none⟩ = some .nilIface) :
    CallsD Tryz.prog 94 #[.pointer (some ⟨eb + 1, 0, none⟩), .pointer (some ⟨eb + 2, 0, none⟩), .pointer (some ⟨eb, 0, none⟩)] u w fun e u' w' => u' = u ∧ (e = .returned (.tuple #[]) ∧ w' = w) := by
  go_enter_d Tryz.func94, Tryz.ntmps94
  go_wp2
  go_end0
  exact ⟨rfl, rfl⟩
theorem FRes.drew {F G : Nat → Prop} {w : World} {E : Nat → Addr} {sb fb : Nat} {m : Sto} {f : For} {w' : World} (h : FRes F G w E sb fb m f w') : FRes F G w E sb fb m f w'.drew := by
  obtain ⟨F', G', q1, q2, q3, q4, q5, q6⟩ := h
  exact ⟨F', G', q1.kept (fun _ _ => rfl) (fun _ x => x) q1.lt, q2.kept (fun _ _ => rfl) (fun _ x => x) q2.lt, q3, q4, q5, q6.drew⟩
/-- the former died -/
theorem Bw.dead {w wr : World} {E : Nat → Addr} {F G : Nat → Prop} {sb fb eb c : Nat} {f : For} {A : List Tx} {bv mv ev wv : Value} {m : Sto} {F' : Nat → Prop} (h : Bw w wr F G sb fb eb f A bv mv ev wv m F') (hc : c ≠ 0) (hc2 : c ≠ 13) :
    (((((wr.setCell ⟨fb, 0, none⟩ (.pointer (some ⟨sb, 0, none⟩))).setCell ⟨fb, 1, none⟩ (.int .i64 0)).setCell ⟨fb, 2, none⟩ (.slice none 0 0)).setCell ⟨fb, 3, none⟩ (.slice none 0 0)).setCell ⟨fb, 4, none⟩ (er E c)).cell? ⟨eb + 1, 0, none⟩ = some ev ∧
    FRes F G w E sb fb m (f.die c) (((((wr.setCell ⟨fb, 0, none⟩ (.pointer (some ⟨sb, 0, none⟩))).setCell ⟨fb, 1, none⟩ (.int .i64 0)).setCell ⟨fb, 2, none⟩ (.slice none 0 0)).setCell ⟨fb, 3, none⟩ (.slice none 0 0)).setCell ⟨fb, 4, none⟩ (er E c)) := by
  obtain ⟨W, hW⟩ : ∃ W, (((((wr.setCell ⟨fb, 0, none⟩ (.pointer (some ⟨sb, 0, none⟩))).setCell ⟨fb, 1, none⟩ (.int .i64 0)).setCell ⟨fb, 2, none⟩ (.slice none 0 0)).setCell ⟨fb, 3, none⟩ (.slice none 0 0)).setCell ⟨fb, 4, none⟩ (er E c)) = W := ⟨_, rfl⟩
  have hlfb := h.lfb
  have l3 := h.lt3
  have hne : ∀ b, b ≠ fb → W.heap[b]? = wr.heap[b]? := fun b hb => by
    rw [← hW, Below.heap_setCell _ _ _ _ hb, Below.heap_setCell _ _ _ _ hb, Below.heap_setCell _ _ _ _ hb, Below.heap_setCell _ _ _ _ hb, Below.heap_setCell _ _ _ _ hb]
  have hz : W.heap.size = wr.heap.size := by rw [← hW]; simp
  have hfbW : W.heap[fb]? = some (.cells #[.pointer (some ⟨sb, 0, none⟩), .int .i64 0, .slice none 0 0, .slice none 0 0, er E c] 117 (0, 0)) := by
    rw [← hW, set_heap1 (set_heap1 (set_heap1 (set_heap1 (set_heap1 h.sto _) _) _) _) _]
    simp [forC]
  have hch : Chg (fun b => F b ∨ G b) w W := by
    rw [← hW]
    exact ((((h.chg.setCell (p := ⟨fb, 0, none⟩) (.inl (.inr hlfb.1)) _).setCell (p := ⟨fb, 1, none⟩) (.inl (.inr hlfb.1)) _).setCell (p := ⟨fb, 2, none⟩) (.inl (.inr hlfb.1)) _).setCell (p := ⟨fb, 3, none⟩) (.inl (.inr hlfb.1)) _).setCell (p := ⟨fb, 4, none⟩) (.inl (.inr hlfb.1)) _
  rw [hW]
  refine ⟨(World.cell?_of_block (a := ⟨eb + 1, 0, none⟩) (hne (eb + 1) (by omega))).trans h.cells.2.1, F', fun b => b = fb, h.at_.kept (fun b hF => hne b fun e => h.nfb (e ▸ hF)) (fun _ x => x) (fun b hF => by rw [hz]; exact h.at_.lt b hF), ⟨fun b hb => by rw [hb, hz]; omega, rfl, .inr (.inr ⟨hc, hc2, hfbW⟩)⟩, fun b hb e => h.nfb (e ▸ hb), fun b hb => (h.sub b hb).imp id fun y => ⟨y.1, by rw [hz]; exact y.2⟩, fun b hb => .inl (hb ▸ hlfb.1), hch⟩
theorem Bw.dead9 {w wr : World} {E : Nat → Addr} {F G : Nat → Prop} {sb fb eb c : Nat} {f : For} {A : List Tx} {bv mv ev wv : Value} {m : Sto} {F' : Nat → Prop} (h : Bw w wr F G sb fb eb f A bv mv ev wv m F') (hc : c ≠ 0) (hc2 : c ≠ 13) :
    (((((wr.setCell ⟨fb, 0, none⟩ (.pointer (some ⟨sb, 0, none⟩))).setCell ⟨fb, 1, none⟩ (.int .i64 0)).setCell ⟨fb, 2, none⟩ (.slice none 0 0)).setCell ⟨fb, 3, none⟩ (.slice none 0 0)).setCell ⟨fb, 4, none⟩ (er E c)).drew.cell? ⟨eb + 1, 0, none⟩ = some ev ∧
    FRes F G w E sb fb m (f.die c) (((((wr.setCell ⟨fb, 0, none⟩ (.pointer (some ⟨sb, 0, none⟩))).setCell ⟨fb, 1, none⟩ (.int .i64 0)).setCell ⟨fb, 2, none⟩ (.slice none 0 0)).setCell ⟨fb, 3, none⟩ (.slice none 0 0)).setCell ⟨fb, 4, none⟩ (er E c)).drew := by
  have q := h.dead (E := E) hc hc2
  generalize (((((wr.setCell ⟨fb, 0, none⟩ (.pointer (some ⟨sb, 0, none⟩))).setCell ⟨fb, 1, none⟩ (.int .i64 0)).setCell ⟨fb, 2, none⟩ (.slice none 0 0)).setCell ⟨fb, 3, none⟩ (.slice none 0 0)).setCell ⟨fb, 4, none⟩ (er E c)) = W at q ⊢
  exact ⟨q.1, q.2.drew⟩
set_option maxRecDepth 100000 in
set_option maxHeartbeats 2000000 in
/-- what is deferred to a write that failed -/
theorem clos_err {w wr : World} {E : Nat → Addr} {B : Nat} {F G : Nat → Prop} {sb fb eb c : Nat} {f : For} {A : List Tx} {bv mv : Value} {p : Option Addr} {m m2 : Sto} {F' : Nat → Prop} (V : Env w E B) (hF : ∀ b, F b → B ≤ b) (hG : ∀ b, G b → B ≤ b) (hB : B ≤ w.heap.size) (h : Bw w wr F G sb fb eb f A bv mv (er E c) (.pointer p) m F')
    (hdr : Calls Tryz.prog 80 #[.pointer p] wr fun e w' => e = .returned (.tuple #[]) ∧ ∃ F2, Bw w w' F G sb fb eb f A bv mv (er E c) (.pointer p) m2 F2) (hn : ∀ n ∈ f.made, n ≤ 16777216) (hll : f.made.length ≤ 16777216) (hc : c ≠ 0) (hc2 : c ≠ 13) (u : FrameMode) :
    CallsD Tryz.prog 94 #[.pointer (some ⟨eb + 1, 0, none⟩), .pointer (some ⟨eb + 2, 0, none⟩), .pointer (some ⟨eb, 0, none⟩)] u wr fun e u' w' => u' = u ∧ (e = .returned (.tuple #[]) ∧ w'.cell? ⟨eb + 1, 0, none⟩ = some (er E c) ∧ FRes F G w E sb fb (remAll m2 f.made) (f.die c) w') := by
  have HDR := hide hdr
  have HRR : Hid (∀ W, (∃ F2, Bw w W F G sb fb eb f A bv mv (er E c) (.pointer p) m2 F2) → Calls Tryz.prog 95 #[.pointer (some ⟨fb, 0, none⟩)] W fun e w' => e = .returned (.tuple #[]) ∧ ∃ F3, Bw w w' F G sb fb eb f A bv mv (er E c) (.pointer p) (remAll m2 f.made) F3) := fun W hW => by
    obtain ⟨F2, h2⟩ := hW
    obtain ⟨c0, c1, c2, c3, c4, cf⟩ := fcells h2.sto
    refine (remove_runs (h2.env V hF hG hB) (h2.lo hF hB) h2.at_ c0 c3 h2.int h2.nfb h2.nint hn hll (by have := h2.lfb.2; have := h2.lt3; omega)).mono ?_
    rintro e w' ⟨rfl, r⟩
    exact ⟨rfl, _, h2.res r⟩
  have HFI : Hid (∀ W, (∃ F3, Bw w W F G sb fb eb f A bv mv (er E c) (.pointer p) (remAll m2 f.made) F3) → _ ∧ _) := fun W hW => by
    obtain ⟨F3, h3⟩ := hW
    exact h3.dead9 (E := E) hc hc2
  obtain ⟨d0, d1, d2, -, -⟩ := h.cells
  clear V hF hG h hdr hn
  unfold er at *
  go_enter_d Tryz.func94, Tryz.ntmps94
  go_wp2_with (first
    | (go_at_call 80; refine (unhide HDR).mono ?_; rintro e w1 ⟨rfl, h1⟩; have HB1 := hide h1; obtain ⟨F1, h1⟩ := h1; obtain ⟨z0, z1, z2, -, -⟩ := h1.cells; clear h1)
    | (go_at_call 95; refine (unhide HRR _ (unhide HB1)).mono ?_; rintro e w2 ⟨rfl, h2⟩; have HB2 := hide h2; obtain ⟨F2, h2⟩ := h2; obtain ⟨y0, y1, y2, -, -⟩ := h2.cells; obtain ⟨x0, x1, x2, x3, x4, xf⟩ := fcells h2.sto; have hlf := h2.lfb.2; have hl3 := h2.lt3; clear h2))
  go_region
  have HD := hide (unhide HFI _ (unhide HB2))
  revert HD
  generalize World.drew _ = W9
  intro HD
  go_end0
  exact ⟨rfl, unhide HD⟩
end Rs
end Go.Proofs.YtohfhkdhccpoaaaGreatDoor
/- Layer 6: Close where the store refuses a step: the writer tells it and dies of it. -/
namespace Go.Proofs.YtohfhkdhccpoaaaGreatDoor
open Go.RowKit
namespace Rs
section
variable {w wr : World} {E : Nat → Addr} {F G : Nat → Prop} {sb wb : Nat} {x : Wri} {m : Sto} {bv : Value} {F' : Nat → Prop}
theorem Cw.died {c : Nat} (h : Cw w wr E F G sb wb x m bv F') (hG : G wb) (b1 : 1 ≤ x.blk) (b2 : x.blk ≤ 4096) : WRes F G w E sb wb m { x with buf := [], dead := c } ((wr.setCell ⟨wb, 4, none⟩ (errV E c)).setCell ⟨wb, 3, none⟩ (.slice none 0 0)) := by
  have l1 := (Array.getElem?_eq_some_iff.1 h.sto).1
  have hz : ((wr.setCell ⟨wb, 4, none⟩ (errV E c)).setCell ⟨wb, 3, none⟩ (.slice none 0 0)).heap.size = wr.heap.size := by simp
  have hne : ∀ b, b ≠ wb → ((wr.setCell ⟨wb, 4, none⟩ (errV E c)).setCell ⟨wb, 3, none⟩ (.slice none 0 0)).heap[b]? = wr.heap[b]? := fun b hb => by
    rw [Below.heap_setCell _ _ _ _ hb, Below.heap_setCell _ _ _ _ hb]
  refine ⟨F', fun b => b = wb, .slice none 0 0, h.at_.kept (fun b hF => hne b fun e => h.nwb (e ▸ hF)) (fun _ x => x) (fun b hF => by rw [hz]; exact h.at_.lt b hF), ⟨fun b hb => by rw [hz, hb]; exact l1, rfl, ?_, World.ownsRow_nil _ _ _ _, fun k hk => (by cases hk), by simp; omega, b1, b2⟩, fun b hF hg => h.nwb (hg ▸ hF), fun b hF => ?_, fun b hg => .inl (hg ▸ hG), (h.chg.setCell (.inl (.inr hG)) _).setCell (.inl (.inr hG)) _⟩
  · rw [set_heap1 (set_heap1 h.sto _)]
    simp [wriC]
  · rw [show Up F w ((wr.setCell ⟨wb, 4, none⟩ (errV E c)).setCell ⟨wb, 3, none⟩ (.slice none 0 0)) b ↔ Up F w wr b by unfold Up; rw [hz]]
    exact h.sub b hF
theorem cw_die {c : Nat} (h : Cw w wr E F G sb wb x m bv F') (hG : G wb) (b1 : 1 ≤ x.blk) (b2 : x.blk ≤ 4096) (hc : c ≠ 0) :
    Calls Tryz.prog 117 #[.pointer (some ⟨wb, 0, none⟩), er E c] wr fun e w' => e = .returned (er E c) ∧ WRes F G w E sb wb m { x with buf := [], dead := c } w' := by
  refine (die_any h.sto (by simp [wriC]) (er E c) (.inr ⟨_, _, rfl⟩)).mono ?_
  rintro e w' ⟨rfl, rfl⟩
  rw [← errV_er hc]
  exact ⟨rfl, h.died hG b1 b2⟩
end
set_option maxRecDepth 100000 in
set_option maxHeartbeats 2000000 in
theorem close_fail {w : World} {E : Nat → Addr} {B sb wb : Nat} {m : Sto} {F G : Nat → Prop} {x : Wri} {bv : Value} (V : Env w E B) (hF : ∀ b, F b → B ≤ b) (hG : ∀ b, G b → B ≤ b) (hB : B ≤ w.heap.size) (h : At w sb m F) (hw : WIn w E sb wb x G bv) (hd : ∀ b, F b → ¬ G b) (hx : x.dead = 0) (hrun : x.run ≤ 16777216)
    (c : Nat) (m2 : Sto) (hP : wclo x.run m x.buf = (c, m2)) (hc : c ≠ 0) :
    Calls Tryz.prog 81 #[.pointer (some ⟨wb, 0, none⟩)] w fun e w' => e = .returned (.tuple #[.int .i64 0, er E c]) ∧ WRes F G w E sb wb m2 { x with buf := [], dead := c } w' := by
  have HCK := hide (check_any hw)
  rw [show errV E x.dead = .nilIface by rw [hx]; rfl] at HCK
  have HC0 := hide (Cw.start h hw hd)
  have HV := hide V
  have HBB : Hid (∀ W, Chg (fun b => F b ∨ G b) w W → Below B w W) := fun W c => c.below hB (fun k hk => hk.elim (hF k) (hG k))
  have HFB : Hid (∀ {W : World} {mm : Sto} {FF : Nat → Prop}, Cw w W E F G sb wb x mm bv FF → ∀ b, FF b → B ≤ b) := fun {W mm FF} c b hb => by
    rcases c.sub b hb with y | y
    · exact hF b y
    · omega
  have HSL : Hid (∀ {m1 : Sto} {W : World} {FF : Nat → Prop}, sel m1 x.run = (c, m2) → Cw w W E F G sb wb x m1 bv FF → Calls Tryz.prog 47 #[.pointer (some ⟨sb, 0, none⟩), .int .i64 x.run] W fun e w' => e = .returned (er E c) ∧ Cw w w' E F G sb wb x m2 bv (Up FF W w')) := fun {m1 W FF} hs cw => by
    have q := seal_any (k := (x.run : Int)) cw.at_ (((unhide HV).below (unhide HBB W cw.chg)).gs (unhide HFB cw)) (by omega) (by omega)
    rw [hs] at q
    rw [← errV_er hc]
    exact q.mono fun e w' hh => ⟨hh.1, cw.res hh.2⟩
  have HOW := hide hw.own
  have HDI : Hid (∀ {W : World} {FF : Nat → Prop}, Cw w W E F G sb wb x m2 bv FF → Calls Tryz.prog 117 #[.pointer (some ⟨wb, 0, none⟩), er E c] W fun e w' => e = .returned (er E c) ∧ WRes F G w E sb wb m2 { x with buf := [], dead := c } w') := fun {W FF} cw => cw_die cw hw.own hw.blk1 hw.blk2 hc
  obtain ⟨ab, cb, rfl⟩ := own_slice hw.row
  have hzw := zero_writer
  have hbl : x.buf.length < 4096 := by have := hw.small; have := hw.blk2; omega
  by_cases hb : x.buf = []
  · have hs1 : sel m x.run = (c, m2) := by unfold wclo at hP; rwa [if_pos hb] at hP
    have HS1 := hide hs1
    have hl0 : x.buf.length = 0 := by rw [hb]; rfl
    obtain ⟨c0, c1, c2, c3, c4, cf⟩ := wcells (unhide HC0).sto
    have hwb : wb < w.heap.size := (Array.getElem?_eq_some_iff.1 (unhide HC0).sto).1
    rw [hl0] at c3
    unfold er at *
    clear V h hw hd hP hs1 hx hb
    go_enter Tryz.func81, Tryz.ntmps81
    go_wp2_with fail
    refine (unhide HCK).mono ?_
    rintro e w0 ⟨rfl, hw0⟩
    have hw00 := hw0.symm
    subst hw00
    clear hw0 HCK
    go_wp2
    go_region_held3 (fun w' => w'.cell? ⟨wb, 0, none⟩ = some (.pointer (some ⟨sb, 0, none⟩)) ∧ w'.cell? ⟨wb, 1, none⟩ = some (.int .i64 x.run))
      (first | exact ⟨c0, c1⟩ | exact s3)
      (first | (go_at_call 47; refine (unhide HSL (unhide HS1) ((unhide HC0).below (by (repeat (first | exact Below.refl _ _ | refine Below.drew ?_ | refine Below.alloc ?_ (by first | (simp; done) | (simp; omega)) _ | refine Below.setCell ?_ (by first | (simp; done) | (simp; omega)) _))))).mono ?_; rintro e w3 ⟨rfl, hl3⟩; have HL3 := hide hl3; obtain ⟨z0, z1, z2, z3, z4, zf⟩ := wcells hl3.sto; have s3 := (⟨z0, z1⟩ : _ ∧ _); have hz3 : wb < w3.heap.size := (Array.getElem?_eq_some_iff.1 hl3.sto).1; clear hl3))
    clear s3
    have HD3 := hide (unhide HDI (unhide HL3))
    clear HDI HSL
    go_wp2_with (go_at_call 117; refine (unhide HD3).mono ?_; rintro e w5 ⟨rfl, h5⟩; have HF5 := hide h5; clear h5)
    go_ret2
    exact ⟨rfl, unhide HF5⟩
  · obtain ⟨c1, m1, hap⟩ : ∃ c1 m1, app m x.run [strB x.buf] = (c1, m1) := ⟨_, _, rfl⟩
    have hP2 := hP
    unfold wclo at hP2
    rw [if_neg hb, hap] at hP2
    have hlp : 0 < x.buf.length := List.length_pos_iff.2 hb
    have hlz : 0 < (x.buf.length : Int) := by omega
    obtain ⟨X, hX⟩ : ∃ X, strB x.buf = X := ⟨_, rfl⟩
    have HCV : Hid (∀ {W : World} {mm : Sto} {FF : Nat → Prop}, Cw w W E F G sb wb x mm (.slice ab x.buf.length cb) FF → (convert 77 9 (.slice ab x.buf.length cb)).run Tryz.prog W = .ok (.string X) W) := fun {W mm FF} hW => by
      obtain ⟨g, rfl⟩ : ∃ g, ab = some ⟨g, 0, none⟩ := by
        rcases hW.row.2 with ⟨_, e⟩ | ⟨g, cap, cur, e, _⟩
        · omega
        · injection e with e _ _; exact ⟨g, e⟩
      have := conv_row hW.row 0 x.buf.length cb (by omega)
      rw [List.drop_zero, List.take_length, hX] at this
      exact this
    have HAPP : Hid (∀ W, Below w.heap.size w W → w.heap.size < W.heap.size → W.cell? ⟨w.heap.size, 0, none⟩ = some (.string X) → Calls Tryz.prog 45 #[.pointer (some ⟨sb, 0, none⟩), .int .i64 x.run, .slice (some ⟨w.heap.size, 0, none⟩) 1 1] W fun e w' => e = .returned (errV E c1) ∧ Cw w w' E F G sb wb x m1 (.slice ab x.buf.length cb) (Up F W w')) := fun W hW hlt hcell => by
      have l := (unhide HC0).below hW
      have q := append_any (k := (x.run : Int)) (v := .slice (some ⟨w.heap.size, 0, none⟩) 1 1) (L := [X]) l.at_ (((unhide HV).below (unhide HBB W l.chg)).gs (unhide HFB l)) (by omega) (by omega) ⟨_, 1, rfl, by simp, fun _ => ⟨w.heap.size, 0, rfl, hlt, fun hb => by have := h.lt _ hb; omega, fun j y hy => by
        have : j = 0 := by
          have := (List.getElem?_eq_some_iff.1 hy).1
          simpa using this
        subst this
        simp at hy
        subst hy
        rw [Nat.zero_add]; exact hcell⟩⟩
      rw [← hX, hap] at q
      exact q.mono fun e w' hh => ⟨hh.1, l.res hh.2⟩
    obtain ⟨c0, cc1, c2, c3, c4, cf⟩ := wcells (unhide HC0).sto
    have hwb : wb < w.heap.size := (Array.getElem?_eq_some_iff.1 (unhide HC0).sto).1
    have s0 := unhide HCV (unhide HC0)
    obtain ⟨n, hn⟩ : ∃ n, x.buf.length = n := ⟨_, rfl⟩
    rw [hn] at hlp hlz s0 c3 hbl HCV HAPP HC0 HSL HFB HDI
    by_cases hc1 : c1 = 0
    · subst hc1
      rw [if_pos rfl] at hP2
      have HS1 := hide hP2
      rw [errV_zero] at HAPP
      unfold er at *
      clear V h hw hd hP hP2 hx hb hap hX hn HFB
      go_enter Tryz.func81, Tryz.ntmps81
      go_wp2_with fail
      refine (unhide HCK).mono ?_
      rintro e w0 ⟨rfl, hw0⟩
      have hw00 := hw0.symm
      subst hw00
      clear hw0 HCK
      go_wp2
      go_region_held3 (fun w' => w'.cell? ⟨wb, 0, none⟩ = some (.pointer (some ⟨sb, 0, none⟩)) ∧ w'.cell? ⟨wb, 1, none⟩ = some (.int .i64 x.run) ∧ w'.cell? ⟨wb, 3, none⟩ = some (.slice ab n cb) ∧ (convert 77 9 (.slice ab n cb)).run Tryz.prog w' = .ok (.string X) w')
        (first | exact ⟨c0, cc1, c3, s0⟩ | exact s2 | (refine ⟨?_, ?_, ?_, unhide HCV ((unhide HC0).below (by (repeat (first | exact Below.refl _ _ | refine Below.drew ?_ | refine Below.alloc ?_ (by first | (simp; done) | (simp; omega)) _ | refine Below.setCell ?_ (by first | (simp; done) | (simp; omega)) _))))⟩ <;> go_simp))
        (first | (go_at_call 45; refine (unhide HAPP _ (by (repeat (first | exact Below.refl _ _ | refine Below.drew ?_ | refine Below.alloc ?_ (by first | (simp; done) | (simp; omega)) _ | refine Below.setCell ?_ (by first | (simp; done) | (simp; omega)) _))) (by simp) (by go_simp)).mono ?_; rintro e w2 ⟨rfl, hl2⟩; have HL2 := hide hl2; obtain ⟨y0, y1, y2, y3, y4, yf⟩ := wcells hl2.sto; have s2 := (⟨y0, y1, y3, unhide HCV hl2⟩ : _ ∧ _ ∧ _ ∧ _); have hz2 : wb < w2.heap.size := (Array.getElem?_eq_some_iff.1 hl2.sto).1; clear hl2))
      clear s2 s0 c0 cc1 c2 c3 c4 cf
      go_wp2
      go_region_held3 (fun w' => w'.cell? ⟨wb, 0, none⟩ = some (.pointer (some ⟨sb, 0, none⟩)) ∧ w'.cell? ⟨wb, 1, none⟩ = some (.int .i64 x.run))
        (first | exact ⟨y0, y1⟩ | exact s3)
        (first | (go_at_call 47; refine (unhide HSL (unhide HS1) ((unhide HL2).below (by (repeat (first | exact Below.refl _ _ | refine Below.drew ?_ | refine Below.alloc ?_ (by first | (simp; done) | (simp; omega)) _ | refine Below.setCell ?_ (by first | (simp; done) | (simp; omega)) _))))).mono ?_; rintro e w3 ⟨rfl, hl3⟩; have HL3 := hide hl3; obtain ⟨z0, z1, z2, z3, z4, zf⟩ := wcells hl3.sto; have s3 := (⟨z0, z1⟩ : _ ∧ _); have hz3 : wb < w3.heap.size := (Array.getElem?_eq_some_iff.1 hl3.sto).1; clear hl3))
      clear s3 y0 y1 y2 y3 y4 yf
      have HD3 := hide (unhide HDI (unhide HL3))
      clear HDI HSL
      go_wp2_with (go_at_call 117; refine (unhide HD3).mono ?_; rintro e w5 ⟨rfl, h5⟩; have HF5 := hide h5; clear h5)
      go_ret2
      exact ⟨rfl, unhide HF5⟩
    · rw [if_neg hc1] at hP2
      simp only [Prod.mk.injEq] at hP2
      obtain ⟨rfl, rfl⟩ := hP2
      rw [errV_er hc] at HAPP
      unfold er at *
      clear V h hw hd hP hx hb hap hX hn HFB HSL
      go_enter Tryz.func81, Tryz.ntmps81
      go_wp2_with fail
      refine (unhide HCK).mono ?_
      rintro e w0 ⟨rfl, hw0⟩
      have hw00 := hw0.symm
      subst hw00
      clear hw0 HCK
      go_wp2
      go_region_held3 (fun w' => w'.cell? ⟨wb, 0, none⟩ = some (.pointer (some ⟨sb, 0, none⟩)) ∧ w'.cell? ⟨wb, 1, none⟩ = some (.int .i64 x.run) ∧ w'.cell? ⟨wb, 3, none⟩ = some (.slice ab n cb) ∧ (convert 77 9 (.slice ab n cb)).run Tryz.prog w' = .ok (.string X) w')
        (first | exact ⟨c0, cc1, c3, s0⟩ | exact s2 | (refine ⟨?_, ?_, ?_, unhide HCV ((unhide HC0).below (by (repeat (first | exact Below.refl _ _ | refine Below.drew ?_ | refine Below.alloc ?_ (by first | (simp; done) | (simp; omega)) _ | refine Below.setCell ?_ (by first | (simp; done) | (simp; omega)) _))))⟩ <;> go_simp))
        (first | (go_at_call 45; refine (unhide HAPP _ (by (repeat (first | exact Below.refl _ _ | refine Below.drew ?_ | refine Below.alloc ?_ (by first | (simp; done) | (simp; omega)) _ | refine Below.setCell ?_ (by first | (simp; done) | (simp; omega)) _))) (by simp) (by go_simp)).mono ?_; rintro e w2 ⟨rfl, hl2⟩; have HL2 := hide hl2; obtain ⟨y0, y1, y2, y3, y4, yf⟩ := wcells hl2.sto; have s2 := (⟨y0, y1, y3, unhide HCV hl2⟩ : _ ∧ _ ∧ _ ∧ _); have hz2 : wb < w2.heap.size := (Array.getElem?_eq_some_iff.1 hl2.sto).1; clear hl2))
      clear s2 s0 c0 cc1 c2 c3 c4 cf
      have HL3 := HL2
      have HD3 := hide (unhide HDI (unhide HL3))
      clear HDI
      go_wp2_with (go_at_call 117; refine (unhide HD3).mono ?_; rintro e w5 ⟨rfl, h5⟩; have HF5 := hide h5; clear h5)
      go_ret2
      exact ⟨rfl, unhide HF5⟩
end Rs
end Go.Proofs.YtohfhkdhccpoaaaGreatDoor
