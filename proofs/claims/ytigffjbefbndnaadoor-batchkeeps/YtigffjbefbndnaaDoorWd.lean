/- Layer 6: a writer's calls that do not go well: of a dead, of a closed writer, of a text that does not fit; Open where no run is made; Drop. -/
import Derived.Test.YtigffjbefbndnaaDoorWr
namespace Go.Proofs.YtigffjbefbndnaaDoor
open Go.RowKit
namespace Rs
/-- a closed writer -/
def WCl (w : World) (wb : Nat) : Prop := w.heap[wb]? = some (.cells #[.pointer none, .int .i64 0, .int .i64 0, .slice none 0 0, .nilIface] 86 (0, 0))
theorem WCl.below {w W : World} {wb : Nat} (h : WCl w wb) (hb : Below w.heap.size w W) : WCl W wb := (hb.block wb (Array.getElem?_eq_some_iff.1 h).1).trans h
theorem WCl.cell {w : World} {wb : Nat} (h : WCl w wb) : w.cell? ⟨wb, 0, none⟩ = some (.pointer none) := by unfold WCl at h; simp [World.cell?, h]
set_option maxRecDepth 100000 in
theorem check_closed {w : World} {E : Nat → Addr} {B wb : Nat} (V : Env w E B) (h : WCl w wb) :
    Calls Tryd.prog 49 #[.pointer (some ⟨wb, 0, none⟩)] w fun e w' => e = .returned (er E 13) ∧ w' = w := by
  have c0 := h.cell
  have hcl := V.cl
  clear h V
  go_enter Tryd.func49, Tryd.ntmps49
  go_wp2
  go_ret
  exact ⟨rfl, rfl⟩
theorem errV_er {E : Nat → Addr} {c : Nat} (h : c ≠ 0) : errV E c = er E c := by unfold errV; rw [if_neg h]
/-- a call whose check fails -/
theorem put_check {w : World} {wb : Nat} {v : Value} {E : Nat → Addr} {c : Nat} (h : Calls Tryd.prog 49 #[.pointer (some ⟨wb, 0, none⟩)] w fun e w' => e = .returned (er E c) ∧ w' = w) :
    Calls Tryd.prog 39 #[.pointer (some ⟨wb, 0, none⟩), v] w fun e w' => e = .returned (er E c) ∧ w' = w := by
  have HCK := hide h
  clear h
  unfold er at *
  go_enter Tryd.func39, Tryd.ntmps39
  go_wp2_with (go_at_call 49; refine (unhide HCK).mono ?_; rintro e w1 ⟨rfl, hw1⟩; have hw2 := hw1.symm; subst hw2; clear hw1)
  go_ret
  exact ⟨rfl, rfl⟩
theorem close_check {w : World} {wb : Nat} {E : Nat → Addr} {c : Nat} (h : Calls Tryd.prog 49 #[.pointer (some ⟨wb, 0, none⟩)] w fun e w' => e = .returned (er E c) ∧ w' = w) :
    Calls Tryd.prog 40 #[.pointer (some ⟨wb, 0, none⟩)] w fun e w' => e = .returned (.tuple #[.int .i64 0, er E c]) ∧ w' = w := by
  have HCK := hide h
  clear h
  unfold er at *
  go_enter Tryd.func40, Tryd.ntmps40
  go_wp2_with (go_at_call 49; refine (unhide HCK).mono ?_; rintro e w1 ⟨rfl, hw1⟩; have hw2 := hw1.symm; subst hw2; clear hw1)
  go_ret2
  exact ⟨rfl, rfl⟩
section
variable {w : World} {E : Nat → Addr} {B sb wb : Nat} {x : Wri} {G : Nat → Prop} {bv v : Value}
theorem put_dead (h : WIn w E sb wb x G bv) (hx : x.dead ≠ 0) :
    Calls Tryd.prog 39 #[.pointer (some ⟨wb, 0, none⟩), v] w fun e w' => e = .returned (er E x.dead) ∧ w' = w :=
  put_check (by have := check_any h; rwa [errV_er hx] at this)
theorem put_closed (V : Env w E B) (h : WCl w wb) :
    Calls Tryd.prog 39 #[.pointer (some ⟨wb, 0, none⟩), v] w fun e w' => e = .returned (er E 13) ∧ w' = w := put_check (check_closed V h)
theorem close_dead (h : WIn w E sb wb x G bv) (hx : x.dead ≠ 0) :
    Calls Tryd.prog 40 #[.pointer (some ⟨wb, 0, none⟩)] w fun e w' => e = .returned (.tuple #[.int .i64 0, er E x.dead]) ∧ w' = w :=
  close_check (by have := check_any h; rwa [errV_er hx] at this)
theorem close_closed (V : Env w E B) (h : WCl w wb) :
    Calls Tryd.prog 40 #[.pointer (some ⟨wb, 0, none⟩)] w fun e w' => e = .returned (.tuple #[.int .i64 0, er E 13]) ∧ w' = w := close_check (check_closed V h)
end
set_option maxRecDepth 100000 in
set_option maxHeartbeats 1000000 in
theorem put_unfit {w : World} {E : Nat → Addr} {B sb wb : Nat} {x : Wri} {G : Nat → Prop} {bv v : Value} {L : List ByteArray} (V : Env w E B) (hB : B ≤ w.heap.size) (hw : WIn w E sb wb x G bv) (hx : x.dead = 0) (hT : Um.Txs w v L) (hn : L.length ≤ 1048576) (hfit : Um.fit (Um.rl L) = false) :
    Calls Tryd.prog 39 #[.pointer (some ⟨wb, 0, none⟩), v] w fun e w' => e = .returned (er E 10) ∧ Below w.heap.size w w' := by
  have HFR := hide (Um.frame_any v L w hT (by omega) ByteArray.empty 62 (by show Um.frA L = _; unfold Um.frA; rw [if_neg (by simp [hfit])]) (by show Um.frE L = 62; unfold Um.frE; rw [if_neg (by simp [hfit])]))
  have HCK := hide (check_any hw)
  rw [show errV E x.dead = .nilIface by rw [hx]; rfl] at HCK
  have HV := hide V
  clear V hw hT hfit
  go_enter Tryd.func39, Tryd.ntmps39
  go_wp2_with (first | (go_at_call 49; refine (unhide HCK).mono ?_; rintro e w1 ⟨rfl, hw1⟩; have hw2 := hw1.symm; subst hw2; clear hw1) | (go_at_call 50; refine (unhide HFR).mono ?_; rintro e w3 ⟨rfl, hb3⟩; have hrc := ((unhide HV).below (hb3.mono hB)).rc; have HB3 := hide hb3; clear hb3))
  go_ret
  exact ⟨rfl, unhide HB3⟩
set_option maxRecDepth 100000 in
set_option maxHeartbeats 1000000 in
theorem open_fail {w : World} {E : Nat → Addr} {B sb b c : Nat} {m m2 : Sto} {F : Nat → Prop} (V : Env w E B) (hF : ∀ b, F b → B ≤ b) (h : At w sb m F) (h1 : 1 ≤ b) (h2 : b ≤ 4096) (hc : crt m = ((0, c), m2)) (hc0 : c ≠ 0) :
    Calls Tryd.prog 38 #[.pointer (some ⟨sb, 0, none⟩), .int .i64 b] w fun e w' => e = .returned (.tuple #[.pointer none, er E c]) ∧ Res F w sb m2 w' := by
  have HCP := hide (place_ok (w := w) sb b h1 h2)
  have HCR := hide (create_any h (V.gs hF))
  rw [hc] at HCR
  rw [show errV E (((0, c), m2) : (Int × Nat) × Sto).1.2 = er E c from errV_er hc0] at HCR
  dsimp only at HCR
  clear V h hc
  unfold er at *
  go_enter Tryd.func38, Tryd.ntmps38
  go_wp2_with (first | (go_at_call 47; refine (unhide HCP).mono ?_; rintro e w1 ⟨rfl, hw1⟩; have hw2 := hw1.symm; subst hw2; clear hw1) | (go_at_call 48; refine (unhide HCR).mono ?_; rintro e w2 ⟨rfl, r2⟩; have HR2 := hide r2; clear r2))
  go_ret2
  exact ⟨rfl, unhide HR2⟩
set_option maxRecDepth 100000 in
theorem drop_closed {w : World} {wb : Nat} (h : WCl w wb) :
    Calls Tryd.prog 34 #[.pointer (some ⟨wb, 0, none⟩)] w fun e w' => e = .returned (.tuple #[]) ∧ w' = w := by
  have c0 := h.cell
  clear h
  go_enter Tryd.func34, Tryd.ntmps34
  go_wp2
  (try simp only [Exit.inBlock, Exit.then])
  refine bodyPost_ret (results_none rfl _ _ _) rfl ?_
  exact ⟨rfl, rfl⟩
set_option maxRecDepth 100000 in
set_option maxHeartbeats 2000000 in
theorem drop_go {w : World} {E : Nat → Addr} {B sb wb : Nat} {m : Sto} {F G : Nat → Prop} {x : Wri} {bv : Value} (V : Env w E B) (hF : ∀ b, F b → B ≤ b) (h : At w sb m F) (hw : WIn w E sb wb x G bv) (hd : ∀ b, F b → ¬ G b) (hrun : x.run ≤ 16777216) :
    Calls Tryd.prog 34 #[.pointer (some ⟨wb, 0, none⟩)] w fun e w' => e = .returned (.tuple #[]) ∧ CRes F G w sb wb (rem m x.run).2 w' := by
  have HC0 := hide (Cw.start h hw hd)
  have HRM : Hid (∀ W, Below w.heap.size w W → B ≤ w.heap.size → Calls Tryd.prog 45 #[.pointer (some ⟨sb, 0, none⟩), .int .i64 x.run] W fun e w' => e = .returned (errV E (rem m x.run).1) ∧ Cw w w' E F G sb wb x (rem m x.run).2 bv (Up F W w')) := fun W hW hB => by
    have c := (unhide HC0).below hW
    exact (remove_any (k := (x.run : Int)) c.at_ ((V.below (hW.mono hB)).gs hF) (by omega) (by omega)).mono fun e w' hh => ⟨hh.1, c.res hh.2⟩
  have HOW := hide hw.own
  have hzw := zero_writer
  obtain ⟨c0, c1, c2, c3, c4, cf⟩ := wcells (unhide HC0).sto
  have hwb : wb < w.heap.size := (Array.getElem?_eq_some_iff.1 (unhide HC0).sto).1
  have hB : B ≤ w.heap.size := Nat.le_trans (hF sb h.own) (Nat.le_of_lt (h.lt sb h.own))
  have HBS := hide hB
  clear V h hw hd hF hB
  go_enter Tryd.func34, Tryd.ntmps34
  go_wp2
  go_region_held3 (fun w' => w'.cell? ⟨wb, 0, none⟩ = some (.pointer (some ⟨sb, 0, none⟩)) ∧ w'.cell? ⟨wb, 1, none⟩ = some (.int .i64 x.run))
    (first | exact ⟨c0, c1⟩ | exact s3)
    (first | (go_at_call 45; refine (unhide HRM _ (by (repeat (first | exact Below.refl _ _ | refine Below.drew ?_ | refine Below.alloc ?_ (by first | (simp; done) | (simp; omega)) _ | refine Below.setCell ?_ (by first | (simp; done) | (simp; omega)) _))) (unhide HBS)).mono ?_; rintro e w3 ⟨rfl, hl3⟩; have HL3 := hide hl3; obtain ⟨z0, z1, z2, z3, z4, zf⟩ := wcells hl3.sto; have s3 := (⟨z0, z1⟩ : _ ∧ _); have hz3 : wb < w3.heap.size := (Array.getElem?_eq_some_iff.1 hl3.sto).1; clear hl3))
  clear s3
  have HFI := hide ((unhide HL3).fin (unhide HOW))
  go_wp2
  go_end0
  exact ⟨rfl, unhide HFI⟩
end Rs
end Go.Proofs.YtigffjbefbndnaaDoor
