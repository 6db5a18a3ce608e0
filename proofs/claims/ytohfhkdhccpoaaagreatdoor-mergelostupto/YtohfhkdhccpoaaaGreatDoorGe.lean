/- Layer 6: a writer in memory; check, die, checkPlace. -/
import Derived.Test.YtohfhkdhccpoaaaGreatDoorGb
import Derived.Test.YtohfhkdhccpoaaaGreatDoorGc
import Derived.Test.YtohfhkdhccpoaaaGreatDoorGd
import Derived.Laws.AppendOwn
import Derived.Deep.RegionHeld3
namespace Go.Proofs.YtohfhkdhccpoaaaGreatDoor
open Go.RowKit
namespace Rs
/-- a writer: its run, its block, what it holds, the failure of which it died -/
structure Wri where
  run : Nat
  blk : Nat
  buf : List UInt8
  dead : Nat
def wriC (E : Nat → Addr) (sb : Nat) (x : Wri) (bv : Value) : Array Value := #[.pointer (some ⟨sb, 0, none⟩), .int .i64 x.run, .int .i64 x.blk, bv, errV E x.dead]
/-- the writer x of the store at sb lies at block wb, in the blocks G -/
structure WIn (w : World) (E : Nat → Addr) (sb wb : Nat) (x : Wri) (G : Nat → Prop) (bv : Value) : Prop where
  lt : ∀ b, G b → b < w.heap.size
  own : G wb
  sto : w.heap[wb]? = some (.cells (wriC E sb x bv) 174 (0, 0))
  row : w.ownsRow 0 5 1 bv x.buf.length (x.buf.map encB)
  rowG : ∀ g, bv.ownBlock = some g → G g
  small : x.buf.length < x.blk
  blk1 : 1 ≤ x.blk
  blk2 : x.blk ≤ 4096
theorem WIn.kept {w w' : World} {E : Nat → Addr} {sb wb : Nat} {x : Wri} {G H : Nat → Prop} {bv : Value} (h : WIn w E sb wb x G bv) (hb : ∀ b, G b → w'.heap[b]? = w.heap[b]?) (hG : ∀ b, G b → H b) (hl : ∀ b, H b → b < w'.heap.size) : WIn w' E sb wb x H bv :=
  ⟨hl, hG _ h.own, (hb _ h.own).trans h.sto, own_kept h.row fun g hg => hb g (h.rowG g hg), fun g hg => hG g (h.rowG g hg), h.small, h.blk1, h.blk2⟩
theorem WIn.below {w w' : World} {E : Nat → Addr} {sb wb : Nat} {x : Wri} {G : Nat → Prop} {bv : Value} (h : WIn w E sb wb x G bv) (hb : Below w.heap.size w w') : WIn w' E sb wb x G bv :=
  h.kept (fun b hF => hb.block b (h.lt b hF)) (fun _ x => x) fun b hF => Nat.lt_of_lt_of_le (h.lt b hF) hb.size
theorem wcells {w : World} {E : Nat → Addr} {sb wb : Nat} {x : Wri} {bv : Value} (h : w.heap[wb]? = some (.cells (wriC E sb x bv) 174 (0, 0))) :
    w.cell? ⟨wb, 0, none⟩ = some (.pointer (some ⟨sb, 0, none⟩)) ∧ w.cell? ⟨wb, 1, none⟩ = some (.int .i64 x.run) ∧ w.cell? ⟨wb, 2, none⟩ = some (.int .i64 x.blk) ∧ w.cell? ⟨wb, 3, none⟩ = some bv ∧ w.cell? ⟨wb, 4, none⟩ = some (errV E x.dead) ∧ ∀ k, w.frozen? ⟨wb, k, none⟩ = false := by
  refine ⟨?_, ?_, ?_, ?_, ?_, fun k => ?_⟩ <;> simp [World.cell?, World.frozen?, h, wriC]
set_option maxRecDepth 100000 in
theorem check_any {w : World} {E : Nat → Addr} {sb wb : Nat} {x : Wri} {G : Nat → Prop} {bv : Value} (h : WIn w E sb wb x G bv) :
    Calls Tryz.prog 115 #[.pointer (some ⟨wb, 0, none⟩)] w fun e w' => e = .returned (errV E x.dead) ∧ w' = w := by
  obtain ⟨c0, c1, c2, c3, c4, cf⟩ := wcells h.sto
  clear h
  generalize errV E x.dead = ev at *
  go_enter Tryz.func115, Tryz.ntmps115
  go_wp2
  go_ret
  exact ⟨rfl, rfl⟩
set_option maxRecDepth 100000 in
theorem place_ok {w : World} (sb b : Nat) (h1 : 1 ≤ b) (h2 : b ≤ 4096) :
    Calls Tryz.prog 113 #[.pointer (some ⟨sb, 0, none⟩), .int .i64 b] w fun e w' => e = .returned .nilIface ∧ w' = w := by
  have q1 : ¬ (b : Int) < 1 := by omega
  have q2 : ¬ 4096 < (b : Int) := by omega
  go_enter Tryz.func113, Tryz.ntmps113
  go_wp2
  go_ret
  exact ⟨rfl, rfl⟩
set_option maxRecDepth 100000 in
theorem place_no {w : World} {E : Nat → Addr} {B : Nat} (V : Env w E B) (sb : Nat) (b : Int) (h : b < 1 ∨ 4096 < b) :
    Calls Tryz.prog 113 #[.pointer (some ⟨sb, 0, none⟩), .int .i64 b] w fun e w' => e = .returned (er E 2) ∧ w' = w := by
  have hl := V.li
  have hz : 1 < w.heap.size := by have := V.g.sz; omega
  clear V
  by_cases h1 : b < 1
  · clear h
    go_enter Tryz.func113, Tryz.ntmps113
    go_wp2
    go_ret
    exact ⟨rfl, rfl⟩
  · have h2 : 4096 < b := by omega
    clear h
    go_enter Tryz.func113, Tryz.ntmps113
    go_wp2
    go_ret
    exact ⟨rfl, rfl⟩
/-- what lies in memory behind a call that turned a store and a writer -/
def WRes (F G : Nat → Prop) (w : World) (E : Nat → Addr) (sb wb : Nat) (m : Sto) (x : Wri) (w' : World) : Prop :=
  ∃ F' G' bv, At w' sb m F' ∧ WIn w' E sb wb x G' bv ∧ (∀ b, F' b → ¬ G' b) ∧ (∀ b, F' b → Up F w w' b) ∧ (∀ b, G' b → Up G w w' b) ∧ Chg (fun b => F b ∨ G b) w w'
end Rs
end Go.Proofs.YtohfhkdhccpoaaaGreatDoor
/- Layer 6: the plain part of Put; slices.Clone of bytes; die. -/
namespace Go.Proofs.YtohfhkdhccpoaaaGreatDoor
open Go.RowKit
namespace Rs
/-- blocks are appended as long as there are enough bytes: the failure, the store, what is left -/
def wputs (k : Int) (bs : Nat) (m : Sto) (T : List UInt8) : Nat × Sto × List UInt8 :=
  if _h : bs = 0 ∨ T.length < bs then (0, m, T)
  else if (app m k [strB (T.take bs)]).1 = 0 then wputs k bs (app m k [strB (T.take bs)]).2 (T.drop bs)
  else ((app m k [strB (T.take bs)]).1, (app m k [strB (T.take bs)]).2, T)
termination_by T.length
decreasing_by rw [List.length_drop]; omega
theorem wputs_stop {k : Int} {bs : Nat} {m : Sto} {T : List UInt8} (h : T.length < bs) : wputs k bs m T = (0, m, T) := by rw [wputs, dif_pos (.inr h)]
theorem wputs_go {k : Int} {bs : Nat} {m : Sto} {T : List UInt8} (h1 : 1 ≤ bs) (h : ¬ T.length < bs) (h0 : (app m k [strB (T.take bs)]).1 = 0) : wputs k bs m T = wputs k bs (app m k [strB (T.take bs)]).2 (T.drop bs) := by
  rw [wputs, dif_neg (by omega), if_pos h0]
theorem wputs_no {k : Int} {bs : Nat} {m : Sto} {T : List UInt8} (h1 : 1 ≤ bs) (h : ¬ T.length < bs) (h0 : (app m k [strB (T.take bs)]).1 ≠ 0) : wputs k bs m T = ((app m k [strB (T.take bs)]).1, (app m k [strB (T.take bs)]).2, T) := by
  rw [wputs, dif_neg (by omega), if_neg h0]
theorem wputs_small : ∀ (n : Nat) (k : Int) (bs : Nat) (m : Sto) (T : List UInt8), T.length ≤ n → 1 ≤ bs → (wputs k bs m T).1 = 0 → (wputs k bs m T).2.2.length < bs := by
  intro n
  induction n with
  | zero =>
    intro k bs m T hT h1 _
    rw [wputs_stop (by omega)]
    simp only
    omega
  | succ n ih =>
    intro k bs m T hT h1 h
    by_cases hl : T.length < bs
    · rw [wputs_stop hl]; exact hl
    · by_cases h0 : (app m k [strB (T.take bs)]).1 = 0
      · rw [wputs_go h1 hl h0] at h ⊢
        exact ih k bs _ _ (by rw [List.length_drop]; omega) h1 h
      · rw [wputs_no h1 hl h0] at h
        exact absurd h h0
/-- the bytes of a row, as the walk of Clone reads them -/
def BArg (w : World) (v : Value) (L : List UInt8) : Prop := ∃ g off c, v = .slice (some ⟨g, off, none⟩) L.length c ∧ g < w.heap.size ∧ ∀ (j : Nat) x, L[j]? = some x → w.cell? ⟨g, off + j, none⟩ = some (encB x)
theorem eq_bytes (a : Addr) (n c : Nat) (W : World) : (binOp .eql 77 (.slice (some a) n c) (.slice none 0 0)).run Tryz.prog W = .ok (.bool false) W := by kernel_rfl
set_option maxRecDepth 100000 in
set_option maxHeartbeats 1000000 in
theorem clone_any (v : Value) (L : List UInt8) (w : World) (hA : BArg w v L) (hn : L.length ≤ 1073741824) :
    Calls Tryz.prog 118 #[v] w fun e w' => ∃ u, e = .returned u ∧ w'.ownsRow w.heap.size 5 1 u L.length (L.map encB) ∧ Below w.heap.size w w' := by
  obtain ⟨i0, hi, hz0⟩ := Option.map_eq_some_iff.1 infoB
  simp only [Prod.mk.injEq] at hz0
  obtain ⟨hz0, hz1, hz2⟩ := hz0
  obtain ⟨g, off, c, rfl, hg, hc⟩ := hA
  have HC : Hid (∀ j u, (L.map encB)[j]? = some u → (w.alloc (.cells #[] 5)).cell? ((⟨g, off, none⟩ : Addr).add j) = some u) := fun j u hu => by
    rw [List.getElem?_map] at hu
    cases hx : L[j]? with
    | none => rw [hx] at hu; cases hu
    | some x =>
      rw [hx] at hu
      injection hu with hu
      rw [Go.WideShapes.add_plain, ← hu]
      exact (World.cell?_of_block (a := ⟨g, off + j, none⟩) (Below.heap_alloc w _ g hg)).trans (hc j x hx)
  have HL : Hid ((L.map encB).length = L.length * 1) := by show _ = _; rw [List.length_map, Nat.mul_one]
  have HO : Hid (∀ u ∈ L.map encB, u.oneCell' = true) := fun u hu => by
    obtain ⟨b, _, rfl⟩ := List.mem_map.1 hu
    rfl
  have HM : Hid ((w.alloc (.cells #[] 5)).ownsRow w.heap.size 5 1 (.slice (some ⟨w.heap.size, 0, none⟩) 0 0) 0 []) := World.ownsRow_made w #[] 0 (Nat.le_refl _) (by simp) rfl
  have HB0 : Hid (Below w.heap.size w (w.alloc (.cells #[] 5))) := (Below.refl _ w).alloc (Nat.le_refl _) _
  have heq := eq_bytes ⟨g, off, none⟩
  clear hc
  generalize L.map encB = news at *
  obtain ⟨n, hnn⟩ : ∃ n, L.length = n := ⟨_, rfl⟩
  rw [hnn] at hn HL ⊢
  clear hnn
  go_enter Tryz.func118, Tryz.ntmps118
  go_wp2_with (at_builtin; refine wpList_append_own _ rfl _ _ 77 rfl w.heap.size 5 i0 (.int .u8 0) 1 1 Tryz.underlying77 hi hz0 hz1 hz2 rfl (by decide) _ _ _ rfl (unhide HM) ⟨g, off, none⟩ n c news rfl (unhide HL) (unhide HC) (unhide HO) (by unfold maxLen; omega) (by omega) (unhide HB0).size ?_; intro v1 w1 hown1 hgrow1 hnil1; clear hnil1; have HOW := hide hown1; have HGR := hide hgrow1; clear hown1 hgrow1)
  go_ret
  have h1 := unhide HOW
  rw [Nat.zero_add, List.nil_append] at h1
  exact ⟨_, rfl, h1, (unhide HB0).grown (unhide HGR) (by simp) (fun k e => ((unhide HM).lt k e).1)⟩
set_option maxRecDepth 100000 in
theorem die_any {w : World} {wb : Nat} {C : Array Value} (hs : w.heap[wb]? = some (.cells C 174 (0, 0))) (hz : C.size = 5) (ev : Value) (hev : ev = .nilIface ∨ ∃ t p, ev = .iface t (.pointer p)) :
    Calls Tryz.prog 117 #[.pointer (some ⟨wb, 0, none⟩), ev] w fun e w' => e = .returned ev ∧ w' = (w.setCell ⟨wb, 4, none⟩ ev).setCell ⟨wb, 3, none⟩ (.slice none 0 0) := by
  have hlt := (Array.getElem?_eq_some_iff.1 hs).1
  have c3 : w.cell? ⟨wb, 3, none⟩ = some C[3] := by simp [World.cell?, hs, hz]
  have c4 : w.cell? ⟨wb, 4, none⟩ = some C[4] := by simp [World.cell?, hs, hz]
  have f3 : w.frozen? ⟨wb, 3, none⟩ = false := by simp [World.frozen?, hs]
  have f4 : w.frozen? ⟨wb, 4, none⟩ = false := by simp [World.frozen?, hs]
  generalize C[3] = x3 at *
  generalize C[4] = x4 at *
  clear hs hz
  rcases hev with rfl | ⟨t, p, rfl⟩
  · go_enter Tryz.func117, Tryz.ntmps117
    go_wp2
    go_ret
    exact ⟨rfl, rfl⟩
  · go_enter Tryz.func117, Tryz.ntmps117
    go_wp2
    go_ret
    exact ⟨rfl, rfl⟩
end Rs
end Go.Proofs.YtohfhkdhccpoaaaGreatDoor
/- Layer 6: Put. -/
namespace Go.Proofs.YtohfhkdhccpoaaaGreatDoor
open Go.RowKit
namespace Rs
/-- while the blocks of the buffer are appended to the run -/
structure Lw (w wr : World) (E : Nat → Addr) (F G : Nat → Prop) (sb wb : Nat) (x : Wri) (m : Sto) (g cap : Nat) (full : List UInt8) (F' : Nat → Prop) : Prop where
  sto : wr.heap[wb]? = some (.cells (wriC E sb x (.slice (some ⟨g, 0, none⟩) full.length cap)) 174 (0, 0))
  row : wr.ownsRow 0 5 1 (.slice (some ⟨g, 0, none⟩) full.length cap) full.length (full.map encB)
  at_ : At wr sb m F'
  sub : ∀ b, F' b → Up F w wr b
  nwb : ¬ F' wb
  ng : ¬ F' g
  gG : G g ∨ w.heap.size ≤ g
  chg : Chg (fun b => F b ∨ G b) w wr
theorem own_base0 {W : World} {B : Nat} {e : TypeId} {size n : Nat} {v : Value} {xs : List Value} (h : W.ownsRow B e size v n xs) : W.ownsRow 0 e size v n xs := by
  obtain ⟨hl, h1 | ⟨g, cap, cur, e1, h1, r⟩⟩ := h
  · exact ⟨hl, .inl h1⟩
  · exact ⟨hl, .inr ⟨g, cap, cur, e1, Nat.zero_le _, r⟩⟩
section
variable {w wr : World} {E : Nat → Addr} {F G : Nat → Prop} {sb wb : Nat} {x : Wri} {m : Sto} {g cap : Nat} {full : List UInt8} {F' : Nat → Prop}
theorem Lw.below {W : World} (h : Lw w wr E F G sb wb x m g cap full F') (hb : Below wr.heap.size wr W) : Lw w W E F G sb wb x m g cap full F' :=
  ⟨(hb.block wb (Array.getElem?_eq_some_iff.1 h.sto).1).trans h.sto, own_kept h.row fun k hk => hb.block k (h.row.lt k hk).2, h.at_.kept (fun b hF => hb.block b (h.at_.lt b hF)) (fun _ x => x) (fun b hF => Nat.lt_of_lt_of_le (h.at_.lt b hF) hb.size), fun b hF => (h.sub b hF).imp id fun y => ⟨y.1, Nat.lt_of_lt_of_le y.2 hb.size⟩, h.nwb, h.ng, h.gG, h.chg.trans (Chg.of_below hb)⟩
/-- behind a call of the store -/
theorem Lw.res {w3 : World} {m' : Sto} (h : Lw w wr E F G sb wb x m g cap full F') (r : Res F' wr sb m' w3) : Lw w w3 E F G sb wb x m' g cap full (Up F' wr w3) := by
  have l1 := (Array.getElem?_eq_some_iff.1 h.sto).1
  have l2 := (h.row.lt g rfl).2
  have l3 := h.chg.size
  have l4 := r.2.size
  refine ⟨(r.2.block wb l1 h.nwb).trans h.sto, own_kept h.row fun k hk => ?_, r.1, fun b hb => ?_, fun hb => ?_, fun hb => ?_, h.gG, h.chg.trans (r.2.mono fun b hb => ?_)⟩
  · injection hk with hk
    subst hk
    exact r.2.block _ l2 h.ng
  · rcases hb with hb | hb
    · exact (h.sub b hb).imp id fun y => ⟨y.1, by omega⟩
    · exact .inr ⟨by omega, hb.2⟩
  · rcases hb with hb | hb
    · exact h.nwb hb
    · omega
  · rcases hb with hb | hb
    · exact h.ng hb
    · omega
  · rcases h.sub b hb with y | y
    · exact .inl (.inl y)
    · exact .inr y
/-- the buffer stays as it is -/
theorem Lw.stay (h : Lw w wr E F G sb wb x m g cap full F') (hG : G wb) (hl : full.length < x.blk) (b1 : 1 ≤ x.blk) (b2 : x.blk ≤ 4096) : WRes F G w E sb wb m { x with buf := full } wr := by
  refine ⟨F', fun b => b = wb ∨ b = g, .slice (some ⟨g, 0, none⟩) full.length cap, h.at_, ⟨fun b hb => ?_, .inl rfl, h.sto, h.row, fun k hk => ?_, hl, b1, b2⟩, fun b hb hg => ?_, h.sub, fun b hb => ?_, h.chg⟩
  · rcases hb with rfl | rfl
    · exact (Array.getElem?_eq_some_iff.1 h.sto).1
    · exact (h.row.lt _ rfl).2
  · injection hk with hk
    exact .inr hk.symm
  · rcases hg with rfl | rfl
    · exact h.nwb hb
    · exact h.ng hb
  · rcases hb with rfl | rfl
    · exact .inl hG
    · exact h.gG.imp id fun y => ⟨y, (h.row.lt _ rfl).2⟩
/-- a new buffer was laid -/
theorem Lw.fresh {W : World} {u : Value} {T : List UInt8} (h : Lw w wr E F G sb wb x m g cap full F') (hG : G wb) (hu : W.ownsRow wr.heap.size 5 1 u T.length (T.map encB)) (hb : Below wr.heap.size wr W) (hl : T.length < x.blk) (b1 : 1 ≤ x.blk) (b2 : x.blk ≤ 4096) : WRes F G w E sb wb m { x with buf := T } (W.setCell ⟨wb, 3, none⟩ u) := by
  have l1 := (Array.getElem?_eq_some_iff.1 h.sto).1
  have l2 := hb.size
  have hW := h.below hb
  have hz : (W.setCell ⟨wb, 3, none⟩ u).heap.size = W.heap.size := by simp
  have hne : ∀ b, b ≠ wb → (W.setCell ⟨wb, 3, none⟩ u).heap[b]? = W.heap[b]? := fun b hb => Below.heap_setCell _ _ _ _ hb
  have hub : ∀ k, u.ownBlock = some k → wr.heap.size ≤ k ∧ k < W.heap.size := fun k hk => hu.lt k hk
  refine ⟨F', fun b => b = wb ∨ u.ownBlock = some b, u, hW.at_.kept (fun b hF => hne b fun e => h.nwb (e ▸ hF)) (fun _ x => x) (fun b hF => by rw [hz]; exact hW.at_.lt b hF), ⟨fun b hb => ?_, .inl rfl, ?_, ?_, fun k hk => .inr hk, hl, b1, b2⟩, fun b hF hg => ?_, fun b hF => ?_, fun b hg => ?_, hW.chg.setCell (.inl (.inr hG)) _⟩
  · rw [hz]
    rcases hb with rfl | hb
    · omega
    · exact (hub b hb).2
  · rw [set_heap1 hW.sto]
    simp [wriC]
  · refine own_kept (own_base0 hu) fun k hk => hne k fun e => ?_
    have := (hub k hk).1
    omega
  · rcases hg with rfl | hg
    · exact h.nwb hF
    · have := h.at_.lt b hF
      have := (hub b hg).1
      omega
  · rw [show Up F w (W.setCell ⟨wb, 3, none⟩ u) b ↔ Up F w W b by unfold Up; rw [hz]]
    exact hW.sub b hF
  · rcases hg with rfl | hg
    · exact .inl hG
    · have := hub b hg
      have := h.chg.size
      exact .inr ⟨by omega, by rw [hz]; omega⟩
/-- the writer died -/
theorem Lw.died {c : Nat} (h : Lw w wr E F G sb wb x m g cap full F') (hG : G wb) (b1 : 1 ≤ x.blk) (b2 : x.blk ≤ 4096) : WRes F G w E sb wb m { x with buf := [], dead := c } ((wr.setCell ⟨wb, 4, none⟩ (errV E c)).setCell ⟨wb, 3, none⟩ (.slice none 0 0)) := by
  have l1 := (Array.getElem?_eq_some_iff.1 h.sto).1
  have hz : ((wr.setCell ⟨wb, 4, none⟩ (errV E c)).setCell ⟨wb, 3, none⟩ (.slice none 0 0)).heap.size = wr.heap.size := by simp
  have hne : ∀ b, b ≠ wb → ((wr.setCell ⟨wb, 4, none⟩ (errV E c)).setCell ⟨wb, 3, none⟩ (.slice none 0 0)).heap[b]? = wr.heap[b]? := fun b hb => by
    rw [Below.heap_setCell _ _ _ _ hb, Below.heap_setCell _ _ _ _ hb]
  refine ⟨F', fun b => b = wb, .slice none 0 0, h.at_.kept (fun b hF => hne b fun e => h.nwb (e ▸ hF)) (fun _ x => x) (fun b hF => by rw [hz]; exact h.at_.lt b hF), ⟨fun b hb => by rw [hz, hb]; exact l1, rfl, ?_, World.ownsRow_nil _ _ _ _, fun k hk => (by cases hk), by simp; omega, b1, b2⟩, fun b hF hg => h.nwb (hg ▸ hF), fun b hF => ?_, fun b hg => .inl (hg ▸ hG), (h.chg.setCell (.inl (.inr hG)) _).setCell (.inl (.inr hG)) _⟩
  · rw [set_heap1 (set_heap1 h.sto _)]
    simp [wriC]
  · rw [show Up F w ((wr.setCell ⟨wb, 4, none⟩ (errV E c)).setCell ⟨wb, 3, none⟩ (.slice none 0 0)) b ↔ Up F w wr b by unfold Up; rw [hz]]
    exact h.sub b hF
end
end Rs
end Go.Proofs.YtohfhkdhccpoaaaGreatDoor
/- Layer 6: Put of a living writer. -/
namespace Go.Proofs.YtohfhkdhccpoaaaGreatDoor
open Go.RowKit
namespace Rs
/-- a writer behind Put -/
def putX (x : Wri) (c : Nat) (rest : List UInt8) : Wri := if c = 0 then { x with buf := rest } else { x with buf := [], dead := c }
theorem putX_no {x : Wri} {c : Nat} {rest : List UInt8} (h : c ≠ 0) : putX x c rest = { x with buf := [], dead := c } := if_neg h
/-- the start of the loop: the frames lie behind what was held -/
theorem Lw.start {w w1 W : World} {E : Nat → Addr} {F G : Nat → Prop} {sb wb : Nat} {x : Wri} {m : Sto} {bv : Value} {g n cap : Nat} {full : List UInt8} (h : At w1 sb m F) (hw : WIn w1 E sb wb x G bv) (hd : ∀ b, F b → ¬ G b) (hb : Below w.heap.size w w1)
    (ho : W.ownsRow 0 5 1 (.slice (some ⟨g, 0, none⟩) n cap) full.length (full.map encB)) (hg : w1.grownBy W bv.ownBlock) (ha : (Value.slice (some ⟨g, 0, none⟩) n cap).ownBlock = bv.ownBlock ∨ (Value.slice (some ⟨g, 0, none⟩) n cap).ownBlock = some w1.heap.size) :
    Lw w (W.setCell ⟨wb, 3, none⟩ (.slice (some ⟨g, 0, none⟩) n cap)) E F G sb wb x m g cap full F := by
  obtain rfl : n = full.length := by
    obtain ⟨_, _, e⟩ := own_slice ho
    injection e
  have hbs : bv.ownBlock ≠ some wb := fun e => by
    obtain ⟨c1, z1, q1⟩ := Lib.ownsRow_kind hw.row wb e
    rw [hw.sto] at q1
    injection q1 with q1
    injection q1 with _ q1 _
    exact absurd q1 (by decide)
  have lw := hw.lt wb hw.own
  have hgw : g ≠ wb := fun e => by
    rcases ha with y | y
    · exact hbs (by rw [← y, e]; rfl)
    · have y2 : g = w1.heap.size := by injection y
      omega
  have hWb : W.heap[wb]? = w1.heap[wb]? := hg.block wb lw (fun e => hbs e.symm)
  have hz : (W.setCell ⟨wb, 3, none⟩ (.slice (some ⟨g, 0, none⟩) full.length cap)).heap.size = W.heap.size := by simp
  have hne : ∀ b, b ≠ wb → (W.setCell ⟨wb, 3, none⟩ (.slice (some ⟨g, 0, none⟩) full.length cap)).heap[b]? = W.heap[b]? := fun b hb => Below.heap_setCell _ _ _ _ hb
  have hF1 : ∀ b, F b → b ≠ wb ∧ bv.ownBlock ≠ some b := fun b hb' => ⟨fun e => hd b hb' (e ▸ hw.own), fun e => hd b hb' (hw.rowG b e)⟩
  have l1 := hb.size
  have l2 := hg.size
  refine ⟨?_, own_kept ho fun k hk => hne k ?_, h.kept (fun b hF => ?_) (fun _ x => x) (fun b hF => ?_), fun b hF => .inl hF, fun hF => hd wb hF hw.own, fun hF => ?_, ?_, ?_⟩
  · rw [set_heap1 (hWb.trans hw.sto)]
    simp [wriC]
  · injection hk with hk
    rw [← hk]; exact hgw
  · rw [hne b (hF1 b hF).1, hg.block b (h.lt b hF) (fun e => (hF1 b hF).2 e.symm)]
  · rw [hz]; have := h.lt b hF; omega
  · rcases ha with y | y
    · exact (hF1 g hF).2 (by rw [← y]; rfl)
    · have y2 : g = w1.heap.size := by injection y
      have := h.lt g hF; omega
  · rcases ha with y | y
    · exact .inl (hw.rowG g (by rw [← y]; rfl))
    · have y2 : g = w1.heap.size := by injection y
      exact .inr (by omega)
  · refine Chg.setCell ?_ (.inl (.inr hw.own)) _
    refine Chg.grown (Chg.of_below hb) hg fun k hk => .inl (.inr (hw.rowG k hk))
theorem parts_one {W : World} {F : Nat → Prop} (X : ByteArray) (hF : ∀ b, F b → b < W.heap.size) : Parts (W.alloc (.cells #[.string X] 9)) (.slice (some ⟨W.heap.size, 0, none⟩) 1 1) [X] F := by
  refine ⟨_, 1, rfl, by simp, fun _ => ⟨W.heap.size, 0, rfl, by simp, fun h => by have := hF _ h; omega, fun j y hy => ?_⟩⟩
  have : j = 0 := by
    have := (List.getElem?_eq_some_iff.1 hy).1
    simpa using this
  subst this
  simp at hy
  subst hy
  rw [Nat.zero_add, World.cell?_alloc_at _ _ _ _ rfl]
  rfl
set_option maxRecDepth 100000 in
set_option maxHeartbeats 4000000 in
theorem put_go {w : World} {E : Nat → Addr} {B sb wb : Nat} {m : Sto} {F G : Nat → Prop} {x : Wri} {bv v : Value} {L : List ByteArray} (V : Env w E B) (hF : ∀ b, F b → B ≤ b) (hG : ∀ b, G b → B ≤ b) (hB : B ≤ w.heap.size) (h : At w sb m F) (hw : WIn w E sb wb x G bv) (hd : ∀ b, F b → ¬ G b) (hx : x.dead = 0) (hrun : x.run ≤ 16777216)
    (hT : Um.Txs w v L) (hn : L.length ≤ 1048576) (hfit : Um.fit (Um.rl L) = true) (hne : 0 < L.length) (c : Nat) (m' : Sto) (rest : List UInt8) (HP : Hid (wputs x.run x.blk m (x.buf ++ Um.frs (Um.rl L)) = (c, m', rest))) :
    Calls Tryz.prog 79 #[.pointer (some ⟨wb, 0, none⟩), v] w fun e w' => e = .returned (errV E c) ∧ WRes F G w E sb wb m' (putX x c rest) w' := by
  obtain ⟨A, hA⟩ : ∃ A, Um.frA L = A := ⟨_, rfl⟩
  have hAe : A = Um.str (Um.frs (Um.rl L)) := by rw [← hA]; unfold Um.frA; rw [if_pos hfit]
  have HFR := hide (Um.frame_any v L w hT (by omega) A 0 hA (by show Um.frE L = 0; unfold Um.frE; rw [if_pos hfit]))
  have hAs : A.size ≤ 257 * L.length := by
    rw [hAe, Um.str_size]
    have := Um.fk_len (L := L) L.length (Nat.le_refl _) (fun j x _ hx => Um.fit_of hfit hx)
    rw [Um.fk_all (Nat.le_refl _)] at this
    exact this
  have HCK := hide (check_any hw)
  rw [show errV E x.dead = .nilIface by rw [hx]; rfl] at HCK
  obtain ⟨full, hfull⟩ : ∃ full, full = x.buf ++ Um.frs (Um.rl L) := ⟨_, rfl⟩
  rw [← hfull] at HP
  have hb1 := hw.blk1
  have hb2 := hw.blk2
  have hsm := hw.small
  have hfl : full.length = x.buf.length + A.size := by rw [hfull, List.length_append, hAe, Um.str_size]
  have HFC : Hid (full.map encB = x.buf.map encB ++ byteCells A) := by
    show _ = _
    rw [hfull, List.map_append, hAe]
    simp [byteCells, Um.str, encB]
  have hfp : 0 < full.length := by
    rw [hfull, List.length_append]
    cases L with
    | nil => simp at hne
    | cons y z =>
      have := Um.uL_pos (Um.lst y).length
      simp only [Um.rl, List.map_cons, Um.frs_cons, List.length_append, Um.fr_len]
      omega
  have HV := hide V
  have HH := hide h
  have HW := hide hw
  have HDJ := hide hd
  have HGF := hide hF
  have HBB : Hid (∀ W, Chg (fun b => F b ∨ G b) w W → Below B w W) := fun W c => c.below hB (fun k hk => hk.elim (hF k) (hG k))
  obtain ⟨ab, cb, rfl⟩ := own_slice hw.row
  have hflb : full.length ≤ 300000000 := by omega
  have HFL := hide hfl
  clear V h hw hd hF hT hA hAe hfull hG hfl hx
  go_enter Tryz.func79, Tryz.ntmps79
  go_wp2_with fail
  refine (unhide HCK).mono ?_
  rintro e w0 ⟨rfl, hw0⟩
  have hw00 := hw0.symm
  subst hw00
  clear hw0 HCK
  go_wp2_with fail
  refine (unhide HFR).mono ?_
  rintro e w1 ⟨rfl, hB1⟩
  have HB1 := hide hB1
  clear hB1 HFR
  have HW1 := hide ((unhide HW).below (unhide HB1))
  have HH1 := hide ((unhide HH).kept (w' := w1) (fun b hF => (unhide HB1).block b ((unhide HH).lt b hF)) (fun _ x => x) (fun b hF => Nat.lt_of_lt_of_le ((unhide HH).lt b hF) (unhide HB1).size))
  obtain ⟨c0, c1, c2, c3, c4, cf⟩ := wcells (unhide HW1).sto
  have hwb : wb < w1.heap.size := (unhide HW1).lt wb (unhide HW1).own
  obtain ⟨v', W', hap, hO2, hgr2, hat2⟩ := Um.append_str w1 (.slice ab x.buf.length cb) x.buf.length (x.buf.map encB) A 77 (B := 0) (Nat.zero_le _) (unhide HW1).row (by omega)
  have hWwb : W'.heap[wb]? = some (.cells (wriC E sb x (.slice ab x.buf.length cb)) 174 (0, 0)) := by
    rw [hgr2.block wb hwb (fun e => ?_)]
    · exact (unhide HW1).sto
    · obtain ⟨k1, z1, q1⟩ := Lib.ownsRow_kind (unhide HW1).row wb e.symm
      rw [(unhide HW1).sto] at q1
      injection q1 with q1
      injection q1 with _ q1 _
      exact absurd q1 (by decide)
  obtain ⟨e0, e1, e2, e3, e4, ef⟩ := wcells hWwb
  have hwbW : wb < W'.heap.size := (Array.getElem?_eq_some_iff.1 hWwb).1
  obtain ⟨g, k2, rfl⟩ : ∃ g k2, v' = .slice (some ⟨g, 0, none⟩) (x.buf.length + A.size) k2 := by
    rcases hO2.2 with ⟨_, e⟩ | ⟨g, cap, cur, e, _⟩
    · have := unhide HFL; omega
    · exact ⟨g, cap, e⟩
  have HAP := hide hap
  have HLW := hide (Lw.start (unhide HH1) (unhide HW1) (unhide HDJ) (unhide HB1) (full := full) (by rw [unhide HFL, unhide HFC]; exact hO2) hgr2 hat2)
  rw [← unhide HFL] at HAP HLW
  clear hap hO2 hgr2 hat2 hWwb
  go_wp2_with (at_builtin; refine Um.wpList_app _ rfl _ _ rfl _ _ _ _ rfl rfl (by exact unhide HAP) ?_)
  have HP0 := HP
  clear HP HAP
  have hGwb : G wb := (unhide HW).own
  have HGWB := hide hGwb
  have hlw := unhide HLW
  clear e0 e1 e2 e3 e4 ef c0 c1 c2 c3 c4 cf hGwb
  go_loopw [8] (fun s8 wr => ∃ (T : List UInt8) (mr : Sto) (off rc : Nat) (F' : Nat → Prop), s8 = .slice (some ⟨g, off, none⟩) T.length rc ∧ T.length ≤ rc ∧ T.length ≤ full.length ∧ Hid (0 < T.length → off + T.length = full.length) ∧ Hid (full.drop (full.length - T.length) = T) ∧ Hid (wputs x.run x.blk mr T = (c, m', rest)) ∧ Hid (Lw w wr E F G sb wb x mr g k2 full F')) (fun s8 _ => match s8 with | .slice _ n _ => n | _ => 0)
  case atStart =>
    refine ⟨full, m, 0, k2, F, rfl, ?_, Nat.le_refl _, fun _ => by omega, (by show _ = _; rw [Nat.sub_self, List.drop_zero]), HP0, hlw⟩
    rcases hlw.row.2 with ⟨e, _⟩ | ⟨g', cap, cur, e, _, _, hc, _⟩
    · cases e
    · injection e with _ _ e3
      omega
  case round =>
    obtain ⟨T, mr, off, rc, F', rfl, hrc, hTf, HOF, HTD, HPT, HL⟩ := hrel
    obtain ⟨c0, c1, c2, c3, c4, cf⟩ := wcells (unhide HL).sto
    have hwbr : wb < wr.heap.size := (Array.getElem?_eq_some_iff.1 (unhide HL).sto).1
    by_cases hl : T.length < x.blk
    · have hlz : ¬ (x.blk : Int) ≤ (T.length : Int) := by omega
      have hp := unhide HPT
      rw [wputs_stop hl] at hp
      injection hp with hp1 hp2
      injection hp2 with hp2 hp3
      subst hp1 hp2 hp3
      by_cases hs : T.length < full.length
      · have hsz : (T.length : Int) < (full.length : Int) := by omega
        have HCL := hide (clone_any (.slice (some ⟨g, off, none⟩) T.length rc) T wr ⟨g, off, rc, rfl, ((unhide HL).row.lt g rfl).2, fun j y hj => by
          have hjl := (List.getElem?_eq_some_iff.1 hj).1
          have ho := unhide HOF (by omega)
          have hcell := (unhide HL).row.cellAt (off + j) (by omega)
          rw [hcell, List.getElem?_map]
          have : full[off + j]? = some y := by
            rw [← hj]
            conv => rhs; rw [← unhide HTD]
            rw [List.getElem?_drop]
            congr 1
            omega
          rw [this]
          rfl⟩ (by omega))
        go_wp2_with (go_at_call 118; refine (unhide HCL).mono ?_; rintro e w4 ⟨u, rfl, ho4, hb4⟩; obtain ⟨au, cu, rfl⟩ := own_slice ho4; have HFI := hide ((unhide HL).fresh (unhide HGWB) ho4 hb4 hl hb1 hb2); obtain ⟨z0, z1, z2, z3, z4, zf⟩ := wcells ((unhide HL).below hb4).sto; have hz4 : wb < w4.heap.size := Nat.lt_of_lt_of_le hwbr hb4.size; clear ho4 hb4)
        go_ret
        exact ⟨rfl, unhide HFI⟩
      · have hsz : ¬ (T.length : Int) < (full.length : Int) := by omega
        have hTe : T = full := by
          have := unhide HTD
          rw [show full.length - T.length = 0 by omega, List.drop_zero] at this
          exact this.symm
        have HFI := hide ((unhide HL).stay (unhide HGWB) (by omega) hb1 hb2)
        rw [← hTe] at HFI
        clear hTe
        go_wp2
        go_ret
        exact ⟨rfl, unhide HFI⟩
    · have hlz : (x.blk : Int) ≤ (T.length : Int) := by omega
      have hof := unhide HOF (by omega)
      have hTe : full.drop off = T := by
        have := unhide HTD
        rw [show full.length - T.length = off by omega] at this
        exact this
      obtain ⟨X, hX⟩ : ∃ X, strB (T.take x.blk) = X := ⟨_, rfl⟩
      have HCV : Hid (∀ {W : World} {mm : Sto} {FF : Nat → Prop}, Lw w W E F G sb wb x mm g k2 full FF → (convert 77 9 (.slice (some ⟨g, off, none⟩) x.blk rc)).run Tryz.prog W = .ok (.string X) W) := fun {W mm FF} hW => by
        have := conv_row hW.row off x.blk rc (by omega)
        rw [hTe, hX] at this
        exact this
      obtain ⟨c9, hc9⟩ : ∃ c9, (app mr x.run [X]).1 = c9 := ⟨_, rfl⟩
      obtain ⟨m9, hm9⟩ : ∃ m9, (app mr x.run [X]).2 = m9 := ⟨_, rfl⟩
      have HAPP : Hid (∀ W, Below wr.heap.size wr W → wr.heap.size < W.heap.size → W.cell? ⟨wr.heap.size, 0, none⟩ = some (.string X) → Calls Tryz.prog 45 #[.pointer (some ⟨sb, 0, none⟩), .int .i64 x.run, .slice (some ⟨wr.heap.size, 0, none⟩) 1 1] W fun e w' => e = .returned (errV E c9) ∧ Lw w w' E F G sb wb x m9 g k2 full (Up F' W w')) := fun W hW hlt hcell => by
        have l := (unhide HL).below hW
        have hFB : ∀ b, F' b → B ≤ b := fun b hb => by
          rcases (unhide HL).sub b hb with y | y
          · exact unhide HGF b y
          · omega
        have hBW : Below B w W := (unhide HBB wr (unhide HL).chg).trans (hW.mono (by have := (unhide HL).chg.size; omega))
        have q := append_any (k := (x.run : Int)) (v := .slice (some ⟨wr.heap.size, 0, none⟩) 1 1) (L := [X]) l.at_ (((unhide HV).below hBW).gs hFB) (by omega) (by omega) ⟨_, 1, rfl, by simp, fun _ => ⟨wr.heap.size, 0, rfl, hlt, fun hb => by have := (unhide HL).at_.lt _ hb; omega, fun j y hy => by
          have : j = 0 := by
            have := (List.getElem?_eq_some_iff.1 hy).1
            simpa using this
          subst this
          simp at hy
          subst hy
          rw [Nat.zero_add]; exact hcell⟩⟩
        rw [hc9, hm9] at q
        exact q.mono fun e w' hh => ⟨hh.1, l.res hh.2⟩
      have HWP : Hid ((c9 = 0 → wputs x.run x.blk mr T = wputs x.run x.blk m9 (T.drop x.blk)) ∧ (c9 ≠ 0 → wputs x.run x.blk mr T = (c9, m9, T))) := by
        refine ⟨fun e => ?_, fun e => ?_⟩
        · have := wputs_go (k := (x.run : Int)) (m := mr) hb1 hl (by rw [hX, hc9]; exact e)
          rw [hX, hm9] at this
          exact this
        · have := wputs_no (k := (x.run : Int)) (m := mr) hb1 hl (by rw [hX, hc9]; exact e)
          rw [hX, hm9, hc9] at this
          exact this
      have HTE := hide hTe
      clear hX hc9 hm9 hTe
      have s0 := unhide HCV (unhide HL)
      have hrcz : (x.blk : Int) ≤ (rc : Int) := by omega
      have hbz : 0 ≤ (x.blk : Int) := by omega
      have hrcn : x.blk ≤ rc := by omega
      by_cases h9 : c9 = 0
      · subst h9
        rw [show errV E 0 = .nilIface from rfl] at HAPP
        go_wp2
        go_region_held3 (fun w' => w'.cell? ⟨wb, 0, none⟩ = some (.pointer (some ⟨sb, 0, none⟩)) ∧ w'.cell? ⟨wb, 1, none⟩ = some (.int .i64 x.run) ∧ w'.cell? ⟨wb, 2, none⟩ = some (.int .i64 x.blk) ∧ (convert 77 9 (.slice (some ⟨g, off, none⟩) x.blk rc)).run Tryz.prog w' = .ok (.string X) w')
          (first | exact ⟨c0, c1, c2, s0⟩ | exact s3 | (refine ⟨?_, ?_, ?_, unhide HCV ((unhide HL).below (by (repeat (first | exact Below.refl _ _ | refine Below.drew ?_ | refine Below.alloc ?_ (by first | (simp; done) | (simp; omega)) _ | refine Below.setCell ?_ (by first | (simp; done) | (simp; omega)) _))))⟩ <;> go_simp))
          (first | (go_at_call 45; refine (unhide HAPP _ (by (repeat (first | exact Below.refl _ _ | refine Below.drew ?_ | refine Below.alloc ?_ (by first | (simp; done) | (simp; omega)) _ | refine Below.setCell ?_ (by first | (simp; done) | (simp; omega)) _))) (by simp) (by go_simp)).mono ?_; rintro e w3 ⟨rfl, hl3⟩; have HL3 := hide hl3; obtain ⟨z0, z1, z2, z3, z4, zf⟩ := wcells hl3.sto; have s3 := (⟨z0, z1, z2, unhide HCV hl3⟩ : _ ∧ _ ∧ _ ∧ _); have hz3 : wb < w3.heap.size := (Array.getElem?_eq_some_iff.1 hl3.sto).1; clear hl3))
        clear s3
        go_wp2
        have hdl : (T.drop x.blk).length = T.length - x.blk := List.length_drop
        have hwp : wputs x.run x.blk m9 (T.drop x.blk) = (c, m', rest) := ((unhide HWP).1 trivial).symm.trans (unhide HPT)
        have htd : full.drop (full.length - (T.length - x.blk)) = T.drop x.blk := by
          rw [show full.length - (T.length - x.blk) = off + x.blk by omega, ← List.drop_drop, unhide HTE]
        by_cases hq : rc = x.blk
        · rw [if_pos hq]
          refine ⟨⟨T.drop x.blk, m9, off, rc - x.blk, _, by rw [hdl], by omega, by omega, fun h0 => by omega, (by show _ = _; rw [hdl]; exact htd), hwp, HL3⟩, by show T.length - x.blk < T.length; omega⟩
        · rw [if_neg hq]
          refine ⟨⟨T.drop x.blk, m9, off + x.blk, rc - x.blk, _, by rw [hdl], by omega, by omega, fun h0 => by omega, (by show _ = _; rw [hdl]; exact htd), hwp, HL3⟩, by show T.length - x.blk < T.length; omega⟩
      · have herr : errV E c9 = er E c9 := if_neg h9
        have hp := (unhide HWP).2 h9
        rw [unhide HPT] at hp
        injection hp with hp1 hp2
        injection hp2 with hp2 hp3
        subst hp1 hp2 hp3
        have HDIE : Hid (∀ {W : World} {mm : Sto} {FF : Nat → Prop}, Lw w W E F G sb wb x mm g k2 full FF → Calls Tryz.prog 117 #[.pointer (some ⟨wb, 0, none⟩), er E c] W fun e w' => e = .returned (er E c) ∧ WRes F G w E sb wb mm { x with buf := [], dead := c } w') := fun {W mm FF} hW => by
          refine (die_any hW.sto rfl (er E c) (.inr ⟨_, _, rfl⟩)).mono ?_
          rintro e w' ⟨rfl, rfl⟩
          have := hW.died (c := c) (unhide HGWB) hb1 hb2
          rw [herr] at this
          exact ⟨rfl, this⟩
        rw [herr] at HAPP
        have HERR := hide herr
        have HN9 := hide h9
        clear herr h9
        go_wp2
        go_region_held3 (fun w' => w'.cell? ⟨wb, 0, none⟩ = some (.pointer (some ⟨sb, 0, none⟩)) ∧ w'.cell? ⟨wb, 1, none⟩ = some (.int .i64 x.run) ∧ w'.cell? ⟨wb, 2, none⟩ = some (.int .i64 x.blk) ∧ (convert 77 9 (.slice (some ⟨g, off, none⟩) x.blk rc)).run Tryz.prog w' = .ok (.string X) w')
          (first | exact ⟨c0, c1, c2, s0⟩ | exact s3 | (refine ⟨?_, ?_, ?_, unhide HCV ((unhide HL).below (by (repeat (first | exact Below.refl _ _ | refine Below.drew ?_ | refine Below.alloc ?_ (by first | (simp; done) | (simp; omega)) _ | refine Below.setCell ?_ (by first | (simp; done) | (simp; omega)) _))))⟩ <;> go_simp))
          (first | (go_at_call 45; refine (unhide HAPP _ (by (repeat (first | exact Below.refl _ _ | refine Below.drew ?_ | refine Below.alloc ?_ (by first | (simp; done) | (simp; omega)) _ | refine Below.setCell ?_ (by first | (simp; done) | (simp; omega)) _))) (by simp) (by go_simp)).mono ?_; rintro e w3 ⟨rfl, hl3⟩; have HL3 := hide hl3; obtain ⟨z0, z1, z2, z3, z4, zf⟩ := wcells hl3.sto; have s3 := (⟨z0, z1, z2, unhide HCV hl3⟩ : _ ∧ _ ∧ _ ∧ _); have hz3 : wb < w3.heap.size := (Array.getElem?_eq_some_iff.1 hl3.sto).1; clear hl3))
        clear s3
        go_wp2_with (go_at_call 117; refine (unhide HDIE (unhide HL3)).mono ?_; rintro e w4 ⟨rfl, hr4⟩; have HR4 := hide hr4; clear hr4)
        go_ret
        refine ⟨by rw [unhide HERR]; rfl, ?_⟩
        rw [putX_no (unhide HN9)]
        exact unhide HR4
end Rs
end Go.Proofs.YtohfhkdhccpoaaaGreatDoor
/- Layer 6: Open and From where they go well; Close where it goes well. -/
namespace Go.Proofs.YtohfhkdhccpoaaaGreatDoor
open Go.RowKit
namespace Rs
set_option maxRecDepth 100000 in
set_option maxHeartbeats 1000000 in
theorem open_go {w : World} {E : Nat → Addr} {B sb b : Nat} {m m2 : Sto} {F : Nat → Prop} {n : Nat} (V : Env w E B) (hF : ∀ b, F b → B ≤ b) (h : At w sb m F) (h1 : 1 ≤ b) (h2 : b ≤ 4096) (hc : crt m = (((n : Int), 0), m2)) :
    Calls Tryz.prog 77 #[.pointer (some ⟨sb, 0, none⟩), .int .i64 b] w fun e w' => ∃ wb, e = .returned (.tuple #[.pointer (some ⟨wb, 0, none⟩), .nilIface]) ∧ ∃ F' G' bv, At w' sb m2 F' ∧ WIn w' E sb wb ⟨n, b, [], 0⟩ G' bv ∧ (∀ b, F' b → ¬ G' b) ∧ (∀ b, F' b → Up F w w' b) ∧ (∀ b, G' b → w.heap.size ≤ b) ∧ Chg F w w' := by
  have HCP := hide (place_ok (w := w) sb b h1 h2)
  have HCR := hide (create_any h (V.gs hF))
  rw [hc] at HCR
  rw [show errV E ((((n : Int), 0), m2) : (Int × Nat) × Sto).1.2 = .nilIface from rfl] at HCR
  dsimp only at HCR
  have HFI : Hid (∀ w2, Res F w sb m2 w2 → ∃ F' G' bv, At (w2.alloc (.cells #[.pointer (some ⟨sb, 0, none⟩), .int .i64 n, .int .i64 b, .slice none 0 0, .nilIface] 174)) sb m2 F' ∧ WIn (w2.alloc (.cells #[.pointer (some ⟨sb, 0, none⟩), .int .i64 n, .int .i64 b, .slice none 0 0, .nilIface] 174)) E sb w2.heap.size ⟨n, b, [], 0⟩ G' bv ∧ (∀ b, F' b → ¬ G' b) ∧ (∀ y, F' y → Up F w (w2.alloc (.cells #[.pointer (some ⟨sb, 0, none⟩), .int .i64 n, .int .i64 b, .slice none 0 0, .nilIface] 174)) y) ∧ (∀ b, G' b → w.heap.size ≤ b) ∧ Chg F w (w2.alloc (.cells #[.pointer (some ⟨sb, 0, none⟩), .int .i64 n, .int .i64 b, .slice none 0 0, .nilIface] 174))) := fun w2 r => by
    refine ⟨Up F w w2, fun y => y = w2.heap.size, .slice none 0 0, r.1.kept (fun y hy => Below.heap_alloc _ _ _ (r.1.lt y hy)) (fun _ x => x) (fun y hy => by have := r.1.lt y hy; simp; omega), ⟨fun y hy => by rw [hy]; simp, rfl, (MapKept.heap_alloc w2 _).1, World.ownsRow_nil _ _ _ _, fun g hg => (by cases hg), by simp; omega, h1, h2⟩, fun y hy e => by have := r.1.lt y hy; omega, fun y hy => hy.imp id fun z => ⟨z.1, by have := z.2; simp; omega⟩, fun y hy => by rw [hy]; exact r.2.size, r.2.alloc _⟩
  clear V h hc
  go_enter Tryz.func77, Tryz.ntmps77
  go_wp2_with (first | (go_at_call 113; refine (unhide HCP).mono ?_; rintro e w1 ⟨rfl, hw1⟩; have hw2 := hw1.symm; subst hw2; clear hw1) | (go_at_call 29; refine (unhide HCR).mono ?_; rintro e w2 ⟨rfl, r2⟩; have HR2 := hide (unhide HFI w2 r2); clear r2))
  go_ret2
  exact ⟨_, rfl, unhide HR2⟩
set_option maxRecDepth 100000 in
set_option maxHeartbeats 1000000 in
theorem open_no {w : World} {E : Nat → Addr} {B sb : Nat} (V : Env w E B) (b : Int) (h : b < 1 ∨ 4096 < b) :
    Calls Tryz.prog 77 #[.pointer (some ⟨sb, 0, none⟩), .int .i64 b] w fun e w' => e = .returned (.tuple #[.pointer none, er E 2]) ∧ w' = w := by
  have HCP := hide (place_no V sb b h)
  clear V h
  go_enter Tryz.func77, Tryz.ntmps77
  go_wp2_with (go_at_call 113; refine (unhide HCP).mono ?_; rintro e w1 ⟨rfl, hw1⟩; have hw2 := hw1.symm; subst hw2; clear hw1)
  go_ret2
  exact ⟨rfl, rfl⟩
end Rs
end Go.Proofs.YtohfhkdhccpoaaaGreatDoor
/- Layer 6: Close where it goes well. -/
namespace Go.Proofs.YtohfhkdhccpoaaaGreatDoor
open Go.RowKit
namespace Rs
/-- a writer and its store while they are closed -/
structure Cw (w wr : World) (E : Nat → Addr) (F G : Nat → Prop) (sb wb : Nat) (x : Wri) (m : Sto) (bv : Value) (F' : Nat → Prop) : Prop where
  sto : wr.heap[wb]? = some (.cells (wriC E sb x bv) 174 (0, 0))
  row : wr.ownsRow 0 5 1 bv x.buf.length (x.buf.map encB)
  at_ : At wr sb m F'
  sub : ∀ b, F' b → Up F w wr b
  nwb : ¬ F' wb
  ng : ∀ g, bv.ownBlock = some g → ¬ F' g
  chg : Chg (fun b => F b ∨ G b) w wr
section
variable {w wr : World} {E : Nat → Addr} {F G : Nat → Prop} {sb wb : Nat} {x : Wri} {m : Sto} {bv : Value} {F' : Nat → Prop}
theorem Cw.start (h : At w sb m F) (hw : WIn w E sb wb x G bv) (hd : ∀ b, F b → ¬ G b) : Cw w w E F G sb wb x m bv F :=
  ⟨hw.sto, hw.row, h, fun _ hF => .inl hF, fun hF => hd wb hF hw.own, fun g hg hF => hd g hF (hw.rowG g hg), Chg.refl _ _⟩
theorem Cw.below {W : World} (h : Cw w wr E F G sb wb x m bv F') (hb : Below wr.heap.size wr W) : Cw w W E F G sb wb x m bv F' :=
  ⟨(hb.block wb (Array.getElem?_eq_some_iff.1 h.sto).1).trans h.sto, own_kept h.row fun k hk => hb.block k (h.row.lt k hk).2, h.at_.kept (fun b hF => hb.block b (h.at_.lt b hF)) (fun _ x => x) (fun b hF => Nat.lt_of_lt_of_le (h.at_.lt b hF) hb.size), fun b hF => (h.sub b hF).imp id fun y => ⟨y.1, Nat.lt_of_lt_of_le y.2 hb.size⟩, h.nwb, h.ng, h.chg.trans (Chg.of_below hb)⟩
theorem Cw.res {w3 : World} {m' : Sto} (h : Cw w wr E F G sb wb x m bv F') (r : Res F' wr sb m' w3) : Cw w w3 E F G sb wb x m' bv (Up F' wr w3) := by
  have l1 := (Array.getElem?_eq_some_iff.1 h.sto).1
  have l3 := h.chg.size
  have l4 := r.2.size
  refine ⟨(r.2.block wb l1 h.nwb).trans h.sto, own_kept h.row fun k hk => r.2.block k (h.row.lt k hk).2 (h.ng k hk), r.1, fun b hb => ?_, fun hb => ?_, fun k hk hb => ?_, h.chg.trans (r.2.mono fun b hb => ?_)⟩
  · rcases hb with hb | hb
    · exact (h.sub b hb).imp id fun y => ⟨y.1, by omega⟩
    · exact .inr ⟨by omega, hb.2⟩
  · rcases hb with hb | hb
    · exact h.nwb hb
    · omega
  · rcases hb with hb | hb
    · exact h.ng k hk hb
    · have := (h.row.lt k hk).2; omega
  · rcases h.sub b hb with y | y
    · exact .inl (.inl y)
    · exact .inr y
/-- behind Close -/
def CRes (F G : Nat → Prop) (w : World) (sb wb : Nat) (m : Sto) (w' : World) : Prop :=
  ∃ F', At w' sb m F' ∧ (∀ b, F' b → Up F w w' b) ∧ ¬ F' wb ∧ w'.heap[wb]? = some (.cells #[.pointer none, .int .i64 0, .int .i64 0, .slice none 0 0, .nilIface] 174 (0, 0)) ∧ Chg (fun b => F b ∨ G b) w w'
theorem Cw.fin (h : Cw w wr E F G sb wb x m bv F') (hG : G wb) : CRes F G w sb wb m (((((wr.setCell ⟨wb, 0, none⟩ (.pointer none)).setCell ⟨wb, 1, none⟩ (.int .i64 0)).setCell ⟨wb, 2, none⟩ (.int .i64 0)).setCell ⟨wb, 3, none⟩ (.slice none 0 0)).setCell ⟨wb, 4, none⟩ .nilIface) := by
  refine ⟨F', h.at_.kept (fun b hF => ?_) (fun _ x => x) (fun b hF => by simpa using h.at_.lt b hF), fun b hF => ?_, h.nwb, ?_, ((((h.chg.setCell (.inl (.inr hG)) _).setCell (.inl (.inr hG)) _).setCell (.inl (.inr hG)) _).setCell (.inl (.inr hG)) _).setCell (.inl (.inr hG)) _⟩
  · have hne : b ≠ wb := fun e => h.nwb (e ▸ hF)
    rw [Below.heap_setCell _ _ _ _ hne, Below.heap_setCell _ _ _ _ hne, Below.heap_setCell _ _ _ _ hne, Below.heap_setCell _ _ _ _ hne, Below.heap_setCell _ _ _ _ hne]
  · refine (h.sub b hF).imp id fun y => ⟨y.1, by simpa using y.2⟩
  · rw [set_heap1 (set_heap1 (set_heap1 (set_heap1 (set_heap1 h.sto _) _) _) _) _]
    simp [wriC]
end
theorem zero_writer (w : World) : (zeroValue 174).run Tryz.prog w = .ok (.agg #[.pointer none, .int .i64 0, .int .i64 0, .slice none 0 0, .nilIface]) w := by kernel_rfl
set_option maxRecDepth 100000 in
set_option maxHeartbeats 2000000 in
theorem close_go {w : World} {E : Nat → Addr} {B sb wb : Nat} {m m2 : Sto} {F G : Nat → Prop} {x : Wri} {bv : Value} (V : Env w E B) (hF : ∀ b, F b → B ≤ b) (hG : ∀ b, G b → B ≤ b) (hB : B ≤ w.heap.size) (h : At w sb m F) (hw : WIn w E sb wb x G bv) (hd : ∀ b, F b → ¬ G b) (hx : x.dead = 0) (hrun : x.run ≤ 16777216)
    (m1 : Sto) (h1 : x.buf = [] → m1 = m) (h2 : x.buf ≠ [] → app m x.run [strB x.buf] = (0, m1)) (h3 : sel m1 x.run = (0, m2)) :
    Calls Tryz.prog 81 #[.pointer (some ⟨wb, 0, none⟩)] w fun e w' => e = .returned (.tuple #[.int .i64 x.run, .nilIface]) ∧ CRes F G w sb wb m2 w' := by
  have HCK := hide (check_any hw)
  rw [show errV E x.dead = .nilIface by rw [hx]; rfl] at HCK
  have HC0 := hide (Cw.start h hw hd)
  have HV := hide V
  have HBB : Hid (∀ W, Chg (fun b => F b ∨ G b) w W → Below B w W) := fun W c => c.below hB (fun k hk => hk.elim (hF k) (hG k))
  have HFB : Hid (∀ {W : World} {mm : Sto} {FF : Nat → Prop}, Cw w W E F G sb wb x mm bv FF → ∀ b, FF b → B ≤ b) := fun {W mm FF} c b hb => by
    rcases c.sub b hb with y | y
    · exact hF b y
    · omega
  have HSL : Hid (∀ {W : World} {FF : Nat → Prop}, Cw w W E F G sb wb x m1 bv FF → Calls Tryz.prog 47 #[.pointer (some ⟨sb, 0, none⟩), .int .i64 x.run] W fun e w' => e = .returned .nilIface ∧ Cw w w' E F G sb wb x m2 bv (Up FF W w')) := fun {W FF} c => by
    have q := seal_any (k := (x.run : Int)) c.at_ (((unhide HV).below (unhide HBB W c.chg)).gs (unhide HFB c)) (by omega) (by omega)
    rw [h3] at q
    exact q.mono fun e w' hh => ⟨hh.1, c.res hh.2⟩
  have HOW := hide hw.own
  obtain ⟨ab, cb, rfl⟩ := own_slice hw.row
  have hzw := zero_writer
  have hbl : x.buf.length < 4096 := by have := hw.small; have := hw.blk2; omega
  by_cases hb : x.buf = []
  · obtain rfl := h1 hb
    have hl0 : x.buf.length = 0 := by rw [hb]; rfl
    obtain ⟨c0, c1, c2, c3, c4, cf⟩ := wcells (unhide HC0).sto
    have hwb : wb < w.heap.size := (Array.getElem?_eq_some_iff.1 (unhide HC0).sto).1
    rw [hl0] at c3
    clear V h hw hd h2 h3 h1 hx hb
    go_enter Tryz.func81, Tryz.ntmps81
    go_wp2_with fail
    refine (unhide HCK).mono ?_
    rintro e w0 ⟨rfl, hw0⟩
    have hw00 := hw0.symm
    subst hw00
    clear hw0 HCK
    go_wp2
    go_region_held3 (fun w' => w'.cell? ⟨wb, 0, none⟩ = some (.pointer (some ⟨sb, 0, none⟩)) ∧ w'.cell? ⟨wb, 1, none⟩ = some (.int .i64 x.run))
      (first | exact ⟨c0, c1⟩ | exact s3)
      (first | (go_at_call 47; refine (unhide HSL ((unhide HC0).below (by (repeat (first | exact Below.refl _ _ | refine Below.drew ?_ | refine Below.alloc ?_ (by first | (simp; done) | (simp; omega)) _ | refine Below.setCell ?_ (by first | (simp; done) | (simp; omega)) _))))).mono ?_; rintro e w3 ⟨rfl, hl3⟩; have HL3 := hide hl3; obtain ⟨z0, z1, z2, z3, z4, zf⟩ := wcells hl3.sto; have s3 := (⟨z0, z1⟩ : _ ∧ _); have hz3 : wb < w3.heap.size := (Array.getElem?_eq_some_iff.1 hl3.sto).1; clear hl3))
    clear s3
    have HFI := hide ((unhide HL3).fin (unhide HOW))
    go_wp2
    go_ret2
    exact ⟨rfl, unhide HFI⟩
  · have hap := h2 hb
    have hlp : 0 < x.buf.length := List.length_pos_iff.2 hb
    have hlz : 0 < (x.buf.length : Int) := by omega
    obtain ⟨X, hX⟩ : ∃ X, strB x.buf = X := ⟨_, rfl⟩
    have HCV : Hid (∀ {W : World} {mm : Sto} {FF : Nat → Prop}, Cw w W E F G sb wb x mm (.slice ab x.buf.length cb) FF → (convert 77 9 (.slice ab x.buf.length cb)).run Tryz.prog W = .ok (.string X) W) := fun {W mm FF} hW => by
      obtain ⟨g, rfl⟩ : ∃ g, ab = some ⟨g, 0, none⟩ := by
        rcases hW.row.2 with ⟨_, e⟩ | ⟨g, cap, cur, e, _⟩
        · omega
        · injection e with e _ _; exact ⟨g, e⟩
      have := conv_row hW.row 0 x.buf.length cb (by omega)
      rw [List.drop_zero, List.take_length, hX] at this
      exact this
    have HAPP : Hid (∀ W, Below w.heap.size w W → w.heap.size < W.heap.size → W.cell? ⟨w.heap.size, 0, none⟩ = some (.string X) → Calls Tryz.prog 45 #[.pointer (some ⟨sb, 0, none⟩), .int .i64 x.run, .slice (some ⟨w.heap.size, 0, none⟩) 1 1] W fun e w' => e = .returned .nilIface ∧ Cw w w' E F G sb wb x m1 (.slice ab x.buf.length cb) (Up F W w')) := fun W hW hlt hcell => by
      have l := (unhide HC0).below hW
      have q := append_any (k := (x.run : Int)) (v := .slice (some ⟨w.heap.size, 0, none⟩) 1 1) (L := [X]) l.at_ (((unhide HV).below (unhide HBB W l.chg)).gs (unhide HFB l)) (by omega) (by omega) ⟨_, 1, rfl, by simp, fun _ => ⟨w.heap.size, 0, rfl, hlt, fun hb => by have := h.lt _ hb; omega, fun j y hy => by
        have : j = 0 := by
          have := (List.getElem?_eq_some_iff.1 hy).1
          simpa using this
        subst this
        simp at hy
        subst hy
        rw [Nat.zero_add]; exact hcell⟩⟩
      rw [← hX, hap] at q
      exact q.mono fun e w' hh => ⟨hh.1, l.res hh.2⟩
    obtain ⟨c0, c1, c2, c3, c4, cf⟩ := wcells (unhide HC0).sto
    have hwb : wb < w.heap.size := (Array.getElem?_eq_some_iff.1 (unhide HC0).sto).1
    have s0 := unhide HCV (unhide HC0)
    obtain ⟨n, hn⟩ : ∃ n, x.buf.length = n := ⟨_, rfl⟩
    rw [hn] at hlp hlz s0 c3 hbl HCV HAPP HC0 HSL HFB
    clear V h hw hd h2 h3 h1 hx hb hap hX hn HFB
    go_enter Tryz.func81, Tryz.ntmps81
    go_wp2_with fail
    refine (unhide HCK).mono ?_
    rintro e w0 ⟨rfl, hw0⟩
    have hw00 := hw0.symm
    subst hw00
    clear hw0 HCK
    go_wp2
    go_region_held3 (fun w' => w'.cell? ⟨wb, 0, none⟩ = some (.pointer (some ⟨sb, 0, none⟩)) ∧ w'.cell? ⟨wb, 1, none⟩ = some (.int .i64 x.run) ∧ w'.cell? ⟨wb, 3, none⟩ = some (.slice ab n cb) ∧ (convert 77 9 (.slice ab n cb)).run Tryz.prog w' = .ok (.string X) w')
      (first | exact ⟨c0, c1, c3, s0⟩ | exact s2 | (refine ⟨?_, ?_, ?_, unhide HCV ((unhide HC0).below (by (repeat (first | exact Below.refl _ _ | refine Below.drew ?_ | refine Below.alloc ?_ (by first | (simp; done) | (simp; omega)) _ | refine Below.setCell ?_ (by first | (simp; done) | (simp; omega)) _))))⟩ <;> go_simp))
      (first | (go_at_call 45; refine (unhide HAPP _ (by (repeat (first | exact Below.refl _ _ | refine Below.drew ?_ | refine Below.alloc ?_ (by first | (simp; done) | (simp; omega)) _ | refine Below.setCell ?_ (by first | (simp; done) | (simp; omega)) _))) (by simp) (by go_simp)).mono ?_; rintro e w2 ⟨rfl, hl2⟩; have HL2 := hide hl2; obtain ⟨y0, y1, y2, y3, y4, yf⟩ := wcells hl2.sto; have s2 := (⟨y0, y1, y3, unhide HCV hl2⟩ : _ ∧ _ ∧ _ ∧ _); have hz2 : wb < w2.heap.size := (Array.getElem?_eq_some_iff.1 hl2.sto).1; clear hl2))
    clear s2 s0 c0 c1 c2 c3 c4 cf
    go_wp2
    go_region_held3 (fun w' => w'.cell? ⟨wb, 0, none⟩ = some (.pointer (some ⟨sb, 0, none⟩)) ∧ w'.cell? ⟨wb, 1, none⟩ = some (.int .i64 x.run))
      (first | exact ⟨y0, y1⟩ | exact s3)
      (first | (go_at_call 47; refine (unhide HSL ((unhide HL2).below (by (repeat (first | exact Below.refl _ _ | refine Below.drew ?_ | refine Below.alloc ?_ (by first | (simp; done) | (simp; omega)) _ | refine Below.setCell ?_ (by first | (simp; done) | (simp; omega)) _))))).mono ?_; rintro e w3 ⟨rfl, hl3⟩; have HL3 := hide hl3; obtain ⟨z0, z1, z2, z3, z4, zf⟩ := wcells hl3.sto; have s3 := (⟨z0, z1⟩ : _ ∧ _); have hz3 : wb < w3.heap.size := (Array.getElem?_eq_some_iff.1 hl3.sto).1; clear hl3))
    clear s3 y0 y1 y2 y3 y4 yf
    have HFI := hide ((unhide HL3).fin (unhide HOW))
    go_wp2
    go_ret2
    exact ⟨rfl, unhide HFI⟩
end Rs
end Go.Proofs.YtohfhkdhccpoaaaGreatDoor
