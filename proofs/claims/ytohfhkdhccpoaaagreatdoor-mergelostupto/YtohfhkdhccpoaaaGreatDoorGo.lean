/- Layer 10: the stream of a run's records, where they are whole and rise. -/
import Derived.Laws.Cover1
import Derived.Sort.LoopGhostIn
import Derived.Test.YtohfhkdhccpoaaaGreatDoorGf
import Derived.Test.YtohfhkdhccpoaaaGreatDoorGj
import Derived.Test.YtohfhkdhccpoaaaGreatDoorGn
namespace Go.Proofs.YtohfhkdhccpoaaaGreatDoor
open Go.RowKit Go.Shelf
namespace Rs
open Sm (Tx ofS Walks WalksC Fit Serves Ended Inv lt lt_def bx_below)
attribute [local go_sem] Oper.semAt_some

theorem smc {F : Nat → Prop} {a b : World} (h : Chg F a b) : Sm.Chg F a b := ⟨h.os, h.tape, h.output, h.size, h.block⟩
theorem rsc {F : Nat → Prop} {a b : World} (h : Sm.Chg F a b) : Chg F a b := ⟨h.os, h.tape, h.output, h.size, h.block⟩
theorem txt_le : ∀ {l : List Run} {r : Run}, r ∈ l → r.txt.length ≤ tot l
  | x :: t, r, h => by
    rcases List.mem_cons.1 h with e | e
    · subst e; simp only [tot]; omega
    · have := txt_le e; simp only [tot]; omega
theorem RAt.kept {w W : World} {sb rb : Nat} {t : List UInt8} {run blk : Nat} {R : List UInt8} {y : Rea} (h : RAt w sb rb t run blk R y) (hb : W.heap[rb]? = w.heap[rb]?) : RAt W sb rb t run blk R y := ⟨hb.trans h.cell, h.run, h.blk, h.size, h.taken, h.left⟩
theorem RAt.lt {w : World} {sb rb : Nat} {t : List UInt8} {run blk : Nat} {R : List UInt8} {y : Rea} (h : RAt w sb rb t run blk R y) : rb < w.heap.size := (rcells h.cell).2.2.2.2.2.2.2
/-- in the midst of a walk over a run: k records were given -/
structure RG (W : World) (J : Inv) (T₀ : Nat → Prop) (sb rb run : Nat) (txt : List UInt8) (L : List Tx) (k j : Nat) (T : Nat → Prop) (V : World) : Prop where
  inv : J (L.take k) T V
  chg : Sm.Chg T₀ W V
  up : ∀ b, T b → Sm.Up T₀ W V b
  rea : ∃ y, RAt V sb rb txt run 512 (Um.frs (Um.rl (L.drop j))) y
  nrb : ¬ T rb
  new : W.heap.size ≤ rb
theorem RG.next {B : Nat} {W : World} {J : Inv} {T₀ : Nat → Prop} {sb rb run : Nat} {txt : List UInt8} {L : List Tx} {k : Nat} {T : Nat → Prop} {V V' : World} (fJ : Fit B J) (h : RG W J T₀ sb rb run txt L k k T V) (hr : ∃ y, RAt V' sb rb txt run 512 (Um.frs (Um.rl (L.drop (k + 1)))) y) (c : Chg (fun b => b = rb) V V') : RG W J T₀ sb rb run txt L k (k + 1) T V' := by
  have hn := h.nrb
  have hw := h.new
  refine ⟨fJ.abide h.inv ((smc c).mono fun b hb q => hn (hb ▸ q)), ?_, fun b hb => ?_, hr, hn, hw⟩
  · exact ⟨c.os.trans h.chg.os, c.tape.trans h.chg.tape, c.output.trans h.chg.output, Nat.le_trans h.chg.size c.size, fun i hi hT => (c.block i (Nat.lt_of_lt_of_le hi h.chg.size) fun e => by omega).trans (h.chg.block i hi hT)⟩
  · rcases h.up b hb with e | e
    · exact .inl e
    · exact .inr ⟨e.1, Nat.lt_of_lt_of_le e.2 c.size⟩
theorem RG.yield {W : World} {J Jx : Inv} {T₀ : Nat → Prop} {sb rb run : Nat} {txt : List UInt8} {L : List Tx} {k : Nat} {T : Nat → Prop} {V V' : World} {x : Tx} {e : Ending} (h : RG W J T₀ sb rb run txt L k (k + 1) T V) (hx : L[k]? = some x) (hp : Sm.RndPost J Jx (L.take k ++ [x]) T V e V') :
    (e = .returned (.bool true) ∧ ∃ T', RG W J T₀ sb rb run txt L (k + 1) (k + 1) T' V') ∨ (e = .returned (.bool false) ∧ Ended L J Jx T₀ W V') := by
  obtain ⟨T', c, u, hh⟩ := hp
  have htk : L.take (k + 1) = L.take k ++ [x] := by rw [List.take_add_one, hx]; rfl
  rw [← htk] at hh
  have c1 : Sm.Chg T₀ W V' := h.chg.on c h.up
  have u1 : ∀ b, T' b → Sm.Up T₀ W V' b := Sm.Up.on h.chg c h.up u
  obtain ⟨y, hy⟩ := h.rea
  rcases hh with ⟨rfl, hj⟩ | ⟨rfl, hj⟩
  · refine .inl ⟨rfl, T', hj, c1, u1, ⟨y, hy.kept (c.block rb hy.lt h.nrb)⟩, fun q => ?_, h.new⟩
    rcases u rb q with x | x
    · exact h.nrb x
    · have := hy.lt; omega
  · exact .inr ⟨rfl, T', c1, u1, .inr ⟨_, List.take_prefix .., hj⟩⟩
theorem RG.over {W : World} {J Jx : Inv} {T₀ : Nat → Prop} {sb rb run : Nat} {txt : List UInt8} {L : List Tx} {k j : Nat} {T : Nat → Prop} {V V' : World} {B : Nat} (fJ : Fit B J) (h : RG W J T₀ sb rb run txt L k j T V) (hk : k = L.length) (hb : Below V.heap.size V V') : Ended L J Jx T₀ W V' := by
  have i := h.inv
  rw [hk, List.take_length] at i
  refine ⟨T, h.chg.on (G := fun _ => False) (Sm.Chg.of_below hb) (fun _ q => q.elim), fun b q => ?_, .inl (fJ.abide i (Sm.Chg.of_below hb))⟩
  rcases h.up b q with e | e
  · exact .inl e
  · exact .inr ⟨e.1, Nat.lt_of_lt_of_le e.2 hb.size⟩
theorem rl_drop {L : List Tx} {k : Nat} {x : Tx} (h : L[k]? = some x) : Um.frs (Um.rl (L.drop k)) = Um.fr (Um.lst x) ++ Um.frs (Um.rl (L.drop (k + 1))) := by
  obtain ⟨hk, e⟩ := List.getElem?_eq_some_iff.1 h
  rw [List.drop_eq_getElem_cons hk, e]
  rfl
set_option maxRecDepth 100000 in
set_option maxHeartbeats 4000000 in
theorem records1_walks {w₀ : World} {E : Nat → Addr} {Be B sb bs br run : Nat} {m : Sto} {F : Nat → Prop} {r : Run} {L : List Tx} (V : EnvR w₀ E Be) (hF : ∀ b, F b → Be ≤ b) (hFB : ∀ b, F b → b < B) (hBe : Be ≤ B) (h : At w₀ sb m F) (hl : look m.runs run = some r) (hs : r.shut = true) (ht : r.txt = Um.frs (Um.rl L)) (hL : Sm.Rs L) (hx : ∀ x ∈ L, x.size ≤ 255) (hrun : run ≤ 16777216) (hbs : bs < B) (hbr : br < B) (c1 : Boxed w₀ bs 23 (.pointer (some ⟨sb, 0, none⟩))) (c2 : Boxed w₀ br 3 (.int .i64 run)) :
    Walks Tryz.prog 128 #[.pointer (some ⟨bs, 0, none⟩), .pointer (some ⟨br, 0, none⟩)] L B w₀ := by
  refine ⟨enters_of Tryz.func128 (by kernel_rfl) rfl, fun l J Jx W T₀ hW hsB fJ fX hY h0 => ?_⟩
  have hT0 : ∀ b, T₀ b → B ≤ b ∧ b < W.heap.size := fun b hb => fJ.foot h0 hb
  have HAT : Hid (∀ U, Sm.Chg T₀ W U → At U sb m F ∧ EnvR U E Be) := fun U c => by
    have hb : Below B w₀ U := hW.trans (c.below hsB fun k hk => (hT0 k hk).1)
    exact ⟨h.kept (fun b hb' => hb.block b (hFB b hb')) (fun _ x => x) (fun b hb' => Nat.lt_of_lt_of_le (hFB b hb') (Nat.le_trans hsB c.size)), V.below (hb.mono hBe)⟩
  have hlen : r.txt.length ≤ 67108864 := by
    have h1 := txt_le (look_mem hl).1
    have h2 := h.ok.used
    have h3 := h.ok.cap
    omega
  have k1 := (bx_below c1 hW hbs).cell
  have k2 := (bx_below c2 hW hbr).cell
  have HFR := hide (from_go (unhide HAT W (Sm.Chg.refl _ _)).2 hF (by omega) (unhide HAT W (Sm.Chg.refl _ _)).1 (b := 512) (by decide) (by decide) hrun hl hs)
  have HNX : Hid (∀ U rb k x T, L[k]? = some x → RG W J T₀ sb rb run r.txt L k k T U → Calls Tryz.prog 129 #[.pointer (some ⟨rb, 0, none⟩)] U fun e w' => e = .returned (.tuple #[.string x, .bool true, .nilIface]) ∧ RG W J T₀ sb rb run r.txt L k (k + 1) T w') := fun U rb k x T hk g => by
    obtain ⟨y, hy⟩ := g.rea
    rw [rl_drop hk] at hy
    obtain ⟨a, v⟩ := unhide HAT U g.chg
    have hn := g.new
    have hlt := hy.lt
    have hsz : (Um.fr (Um.lst x) ++ Um.frs (Um.rl (L.drop (k + 1)))).length ≤ 67108864 := by
      rw [← rl_drop hk]
      have := congrArg List.length (rl_split L k)
      rw [List.length_append, ← ht] at this
      omega
    refine (next_go v hF (by omega) a (fun q => by have := hFB rb q; omega) (by omega) hy hrun hl hs hlen (by decide) (by decide) hsz (by rw [Um.lst_len]; exact hx x (List.mem_of_getElem? hk))).mono ?_
    rintro e w' ⟨rfl, hr, c⟩
    exact ⟨rfl, g.next fJ hr c⟩
  have HNE : Hid (∀ U rb T, RG W J T₀ sb rb run r.txt L L.length L.length T U → Calls Tryz.prog 129 #[.pointer (some ⟨rb, 0, none⟩)] U fun e w' => e = .returned (.tuple #[.string ⟨#[]⟩, .bool false, .nilIface]) ∧ Ended L J Jx T₀ W w') := fun U rb T g => by
    obtain ⟨y, hy⟩ := g.rea
    rw [List.drop_length] at hy
    refine (next_end hy).mono ?_
    rintro e w' ⟨rfl, hb⟩
    exact ⟨rfl, g.over fJ rfl hb⟩
  have HLT : Hid (∀ k x y, L[k]? = some x → L[k + 1]? = some y → Op.bytesLess y.toList x.toList = false ∧ (y.toList == x.toList) = false) := fun k x y h1 h2 => by
    rw [lt_def]
    obtain ⟨l1, e1⟩ := List.getElem?_eq_some_iff.1 h1
    obtain ⟨l2, e2⟩ := List.getElem?_eq_some_iff.1 h2
    have := List.pairwise_iff_getElem.1 hL k (k + 1) l1 l2 (by omega)
    rw [e1, e2] at this
    refine ⟨Sm.lt_asym this, ?_⟩
    cases q : (y.toList == x.toList) with
    | false => rfl
    | true => exact absurd (Sm.tx_beq.1 q).symm (Sm.lt_ne this)
  have HST : Hid (∀ rb w1, RIn w1 sb rb ⟨run, 512, 0, r.txt.length, ⟨#[]⟩⟩ → W.heap.size ≤ rb → Below W.heap.size W w1 → RG W J T₀ sb rb run r.txt L 0 0 T₀ w1) := fun rb w1 hr hn hb =>
    ⟨by simpa using fJ.abide h0 (Sm.Chg.of_below hb), Sm.Chg.of_below hb, fun b q => .inl q, ⟨_, hr, rfl, rfl, rfl, Nat.zero_le _, by simp [Um.lst, ht]⟩, fun q => by have := (hT0 rb q).2; omega, hn⟩
  have HY := hide hY
  clear hY fJ fX h0 h hl hs ht hL hx c1 c2 V HAT hF hFB hT0 hW
  obtain ⟨n, hn⟩ : ∃ n, L.length = n := ⟨_, rfl⟩
  obtain ⟨tx, htx⟩ : ∃ tx, r.txt = tx := ⟨_, rfl⟩
  rw [htx] at HFR HNX HNE HST hlen
  refine (callsIn_wide (n := 8)).1 ?_
  refine callsIn_of_wp Tryz.func128 rfl trivial ?_ rfl
  simp only [Tryz.ntmps128, List.size_toArray, List.length_cons, List.length_nil, Nat.reduceAdd, Nat.reduceSub, Array.replicate_succ, Array.replicate_zero, List.push_toArray, List.append_toArray, List.nil_append, List.cons_append]
  gi_wp2_with (refine ⟨trivial, ?_⟩; gi_at_call 127; refine (callsIn_wide.2 (unhide HFR)).mono ?_; rintro e w1 ⟨rb, rfl, hr1, hr2, hr3⟩; have HG := hide (unhide HST rb w1 hr1 hr2 hr3); clear hr1 hr2 hr3)
  gi_loopg [6, 7] n (fun kk s6 s7 wr => ∃ k lv bo, k + kk = n ∧ s6 = .string lv ∧ s7 = .bool bo ∧ Hid (bo = true → ∃ j, k = j + 1 ∧ L[j]? = some lv) ∧ Hid (∃ T, RG W J T₀ sb rb run tx L k k T wr))
  case atStart => exact ⟨0, ⟨#[]⟩, false, by omega, rfl, rfl, (fun h => by cases h), T₀, unhide HG⟩
  case round =>
    obtain ⟨k, lv, bo, hk, rfl, rfl, HL, HT⟩ := hrel
    clear HG
    by_cases hkn : k < n
    · obtain ⟨x, hx⟩ : ∃ x, L[k]? = some x := ⟨_, List.getElem?_eq_getElem (by omega)⟩
      have HX := hide hx
      obtain ⟨T, hg⟩ := unhide HT
      have HN := hide (unhide HNX wr rb k x T hx hg)
      clear hx hg HT
      have HYY : Hid (∀ w2, RG W J T₀ sb rb run tx L k (k + 1) T w2 → ∃ fn tmps assign body, _) := fun w2 g => (unhide HY (L.take k) x T w2 g.inv (by rw [show L.take k ++ [x] = L.take (k + 1) by rw [List.take_add_one, unhide HX]; rfl]; exact List.take_prefix ..) g.chg).at 7
      rcases bo with _ | _
      · gi_wp2_with (refine ⟨trivial, ?_⟩; gi_at_call 129; refine (callsIn_wide.2 (unhide HN)).mono ?_; rintro e w2 ⟨rfl, hg2⟩; have HG2 := hide hg2; obtain ⟨fn, tmps, assign, body, hy, hRR⟩ := unhide HYY w2 hg2; have HRR := hide hRR; clear hg2 hRR)
        refine (unhide HRR).mono ?_
        rintro e W3 hp
        rcases RG.yield (unhide HG2) (unhide HX) hp with ⟨rfl, T', hu'⟩ | ⟨rfl, hE⟩
        · have HU' := hide hu'
          clear hp hu'
          gi_wp2
          gi_roundg (n - (k + 1))
          case rel => exact ⟨k + 1, x, true, by omega, rfl, rfl, (fun _ => ⟨k, rfl, unhide HX⟩), T', unhide HU'⟩
          case measure => omega
        · have HE := hide hE
          clear hp hE
          gi_wp2
          refine bodyPost_ret (results_none rfl _ _ _) rfl ?_
          exact ⟨⟨_, rfl⟩, unhide HE⟩
      · obtain ⟨e1, e2⟩ : Op.bytesLess x.toList lv.toList = false ∧ (x.toList == lv.toList) = false := by
          obtain ⟨j, rfl, hj⟩ := unhide HL rfl
          exact unhide HLT j lv x hj (unhide HX)
        gi_wp2_with (refine ⟨trivial, ?_⟩; gi_at_call 129; refine (callsIn_wide.2 (unhide HN)).mono ?_; rintro e w2 ⟨rfl, hg2⟩; have HG2 := hide hg2; obtain ⟨fn, tmps, assign, body, hy, hRR⟩ := unhide HYY w2 hg2; have HRR := hide hRR; clear hg2 hRR)
        refine (unhide HRR).mono ?_
        rintro e W3 hp
        rcases RG.yield (unhide HG2) (unhide HX) hp with ⟨rfl, T', hu'⟩ | ⟨rfl, hE⟩
        · have HU' := hide hu'
          clear hp hu'
          gi_wp2
          gi_roundg (n - (k + 1))
          case rel => exact ⟨k + 1, x, true, by omega, rfl, rfl, (fun _ => ⟨k, rfl, unhide HX⟩), T', unhide HU'⟩
          case measure => omega
        · have HE := hide hE
          clear hp hE
          gi_wp2
          refine bodyPost_ret (results_none rfl _ _ _) rfl ?_
          exact ⟨⟨_, rfl⟩, unhide HE⟩
    · have hkk : k = n := by omega
      obtain ⟨T, hg⟩ := unhide HT
      rw [hkk, ← hn] at hg
      have HN := hide (unhide HNE wr rb T hg)
      clear hg HT hkk
      gi_wp2_with (refine ⟨trivial, ?_⟩; gi_at_call 129; refine (callsIn_wide.2 (unhide HN)).mono ?_; rintro e w2 ⟨rfl, hE⟩; have HE := hide hE; clear hE)
      refine bodyPost_ret (results_none rfl _ _ _) rfl ?_
      exact ⟨⟨_, rfl⟩, unhide HE⟩
end Rs
end Go.Proofs.YtohfhkdhccpoaaaGreatDoor
/- Layer 10: Records of a run whose records are whole and rise. -/
namespace Go.Proofs.YtohfhkdhccpoaaaGreatDoor
open Go.RowKit Go.Shelf
namespace Rs
open Sm (Tx ofS Walks WalksC Fit Serves Ended Inv lt lt_def bx_below)

theorem results_st2 {fn : Func} {p q : Tmp} (h : fn.results = #[.cell p 136, .tmp q]) {tmps : Array Value} {w : World} {g : Nat} {v u : Value} (hp : tmps.getD p undef = .pointer (some ⟨g, 0, none⟩)) (hq : tmps.getD q undef = u) (hc : Boxed w g 136 v) :
    (results fn tmps).run Tryz.prog w = .ok (.tuple #[.agg #[v], u]) w := by
  have hp' : tmps[p]?.getD undef = .pointer (some ⟨g, 0, none⟩) := by simpa using hp
  have hq' : tmps[q]?.getD undef = u := by simpa using hq
  simp [results, h, hp', hq', asAddr, run_loadVar_row w g _ 136 #[v] (0, 0) _ hc Tryz.underlying136 rfl (by kernel_rfl)]
/-- a run in which these texts stand, rising -/
structure Std (m : Sto) (k : Nat) (L : List Tx) : Prop where
  run : ∃ r, look m.runs k = some r ∧ r.shut = true ∧ r.txt = Um.frs (Um.rl L)
  rs : Sm.Rs L
  fit : ∀ x ∈ L, x.size ≤ 255
set_option maxRecDepth 100000 in
set_option maxHeartbeats 4000000 in
theorem records_go {w : World} {E : Nat → Addr} {Be sb run : Nat} {m : Sto} {F : Nat → Prop} {L : List Tx} (V : EnvR w E Be) (hF : ∀ b, F b → Be ≤ b) (hB : Be ≤ w.heap.size) (h : At w sb m F) (hs : Std m run L) (hrun : run ≤ 16777216) :
    Calls Tryz.prog 111 #[.pointer (some ⟨sb, 0, none⟩), .int .i64 run] w fun e w' => ∃ bs br, e = .returned (.tuple #[.agg #[.func (.func 128) #[] #[.pointer (some ⟨bs, 0, none⟩), .pointer (some ⟨br, 0, none⟩)]], .nilIface]) ∧ Boxed w' bs 23 (.pointer (some ⟨sb, 0, none⟩)) ∧ Boxed w' br 3 (.int .i64 run) ∧ w.heap.size ≤ bs ∧ w.heap.size ≤ br ∧ Below w.heap.size w w' := by
  obtain ⟨⟨r, hl, hsh, -⟩, -, -⟩ := hs
  have HAT : Hid (∀ U, Below w.heap.size w U → At U sb m F ∧ EnvR U E Be) := fun U hb => ⟨h.kept (fun b q => hb.block b (h.lt b q)) (fun _ x => x) (fun b q => Nat.lt_of_lt_of_le (h.lt b q) hb.size), V.below (hb.mono hB)⟩
  have HFR : Hid (∀ U, Below w.heap.size w U → Calls Tryz.prog 127 #[.pointer (some ⟨sb, 0, none⟩), .int .i64 run, .int .i64 512] U fun e w' => ∃ rb, e = .returned (.tuple #[.pointer (some ⟨rb, 0, none⟩), .nilIface]) ∧ Below U.heap.size U w') := fun U hU => (from_go (unhide HAT U hU).2 hF (Nat.le_trans hB hU.size) (unhide HAT U hU).1 (b := 512) (by decide) (by decide) hrun hl hsh).mono (by rintro e w' ⟨rb, rfl, _, _, h4⟩; exact ⟨rb, rfl, h4⟩)
  clear V hF h hl hsh HAT
  go_enter Tryz.func111, Tryz.ntmps111
  go_wp2_with fail
  have b0 : Below w.heap.size w (((w.alloc (.cells #[.pointer (some ⟨sb, 0, none⟩)] 23)).alloc (.cells #[.int .i64 run] 3)).alloc (.cells #[.nilFunc] 136)) := by (repeat (first | exact Below.refl _ _ | refine Below.drew ?_ | refine Below.alloc ?_ (by first | (simp; done) | (simp; omega)) _ | refine Below.setCell ?_ (by first | (simp; done) | (simp; omega)) _))
  have x1 := ((Boxed.new w 23 (.pointer (some ⟨sb, 0, none⟩))).alloc (.cells #[.int .i64 run] 3)).alloc (.cells #[.nilFunc] 136)
  have x2 := (Boxed.new (w.alloc (.cells #[.pointer (some ⟨sb, 0, none⟩)] 23)) 3 (.int .i64 run)).alloc (.cells #[.nilFunc] 136)
  have x3 := Boxed.new ((w.alloc (.cells #[.pointer (some ⟨sb, 0, none⟩)] 23)).alloc (.cells #[.int .i64 run] 3)) 136 .nilFunc
  refine (unhide HFR _ b0).mono ?_
  obtain ⟨w3, hw3⟩ : ∃ w3, w3 = ((w.alloc (.cells #[.pointer (some ⟨sb, 0, none⟩)] 23)).alloc (.cells #[.int .i64 run] 3)).alloc (.cells #[.nilFunc] 136) := ⟨_, rfl⟩
  have hsz : w3.heap.size = w.heap.size + 3 := by rw [hw3]; simp
  rw [← hw3] at b0 x1 x2 x3 ⊢
  simp only [World.size_alloc] at x2 x3
  clear hw3
  rintro e w1 ⟨rb, rfl, hb1⟩
  have y1 := bx_below x1 hb1 (by omega)
  have y2 := bx_below x2 hb1 (by omega)
  have y3 := bx_below x3 hb1 (by omega)
  have k3 := y3.cell
  have k4 := y3.frozen
  have b1 := b0.trans (hb1.mono b0.size)
  have hs1 := hb1.size
  obtain ⟨W, hW⟩ : ∃ W, W = w1.setCell ⟨w.heap.size + 1 + 1, 0, none⟩ (.func (.func 128) #[] #[.pointer (some ⟨w.heap.size, 0, none⟩), .pointer (some ⟨w.heap.size + 1, 0, none⟩)]) := ⟨_, rfl⟩
  have q1 := y1.other (B' := w.heap.size + 1 + 1) (by omega) (.func (.func 128) #[] #[.pointer (some ⟨w.heap.size, 0, none⟩), .pointer (some ⟨w.heap.size + 1, 0, none⟩)])
  have q2 := y2.other (B' := w.heap.size + 1 + 1) (by omega) (.func (.func 128) #[] #[.pointer (some ⟨w.heap.size, 0, none⟩), .pointer (some ⟨w.heap.size + 1, 0, none⟩)])
  have q3 := y3.set (.func (.func 128) #[] #[.pointer (some ⟨w.heap.size, 0, none⟩), .pointer (some ⟨w.heap.size + 1, 0, none⟩)])
  have bW : Below w.heap.size w W := by rw [hW]; exact b1.setCell (p := ⟨w.heap.size + 1 + 1, 0, none⟩) (by show w.heap.size ≤ w.heap.size + 1 + 1; omega) _
  rw [← hW] at q1 q2 q3
  have HQ := hide (⟨q3, q1, q2, bW⟩ : _ ∧ _ ∧ _ ∧ _)
  clear q1 q2 q3 bW y1 y2 y3 x1 x2 x3 b0 b1 hb1 HFR
  go_wp2
  rw [← hW]
  refine bodyPost_ret (results_st2 rfl (g := w.heap.size + 1 + 1) rfl rfl (unhide HQ).1) rfl ?_
  exact ⟨_, _, rfl, (unhide HQ).2.1, (unhide HQ).2.2.1, Nat.le_refl _, Nat.le_succ _, (unhide HQ).2.2.2⟩
end Rs
end Go.Proofs.YtohfhkdhccpoaaaGreatDoor
/- Layer 10: Union, whatever is then written into some older blocks. -/
namespace Go.Proofs.YtohfhkdhccpoaaaGreatDoor
open Go.RowKit Go.Shelf
namespace Sm
/-- a stream that gives L whatever is written into the blocks D, as long as K holds -/
def SkC (D : Nat → Prop) (K : World → Prop) (w : World) (gf : FuncId) (lb : Array Value) (L : List Tx) : Prop := ∀ W', Chg D w W' → K W' → WalksC Tryz.prog gf lb L W'.heap.size 0 W'
def SkG (D : Nat → Prop) (K : World → Prop) (w : World) (v : Value) (L : List Tx) : Prop := ∀ W', Chg D w W' → K W' → Gives Tryz.prog v L W'.heap.size W'
set_option maxRecDepth 100000 in
set_option maxHeartbeats 4000000 in
theorem union_sk {w : World} {v : Value} {Ps : List (Value × List Tx)} {D : Nat → Prop} {K : World → Prop} (hK : K w) (hp : PRow w v Ps w.heap.size) (hg : ∀ p ∈ Ps, SkG D K w p.1 p.2 ∧ Rs p.2) (hD : ∀ b, D b → b < w.heap.size) (hz : Ps.length ≤ 1048576) (ht : (lsOf Ps).flatten.length ≤ 4398040000000) :
    Calls Tryz.prog 112 #[v] w fun e w' => ∃ gf lb, e = .returned (.agg #[.func (.func gf) #[] lb]) ∧ SkC D K w' gf lb (ofS (lsOf Ps).flatten) ∧ Below w.heap.size w w' := by
  have HC := hide (clone_st (hp.below (((Below.refl _ w).alloc (Nat.le_refl _) (.cells #[.nilFunc] 136)))) (fun p q => gives_one ((hg p q).1 w (Chg.refl _ _) hK)) hz)
  obtain ⟨ao, cap, rfl, -⟩ := hp
  have HG := hide hg
  have HD := hide hD
  clear hg hD
  go_enter Tryz.func112, Tryz.ntmps112
  go_wp2_with fail
  refine (unhide HC).mono ?_
  rintro e w1 ⟨v1, rfl, hp1, hb1⟩
  have HP := hide hp1
  obtain ⟨a1, c1, rfl, -⟩ := hp1
  rw [World.size_alloc] at hb1
  have b0 : Below w.heap.size w w1 := ((Below.refl _ w).alloc (Nat.le_refl _) (.cells #[.nilFunc] 136)).trans (hb1.mono (by omega))
  have bx0 : Boxed w1 w.heap.size 136 .nilFunc := (hb1.block _ (by omega)).trans (Boxed.new w _ _)
  have hs1 : w.heap.size + 1 ≤ w1.heap.size := by have := hb1.size; simpa using this
  have bx1 := bx0.alloc (.cells #[.slice a1 Ps.length c1] 169)
  have bp := Boxed.new w1 169 (.slice a1 Ps.length c1)
  have k3 := bx1.cell
  have k4 := bx1.frozen
  obtain ⟨W, hW⟩ : ∃ W, W = (w1.alloc (.cells #[.slice a1 Ps.length c1] 169)).setCell ⟨w.heap.size, 0, none⟩ (.func (.func 131) #[] #[.pointer (some ⟨w1.heap.size, 0, none⟩)]) := ⟨_, rfl⟩
  have q3 := bx1.set (.func (.func 131) #[] #[.pointer (some ⟨w1.heap.size, 0, none⟩)])
  have q4 := bp.other (B' := w.heap.size) (by omega) (.func (.func 131) #[] #[.pointer (some ⟨w1.heap.size, 0, none⟩)])
  rw [← hW] at q3 q4
  have hbel : Below w.heap.size w W := by
    rw [hW]
    exact (b0.alloc (by omega) _).setCell (p := ⟨w.heap.size, 0, none⟩) (Nat.le_refl _) _
  have sW : W.heap.size = w1.heap.size + 1 := by rw [hW]; simp [World.setCell]
  have hpW : PRow' W (.slice a1 Ps.length c1) Ps (w.heap.size + 1) := by
    obtain ⟨ao', cap', e, hat⟩ := unhide HP
    refine ⟨ao', cap', e, fun h0 => ?_⟩
    obtain ⟨g, off, e1, hgn', hg, hc⟩ := hat h0
    have hgn : g ≠ w.heap.size := by rw [World.size_alloc] at hgn'; omega
    rw [World.size_alloc] at hgn'
    refine ⟨g, off, e1, hgn', by omega, fun j p hj => ?_⟩
    rw [hW, World.cell?_of_block (w := w1) ((Below.heap_setCell _ _ _ _ (by show g ≠ w.heap.size; exact hgn)).trans (Below.heap_alloc _ _ _ hg))]
    exact hc j p hj
  have HF : Hid (SkC D K W 131 #[.pointer (some ⟨w1.heap.size, 0, none⟩)] (ofS (lsOf Ps).flatten)) := fun W' c kW => by
    have hs := c.size
    have hnd : ∀ b, w.heap.size ≤ b → ¬ D b := fun b hb q => by have := unhide HD b q; omega
    have r4 : Boxed W' w1.heap.size 169 (.slice a1 Ps.length c1) := (c.block _ q4.lt (hnd _ (by omega))).trans q4
    refine union1_walks (B := W'.heap.size) ?_ r4.lt r4 (fun p q => ⟨(unhide HG p q).1 W' ((Chg.of_below (F := D) hbel).on c fun i hi => .inl hi) kW, (unhide HG p q).2⟩) hz ht
    obtain ⟨ao', cap', e, hat⟩ := hpW
    refine ⟨ao', cap', e, fun h0 => ?_⟩
    obtain ⟨g, off, e1, hg1, hg2, hc⟩ := hat h0
    refine ⟨g, off, e1, by omega, fun j p hj => ?_⟩
    exact (World.cell?_of_block (a := ⟨g, off + j, none⟩) (c.block g hg2 (hnd g (by omega)))).trans (hc j p hj)
  have HQ := hide (⟨q3, hbel⟩ : _ ∧ _)
  clear HP b0 bx0 bx1 bp q3 q4 hbel sW hpW hb1
  go_wp2
  rw [← hW]
  refine bodyPost_ret (results_stream rfl (g := w.heap.size) rfl (unhide HQ).1) rfl ?_
  exact ⟨_, _, rfl, unhide HF, (unhide HQ).2⟩
end Sm
end Go.Proofs.YtohfhkdhccpoaaaGreatDoor
/- Layer 10: union: the stream of all that stands in some runs. -/
namespace Go.Proofs.YtohfhkdhccpoaaaGreatDoor
open Go.RowKit Go.Shelf
namespace Rs
open Sm (Tx ofS Walks WalksC Fit Serves Ended Inv lt lt_def bx_below lsOf PRow infoSt append_blk own_lt Gives)

theorem push_st {W : World} {v : Value} {Ps : List (Value × List Tx)} (x : Value) (hx : x.oneCell' = true) (hown : W.ownsRow 0 136 1 v Ps.length (Ps.map (·.1))) (hz : Ps.length + 1 ≤ 8796093022208) (ty : TypeId) :
    ∃ a c W', (Builtin.append_ #[169, 169] ty #[v, .slice (some ⟨W.heap.size, 0, none⟩) 1 1]).run Tryz.prog (W.alloc (.cells #[x] 136)) = .ok (.slice a (Ps.length + 1) c) W' ∧ W'.ownsRow 0 136 1 (.slice a (Ps.length + 1) c) (Ps.length + 1) (Ps.map (·.1) ++ [x]) ∧ Chg (fun b => v.ownBlock = some b) W W' ∧ (∀ g, (Value.slice a (Ps.length + 1) c).ownBlock = some g → v.ownBlock = some g ∨ W.heap.size ≤ g) := by
  obtain ⟨i, hi, hz'⟩ := Option.map_eq_some_iff.1 infoSt
  simp only [Prod.mk.injEq] at hz'
  obtain ⟨hz0, hz1, hz2⟩ := hz'
  have hown1 : (W.alloc (.cells #[x] 136)).ownsRow 0 136 1 v Ps.length (Ps.map (·.1)) := own_kept hown fun g hg => Below.heap_alloc _ _ _ (own_lt hown hg).2
  obtain ⟨v', W', hrun, ho, hg, hb⟩ := append_blk (P := Tryz.prog) (W.alloc (.cells #[x] 136)) 169 ty 136 i _ 1 8 Tryz.underlying169 hi hz0 hz1 hz2 rfl (by decide) v Ps.length (Ps.map (·.1)) hown1 ⟨W.heap.size, 0, none⟩ 1 1 [x] rfl (cell_one_new _ _ _) (by simpa using hx) (by unfold maxLen; omega) (by omega)
  obtain ⟨g, c, rfl⟩ := ownsRow_succ ho
  refine ⟨_, c, W', hrun, ho, rsc (((Sm.Chg.refl _ W).alloc _).grown hg fun k hk => .inl hk), fun g' hg' => ?_⟩
  rcases hb with e | e
  · exact .inl (e.symm.trans hg')
  · rw [World.size_alloc] at e
    rw [e] at hg'
    injection hg' with hg'
    exact .inr (by omega)
theorem wpList_append_run {P : Program} {w : World} {ops : Array Oper} {rest : List Oper} {o : Oper} {a : Act} {Q : Exit → Act → World → Prop} (hgd : o.guard = none) (s x : Operand) (t t' : TypeId)
    (ho : o.op = .call { callee := .builtin .append, args := #[s, x], argTypes := #[t, t'] }) (v f : Value) (hs : a.eval s = v) (hx : a.eval x = f) (v2 : Value) (w2 : World) (hrun : (Builtin.append_ #[t, t'] o.type #[v, f]).run P w = .ok v2 w2)
    (h : wpList P ops Q rest (a.put o.dst v2) w2) : wpList P ops Q (o :: rest) a w := by
  refine wpList_plain hgd fun K hK => ?_
  unfold Oper.wp
  simp [execOp, ho, resolve, invoke, builtin, hs, hx, hrun, Result.andThen]
  exact hK _ _ h
/-- numbers in memory -/
def Nums (w : World) (v : Value) (l : List Int) : Prop := ∃ ao cap, v = .slice ao l.length cap ∧ (0 < l.length → ∃ g off, ao = some ⟨g, off, none⟩ ∧ g < w.heap.size ∧ ∀ (j : Nat) n, l[j]? = some n → w.cell? ⟨g, off + j, none⟩ = some (.int .i64 n))
theorem Nums.kept {w w' : World} {v : Value} {l : List Int} (h : Nums w v l) (hs : w.heap.size ≤ w'.heap.size) (hb : ∀ g off c, v = .slice (some ⟨g, off, none⟩) l.length c → w'.heap[g]? = w.heap[g]?) : Nums w' v l := by
  obtain ⟨ao, cap, e, h⟩ := h
  refine ⟨ao, cap, e, fun h0 => ?_⟩
  obtain ⟨g, off, e1, hg, hc⟩ := h h0
  subst e1
  exact ⟨g, off, rfl, Nat.lt_of_lt_of_le hg hs, fun j n hj => (World.cell?_of_block (a := ⟨g, off + j, none⟩) (hb g off cap e)).trans (hc j n hj)⟩
theorem Nums.below {w w' : World} {v : Value} {l : List Int} (h : Nums w v l) (hb : Below w.heap.size w w') : Nums w' v l := by
  obtain ⟨ao, cap, e, h⟩ := h
  refine ⟨ao, cap, e, fun h0 => ?_⟩
  obtain ⟨g, off, e1, hg, hc⟩ := h h0
  exact ⟨g, off, e1, Nat.lt_of_lt_of_le hg hb.size, fun j n hj => (hb.cell (p := ⟨g, off + j, none⟩) hg).trans (hc j n hj)⟩
def zs (l : List Nat) : List Int := l.map fun n : Nat => (n : Int)
theorem zs_len (l : List Nat) : (zs l).length = l.length := by simp [zs]
theorem zs_get {l : List Nat} {j n : Nat} (h : l[j]? = some n) : (zs l)[j]? = some (n : Int) := by simp [zs, h]
/-- the streams of these runs, in a row of one's own -/
structure Pt (w : World) (sb : Nat) (st : Nat → List Tx) (ks : List Nat) (Ps : List (Value × List Tx)) (v : Value) (W : World) : Prop where
  own : W.ownsRow 0 136 1 v Ps.length (Ps.map (·.1))
  new : ∀ g, v.ownBlock = some g → w.heap.size ≤ g
  ls : lsOf Ps = ks.map st
  box : ∀ p ∈ Ps, ∃ bs br k, p.1 = .func (.func 128) #[] #[.pointer (some ⟨bs, 0, none⟩), .pointer (some ⟨br, 0, none⟩)] ∧ p.2 = st k ∧ k ∈ ks ∧ Boxed W bs 23 (.pointer (some ⟨sb, 0, none⟩)) ∧ Boxed W br 3 (.int .i64 k) ∧ v.ownBlock ≠ some bs ∧ v.ownBlock ≠ some br ∧ w.heap.size ≤ bs ∧ w.heap.size ≤ br
  bl : Below w.heap.size w W
theorem Pt.start (w : World) (sb : Nat) (st : Nat → List Tx) {W : World} (hb : Below w.heap.size w W) : Pt w sb st [] [] (.slice none 0 0) W :=
  ⟨⟨rfl, .inl ⟨rfl, rfl⟩⟩, (fun _ h => by cases h), rfl, (fun _ h => by cases h), hb⟩
theorem Pt.below {w W W' : World} {sb : Nat} {st : Nat → List Tx} {ks : List Nat} {Ps : List (Value × List Tx)} {v : Value} (h : Pt w sb st ks Ps v W) (hb : Below W.heap.size W W') : Pt w sb st ks Ps v W' :=
  ⟨own_kept h.own fun g hg => hb.block g (own_lt h.own hg).2, h.new, h.ls, fun p hp => by
    obtain ⟨bs, br, k, a1, a2, a3, a4, a5, a6, a7⟩ := h.box p hp
    exact ⟨bs, br, k, a1, a2, a3, (hb.block _ a4.lt).trans a4, (hb.block _ a5.lt).trans a5, a6, a7⟩, h.bl.trans (hb.mono h.bl.size)⟩
theorem Pt.push {w W W' : World} {sb : Nat} {st : Nat → List Tx} {ks : List Nat} {Ps : List (Value × List Tx)} {v v' : Value} {bs br k : Nat} (h : Pt w sb st ks Ps v W) (n1 : v.ownBlock ≠ some bs) (n2 : v.ownBlock ≠ some br) (n3 : w.heap.size ≤ bs) (n4 : w.heap.size ≤ br) (c1 : Boxed W bs 23 (.pointer (some ⟨sb, 0, none⟩))) (c2 : Boxed W br 3 (.int .i64 k))
    (ho : W'.ownsRow 0 136 1 v' (Ps.length + 1) (Ps.map (·.1) ++ [.func (.func 128) #[] #[.pointer (some ⟨bs, 0, none⟩), .pointer (some ⟨br, 0, none⟩)]])) (hc : Chg (fun b => v.ownBlock = some b) W W') (hg : ∀ g, v'.ownBlock = some g → v.ownBlock = some g ∨ W.heap.size ≤ g) :
    Pt w sb st (ks ++ [k]) (Ps ++ [(.func (.func 128) #[] #[.pointer (some ⟨bs, 0, none⟩), .pointer (some ⟨br, 0, none⟩)], st k)]) v' W' := by
  have nb : ∀ {b : Nat}, b < W.heap.size → v.ownBlock ≠ some b → v'.ownBlock ≠ some b := fun hb hn e => by
    rcases hg _ e with q | q
    · exact hn q
    · omega
  refine ⟨by simpa using ho, fun g e => ?_, ?_, fun p hp => ?_, ?_⟩
  · rcases hg g e with q | q
    · exact h.new g q
    · have := h.bl.size; omega
  · have := h.ls
    simp only [lsOf, List.map_append, List.map_cons, List.map_nil] at this ⊢
    rw [this]
  · rcases List.mem_append.1 hp with hp | hp
    · obtain ⟨bs', br', k', a1, a2, a3, a4, a5, a6, a7⟩ := h.box p hp
      exact ⟨bs', br', k', a1, a2, List.mem_append.2 (.inl a3), (hc.block _ a4.lt a6).trans a4, (hc.block _ a5.lt a7.1).trans a5, nb a4.lt a6, nb a5.lt a7.1, a7.2⟩
    · simp at hp
      subst hp
      exact ⟨bs, br, k, rfl, rfl, by simp, (hc.block _ c1.lt n1).trans c1, (hc.block _ c2.lt n2).trans c2, nb c1.lt n1, nb c2.lt n2, n3, n4⟩
  · exact h.bl.trans (hc.below (by have := h.bl.size; omega) h.new)
theorem Pt.row {w W : World} {sb : Nat} {st : Nat → List Tx} {ks : List Nat} {Ps : List (Value × List Tx)} {v : Value} (h : Pt w sb st ks Ps v W) : PRow W v Ps W.heap.size := by
  rcases h.own.2 with ⟨e1, e2⟩ | ⟨g, cap', cur, e1, hr⟩
  · exact ⟨none, 0, by rw [e1, e2], fun h => by omega⟩
  · subst e1
    refine ⟨_, _, rfl, fun _ => ⟨g, 0, rfl, (own_lt h.own (g := g) rfl).2, fun j p hj => ?_⟩⟩
    have hjl := (List.getElem?_eq_some_iff.1 hj).1
    rw [Nat.zero_add, World.ownsRow.cellAt h.own j (by omega)]
    simp [hj]
/-- a store in which these stand -/
def Kst (E : Nat → Addr) (Be sb : Nat) (st : Nat → List Tx) (ks : List Nat) (W : World) : Prop := ∃ m F, At W sb m F ∧ EnvR W E Be ∧ Be ≤ W.heap.size ∧ (∀ b, F b → Be ≤ b) ∧ ∀ k ∈ ks, Std m k (st k) ∧ k ≤ 16777216
set_option maxRecDepth 100000 in
set_option maxHeartbeats 4000000 in
theorem union_go {w : World} {E : Nat → Addr} {Be sb : Nat} {m : Sto} {F : Nat → Prop} {v : Value} {ks : List Nat} {st : Nat → List Tx} (V : EnvR w E Be) (hF : ∀ b, F b → Be ≤ b) (hB : Be ≤ w.heap.size) (h : At w sb m F) (hn : Nums w v (zs ks)) (hs : ∀ k ∈ ks, Std m k (st k)) (hk : ∀ k ∈ ks, k ≤ 16777216) (hz : ks.length ≤ 1048576) (ht : (ks.map st).flatten.length ≤ 4398040000000) :
    Calls Tryz.prog 76 #[.pointer (some ⟨sb, 0, none⟩), v] w fun e w' => ∃ gf lb, e = .returned (.tuple #[.agg #[.func (.func gf) #[] lb], .nilIface]) ∧ Sm.SkC (fun b => b < w.heap.size + 1) (Kst E Be sb st ks) w' gf lb (ofS (ks.map st).flatten) ∧ Below w.heap.size w w' := by
  have HAT : Hid (∀ U, Below w.heap.size w U → At U sb m F ∧ EnvR U E Be) := fun U hb => ⟨h.kept (fun b q => hb.block b (h.lt b q)) (fun _ x => x) (fun b q => Nat.lt_of_lt_of_le (h.lt b q) hb.size), V.below (hb.mono hB)⟩
  have HRE : Hid (∀ U k, Below w.heap.size w U → k ∈ ks → Calls Tryz.prog 111 #[.pointer (some ⟨sb, 0, none⟩), .int .i64 k] U fun e w' => ∃ bs br, e = .returned (.tuple #[.agg #[.func (.func 128) #[] #[.pointer (some ⟨bs, 0, none⟩), .pointer (some ⟨br, 0, none⟩)]], .nilIface]) ∧ Boxed w' bs 23 (.pointer (some ⟨sb, 0, none⟩)) ∧ Boxed w' br 3 (.int .i64 k) ∧ U.heap.size ≤ bs ∧ U.heap.size ≤ br ∧ Below U.heap.size U w') := fun U k hU hk' => records_go (unhide HAT U hU).2 hF (Nat.le_trans hB hU.size) (unhide HAT U hU).1 (hs k hk') (hk k hk')
  have HUN : Hid (∀ w1 U Ps v, Below w.heap.size w w1 → w1.heap.size = w.heap.size + 1 → Pt w1 sb st ks Ps v U → Calls Tryz.prog 112 #[v] U fun e w' => ∃ gf lb, e = .returned (.agg #[.func (.func gf) #[] lb]) ∧ Sm.SkC (fun b => b < w.heap.size + 1) (Kst E Be sb st ks) w' gf lb (ofS (ks.map st).flatten) ∧ Below U.heap.size U w') := fun w1 U Ps v h1 h2 p => by
    have hU := h1.trans (p.bl.mono h1.size)
    have hus := p.bl.size
    have hl : Ps.length = ks.length := by have := congrArg List.length p.ls; simpa [lsOf] using this
    have q := Sm.union_sk (D := fun b => b < w.heap.size + 1) (K := Kst E Be sb st ks) ⟨m, F, (unhide HAT U hU).1, (unhide HAT U hU).2, by omega, hF, fun k q => ⟨hs k q, hk k q⟩⟩ p.row (fun x hx => ?_) (fun b e => by omega) (by omega) (by rw [p.ls]; exact ht)
    · rw [p.ls] at q; exact q
    · obtain ⟨bs, br, k, a1, a2, a3, a4, a5, -, -, a6, a7⟩ := p.box x hx
      rw [a1, a2]
      refine ⟨fun W' c kW => ?_, (hs k a3).rs⟩
      obtain ⟨m', F', t1, t2, t3, t4, t5⟩ := kW
      obtain ⟨⟨⟨r, hl, hsh, ht⟩, hL, hx⟩, hk'⟩ := t5 k a3
      exact (records1_walks t2 t4 t1.lt t3 t1 hl hsh ht hL hx hk' (Nat.lt_of_lt_of_le a4.lt c.size) (Nat.lt_of_lt_of_le a5.lt c.size) ((c.block _ a4.lt (by omega)).trans a4) ((c.block _ a5.lt (by omega)).trans a5)).gives
  have HNM := hide hn
  obtain ⟨ao, cap, rfl, -⟩ := hn
  obtain ⟨n, hn⟩ : ∃ n, ks.length = n := ⟨_, rfl⟩
  rw [zs_len, hn] at HNM ⊢
  have HN := hide hn
  have hzn : n ≤ 1048576 := by omega
  clear V hF h hs hk ht HAT hz hn
  go_enter Tryz.func76, Tryz.ntmps76
  go_wp2
  obtain ⟨w1, hw1⟩ : ∃ w1, w1 = w.alloc (.cells #[.nilFunc] 136) := ⟨_, rfl⟩
  have x1 := Boxed.new w 136 .nilFunc
  have b1 : Below w.heap.size w w1 := by rw [hw1]; exact (Below.refl _ w).alloc (Nat.le_refl _) _
  have hs1 : w1.heap.size = w.heap.size + 1 := by rw [hw1]; simp
  rw [← hw1] at x1 ⊢
  have HB1 := hide b1
  have HX1 := hide x1
  clear hw1 b1 x1
  go_loopw [6, 13] (fun s6 s13 wr => ∃ (k : Nat) (a : Option Addr) (c : Nat), s13 = .int .i64 (k : Int) ∧ k ≤ n ∧ s6 = .slice a k c ∧ Hid (∃ Ps, Pt w1 sb st (ks.take k) Ps (.slice a k c) wr)) (fun _ s13 _ => n - (intOf s13).toNat)
  case atStart => exact ⟨0, none, 0, rfl, Nat.zero_le _, rfl, [], by simpa using Pt.start w1 sb st (Below.refl _ _)⟩
  case round =>
    obtain ⟨k, a, c, rfl, hk, rfl, HP⟩ := hrel
    by_cases hkn : k < n
    · have hltz : (k : Int) < (n : Int) := by omega
      have hk0 : 0 ≤ (k : Int) := by omega
      obtain ⟨x, hx⟩ : ∃ x, ks[k]? = some x := ⟨_, List.getElem?_eq_getElem (by rw [unhide HN]; exact hkn)⟩
      obtain ⟨Ps, hp⟩ := unhide HP
      have hbl : Below w.heap.size w wr := (unhide HB1).trans (hp.bl.mono (unhide HB1).size)
      obtain ⟨ao', cap', e1, hat⟩ := (unhide HNM).below hbl
      obtain ⟨g, off, e2, hg, hc⟩ := hat (by rw [zs_len, unhide HN]; omega)
      have e3 : ao = ao' := by injection e1
      clear e1
      subst e3
      subst e2
      have x0 := hc k _ (zs_get hx)
      have hPl : Ps.length = k := by
        have := congrArg List.length hp.ls
        simp only [lsOf, List.length_map, List.length_take, unhide HN] at this
        omega
      have HTK : Hid (ks.take k ++ [x] = ks.take (k + 1)) := by rw [Hid, List.take_add_one, hx]; rfl
      have HR := hide (unhide HRE wr x hbl (List.mem_of_getElem? hx))
      have HPT := hide hp
      have HPL := hide hPl
      clear hat hc hx hp hbl hPl HP
      go_wp2_with fail
      refine (unhide HR).mono ?_
      rintro e w2 ⟨bs, br, rfl, y1, y2, n1, n2, b2⟩
      have p2 := (unhide HPT).below b2
      have b3 : Below w2.heap.size w2 (w2.alloc (.cells #[.func (.func 128) #[] #[.pointer (some ⟨bs, 0, none⟩), .pointer (some ⟨br, 0, none⟩)]] 136)) := (Below.refl _ w2).alloc (Nat.le_refl _) _
      have p3 := p2.below b3
      have m1 : (Value.slice a k c).ownBlock ≠ some bs := fun e => by have := (own_lt (unhide HPT).own e).2; omega
      have m2 : (Value.slice a k c).ownBlock ≠ some br := fun e => by have := (own_lt (unhide HPT).own e).2; omega
      have hws := (unhide HPT).bl.size
      obtain ⟨a3, c3, W3, hrun, ho3, hc3, hg3⟩ := push_st (.func (.func 128) #[] #[.pointer (some ⟨bs, 0, none⟩), .pointer (some ⟨br, 0, none⟩)]) rfl p3.own (by have := unhide HPL; omega) 169
      have p4 := p3.push m1 m2 (by omega) (by omega) (bx_below y1 b3 y1.lt) (bx_below y2 b3 y2.lt) ho3 hc3 hg3
      rw [unhide HTK] at p4
      rw [unhide HPL] at hrun p4
      simp only [World.size_alloc] at hrun
      have HAP := hide hrun
      have HP4 := hide p4
      clear y1 y2 n1 n2 b2 p2 b3 p3 m1 m2 hrun ho3 hc3 hg3 p4 HPT HR hws
      go_wp2_with (at_builtin; refine wpList_append_run rfl _ _ 169 169 rfl _ _ rfl rfl _ _ (unhide HAP) ?_)
      go_roundw
      case rel => exact ⟨k + 1, a3, c3, by simp, by omega, rfl, _, unhide HP4⟩
      case measure => simp [intOf]; omega
    · have hkk : k = n := by omega
      subst hkk
      obtain ⟨Ps, hp⟩ := unhide HP
      rw [List.take_of_length_le (Nat.le_of_eq (unhide HN))] at hp
      have HU := hide (unhide HUN w1 wr Ps _ (unhide HB1) hs1 hp)
      have x5 := bx_below (unhide HX1) hp.bl (by omega)
      have b5 := (unhide HB1).trans (hp.bl.mono (unhide HB1).size)
      have HX5 := hide x5
      have HB5 := hide b5
      clear hp HP x5 b5
      go_wp2_with fail
      refine (unhide HU).mono ?_
      rintro e w2 ⟨gf, lb, rfl, hwk, b2⟩
      have x6 := bx_below (unhide HX5) b2 (unhide HX5).lt
      have k3 := x6.cell
      have k4 := x6.frozen
      have q3 := x6.set (.func (.func gf) #[] lb)
      obtain ⟨W, hW⟩ : ∃ W, W = w2.setCell ⟨w.heap.size, 0, none⟩ (.func (.func gf) #[] lb) := ⟨_, rfl⟩
      rw [← hW] at q3
      have bW : Below w.heap.size w W := by rw [hW]; exact ((unhide HB5).trans (b2.mono (unhide HB5).size)).setCell (p := ⟨w.heap.size, 0, none⟩) (Nat.le_refl _) _
      have hwW : Sm.SkC (fun b => b < w.heap.size + 1) (Kst E Be sb st ks) W gf lb (ofS (ks.map st).flatten) := fun W' c kW => hwk W' (((Sm.Chg.refl (fun b => b < w.heap.size + 1) w2).setCell (p := ⟨w.heap.size, 0, none⟩) (.inl (Nat.lt_succ_self _)) (.func (.func gf) #[] lb)).on (hW ▸ c) fun i hi => .inl hi) kW
      have HQ := hide (⟨q3, hwW, bW⟩ : _ ∧ _ ∧ _)
      clear q3 hwW bW x6 hwk b2 HU
      go_wp2
      rw [← hW]
      refine bodyPost_ret (results_st2 rfl (g := w.heap.size) rfl rfl (unhide HQ).1) rfl ?_
      exact ⟨_, _, rfl, (unhide HQ).2⟩
end Rs
end Go.Proofs.YtohfhkdhccpoaaaGreatDoor
/- Layer 10: giveAll: what a stream gives is put, text by text, up to the first refusal. -/
namespace Go.Proofs.YtohfhkdhccpoaaaGreatDoor
open Go.RowKit Go.Shelf
namespace Rs
open Sm (Tx ofS Walks WalksC Fit Serves Ended Inv lt lt_def bx_below range_lawC bodyP)
attribute [local go_sem] Oper.semAt_some

/-- a writer at work: the store, the writer, the function that puts, the answer to be -/
structure GC (w : World) (E : Nat → Addr) (F G : Nat → Prop) (sb wb : Nat) (fv ev : Value) (m : Sto) (x : Wri) (T : Nat → Prop) (W : World) : Prop where
  ex : ∃ F' G' bv, At W sb m F' ∧ WIn W E sb wb x G' bv ∧ (∀ b, F' b → ¬ G' b) ∧ (∀ b, F' b → F b ∨ w.heap.size + 3 ≤ b) ∧ (∀ b, G' b → G b ∨ w.heap.size + 3 ≤ b) ∧ (∀ b, T b ↔ F' b ∨ G' b ∨ b = w.heap.size + 1 ∨ b = w.heap.size + 1 + 1)
  bf : Boxed W (w.heap.size + 1) 84 fv
  be : Boxed W (w.heap.size + 1 + 1) 38 ev
theorem GC.foot {w W : World} {E : Nat → Addr} {F G T : Nat → Prop} {sb wb : Nat} {fv ev : Value} {m : Sto} {x : Wri} (h : GC w E F G sb wb fv ev m x T W) {b : Nat} (hb : T b) : 0 ≤ b ∧ b < W.heap.size := by
  obtain ⟨⟨F', G', bv, h1, h2, _, _, _, e⟩, h3, h4⟩ := h
  refine ⟨Nat.zero_le _, ?_⟩
  rcases (e b).1 hb with q | q | q | q
  · exact h1.lt b q
  · exact h2.lt b q
  · subst q; exact h3.lt
  · subst q; exact h4.lt
theorem GC.kept {w W W' : World} {E : Nat → Addr} {F G T : Nat → Prop} {sb wb : Nat} {fv ev : Value} {m : Sto} {x : Wri} (h : GC w E F G sb wb fv ev m x T W) (hs : W.heap.size ≤ W'.heap.size) (hk : ∀ b, T b → W'.heap[b]? = W.heap[b]?) : GC w E F G sb wb fv ev m x T W' := by
  obtain ⟨⟨F', G', bv, h1, h2, h5, h6, h7, e⟩, h3, h4⟩ := h
  refine ⟨⟨F', G', bv, h1.kept (fun b q => hk b ((e b).2 (.inl q))) (fun _ x => x) (fun b q => Nat.lt_of_lt_of_le (h1.lt b q) hs), h2.kept (fun b q => hk b ((e b).2 (.inr (.inl q)))) (fun _ x => x) (fun b q => Nat.lt_of_lt_of_le (h2.lt b q) hs), h5, h6, h7, e⟩, ?_, ?_⟩
  · exact (hk _ ((e _).2 (.inr (.inr (.inl rfl))))).trans h3
  · exact (hk _ ((e _).2 (.inr (.inr (.inr rfl))))).trans h4
theorem GC.abide {w W W' : World} {E : Nat → Addr} {F G T : Nat → Prop} {sb wb : Nat} {fv ev : Value} {m : Sto} {x : Wri} (h : GC w E F G sb wb fv ev m x T W) (c : Sm.Chg (fun b => ¬ T b) W W') : GC w E F G sb wb fv ev m x T W' :=
  h.kept c.size fun b hb => c.block b (h.foot hb).2 fun q => q hb
theorem GC.setE {w W : World} {E : Nat → Addr} {F G T : Nat → Prop} {sb wb : Nat} {fv ev : Value} {m : Sto} {x : Wri} (h : GC w E F G sb wb fv ev m x T W) (hF : ∀ b, F b → b < w.heap.size) (hG : ∀ b, G b → b < w.heap.size) (ev' : Value) : GC w E F G sb wb fv ev' m x T (W.setCell ⟨w.heap.size + 1 + 1, 0, none⟩ ev') := by
  obtain ⟨⟨F', G', bv, h1, h2, h5, h6, h7, e⟩, h3, h4⟩ := h
  have n1 : ∀ b, F' b → b ≠ w.heap.size + 1 + 1 := fun b q => by rcases h6 b q with z | z; have := hF b z; omega; omega
  have n2 : ∀ b, G' b → b ≠ w.heap.size + 1 + 1 := fun b q => by rcases h7 b q with z | z; have := hG b z; omega; omega
  refine ⟨⟨F', G', bv, h1.kept (fun b q => Below.heap_setCell _ _ _ _ (n1 b q)) (fun _ x => x) (fun b q => by simpa using h1.lt b q), h2.kept (fun b q => Below.heap_setCell _ _ _ _ (n2 b q)) (fun _ x => x) (fun b q => by simpa using h2.lt b q), h5, h6, h7, e⟩, ?_, h4.set ev'⟩
  exact h3.other (B' := w.heap.size + 1 + 1) (by omega) ev'
/-- behind a call of Put -/
theorem GC.put {w W w2 : World} {E : Nat → Addr} {F G T F' G' : Nat → Prop} {sb wb : Nat} {fv ev : Value} {m' : Sto} {x' : Wri} (hs : w.heap.size + 3 ≤ W.heap.size) (h6 : ∀ b, F' b → F b ∨ w.heap.size + 3 ≤ b) (h7 : ∀ b, G' b → G b ∨ w.heap.size + 3 ≤ b) (hF : ∀ b, F b → b < w.heap.size) (hG : ∀ b, G b → b < w.heap.size) (e : ∀ b, T b ↔ F' b ∨ G' b ∨ b = w.heap.size + 1 ∨ b = w.heap.size + 1 + 1) (h3 : Boxed W (w.heap.size + 1) 84 fv) (h4 : Boxed W (w.heap.size + 1 + 1) 38 ev)
    (o : Obj) (r : WRes F' G' (W.alloc o) E sb wb m' x' w2) : ∃ T', Sm.Chg T W w2 ∧ (∀ b, T' b → Sm.Up T W w2 b) ∧ GC w E F G sb wb fv ev m' x' T' w2 := by
  obtain ⟨F2, G2, bv2, k1, k2, k3, k4, k5, c⟩ := r
  have hs2 := c.size
  rw [World.size_alloc] at hs2
  have cc : Sm.Chg (fun b => F' b ∨ G' b) W w2 := ((Sm.Chg.refl _ W).alloc o).on (smc c) fun i hi => .inl hi
  have nw : ∀ b, b < w.heap.size + 3 → w.heap.size ≤ b → ¬ (F' b ∨ G' b) := fun b h1 h2 q => by
    rcases q with q | q
    · rcases h6 b q with z | z
      · have := hF b z; omega
      · omega
    · rcases h7 b q with z | z
      · have := hG b z; omega
      · omega
  refine ⟨fun b => F2 b ∨ G2 b ∨ b = w.heap.size + 1 ∨ b = w.heap.size + 1 + 1, cc.mono fun b q => (e b).2 (q.elim .inl fun z => .inr (.inl z)), fun b q => ?_, ⟨F2, G2, bv2, k1, k2, k3, fun b q => ?_, fun b q => ?_, fun b => Iff.rfl⟩, ?_, ?_⟩
  · rcases q with q | q | q | q
    · rcases k4 b q with z | z
      · exact .inl ((e b).2 (.inl z))
      · rw [World.size_alloc] at z; exact .inr ⟨by omega, z.2⟩
    · rcases k5 b q with z | z
      · exact .inl ((e b).2 (.inr (.inl z)))
      · rw [World.size_alloc] at z; exact .inr ⟨by omega, z.2⟩
    · exact .inl ((e b).2 (.inr (.inr (.inl q))))
    · exact .inl ((e b).2 (.inr (.inr (.inr q))))
  · rcases k4 b q with z | z
    · exact h6 b z
    · rw [World.size_alloc] at z; exact .inr (by omega)
  · rcases k5 b q with z | z
    · exact h7 b z
    · rw [World.size_alloc] at z; exact .inr (by omega)
  · exact (cc.block _ h3.lt (nw _ (by omega) (by omega))).trans h3
  · exact (cc.block _ h4.lt (nw _ (by omega) (by omega))).trans h4
theorem GC.res {w V W W' : World} {E : Nat → Addr} {F G T : Nat → Prop} {sb wb : Nat} {fv ev : Value} {m : Sto} {x : Wri} (h : GC w E F G sb wb fv ev m x T W) (hV : Below w.heap.size w V) (hc : Sm.Chg (fun b => F b ∨ G b ∨ b = w.heap.size + 1 ∨ b = w.heap.size + 1 + 1) V W') (hs : W.heap.size ≤ W'.heap.size) (hk : ∀ b, T b → W'.heap[b]? = W.heap[b]?) : WRes F G w E sb wb m x W' := by
  obtain ⟨⟨F', G', bv, h1, h2, h5, h6, h7, e⟩, -, -⟩ := h.kept hs hk
  refine ⟨F', G', bv, h1, h2, h5, fun b q => ?_, fun b q => ?_, ?_⟩
  · rcases h6 b q with z | z
    · exact .inl z
    · exact .inr ⟨by omega, h1.lt b q⟩
  · rcases h7 b q with z | z
    · exact .inl z
    · exact .inr ⟨by omega, h2.lt b q⟩
  · exact ⟨hc.os.trans hV.os, hc.tape.trans hV.tape, hc.output.trans hV.output, Nat.le_trans hV.size hc.size, fun i hi hn => (hc.block i (Nat.lt_of_lt_of_le hi hV.size) (fun q => by
      rcases q with q | q | q | q
      · exact hn (.inl q)
      · exact hn (.inr q)
      · omega
      · omega)).trans (hV.block i hi)⟩
theorem results_err10 {fn : Func} {p : Tmp} (h : fn.results = #[.cell p 38]) {tmps : Array Value} {w : World} {g : Nat} {v : Value} (hp : tmps.getD p undef = .pointer (some ⟨g, 0, none⟩)) (hc : Boxed w g 38 v) :
    (results fn tmps).run Tryz.prog w = .ok v w := by
  have hp' : tmps[p]?.getD undef = .pointer (some ⟨g, 0, none⟩) := by simpa using hp
  have u4 := Tryz.underlying38
  have hc' := hc.cell
  simp [results, h, hp', asAddr, go_sem, hc']
theorem enters_put (wb : Nat) (v : Value) (W : World) : (callFunc 79 #[.pointer (some ⟨wb, 0, none⟩), v]).run Tryz.prog W = .ok (.enter 79 #[.pointer (some ⟨wb, 0, none⟩), v]) W := enters_of Tryz.func79 (by kernel_rfl) rfl _ _
/-- what is put of a writer that is new: the failure, the store, the rest -/
def gw (n : Nat) (m : Sto) (L : List Tx) : Nat × Sto × List UInt8 := wputs n 512 m (Um.frs (Um.rl L))
theorem gw_snoc (n : Nat) (m : Sto) (pre : List Tx) (x : Tx) (h : (gw n m pre).1 = 0) : wputs n 512 (gw n m pre).2.1 ((gw n m pre).2.2 ++ Um.frs (Um.rl [x])) = gw n m (pre ++ [x]) := by
  have e : Um.frs (Um.rl (pre ++ [x])) = Um.frs (Um.rl pre) ++ Um.frs (Um.rl [x]) := by simp [Um.rl, Um.frs_app]
  unfold gw at h ⊢
  rw [e]
  exact ((wputs_cat _ n 512 m _ (Um.frs (Um.rl [x])) (Nat.le_refl _) (by decide)).1 h).symm
theorem gw_stop (n : Nat) (m : Sto) {pre L : List Tx} (hp : pre <+: L) (h : (gw n m pre).1 ≠ 0) : (gw n m L).1 = (gw n m pre).1 ∧ (gw n m L).2.1 = (gw n m pre).2.1 := by
  obtain ⟨t, rfl⟩ := hp
  have e : Um.frs (Um.rl (pre ++ t)) = Um.frs (Um.rl pre) ++ Um.frs (Um.rl t) := by simp [Um.rl, Um.frs_app]
  unfold gw at h ⊢
  rw [e]
  exact (wputs_cat _ n 512 m _ (Um.frs (Um.rl t)) (Nat.le_refl _) (by decide)).2 h
def GI (w : World) (E : Nat → Addr) (F G : Nat → Prop) (sb wb n : Nat) (fv : Value) (m : Sto) (pre : List Tx) (T : Nat → Prop) (W : World) : Prop :=
  (gw n m pre).1 = 0 ∧ GC w E F G sb wb fv .nilIface (gw n m pre).2.1 ⟨n, 512, (gw n m pre).2.2, 0⟩ T W
def GX (w : World) (E : Nat → Addr) (F G : Nat → Prop) (sb wb n : Nat) (fv : Value) (m : Sto) (c : Code) (pre : List Tx) (T : Nat → Prop) (W : World) : Prop :=
  c = .ret ∧ (gw n m pre).1 ≠ 0 ∧ GC w E F G sb wb fv (er E (gw n m pre).1) (gw n m pre).2.1 ⟨n, 512, [], (gw n m pre).1⟩ T W
theorem GI.fit {w : World} {E : Nat → Addr} {F G : Nat → Prop} {sb wb n : Nat} {fv : Value} {m : Sto} : Fit 0 (GI w E F G sb wb n fv m) := ⟨fun h hb => h.2.foot hb, fun h c => ⟨h.1, h.2.abide c⟩⟩
theorem GX.fit {w : World} {E : Nat → Addr} {F G : Nat → Prop} {sb wb n : Nat} {fv : Value} {m : Sto} (c : Code) : Fit 0 (GX w E F G sb wb n fv m c) := ⟨fun h hb => h.2.2.foot hb, fun h k => ⟨h.1, h.2.1, h.2.2.abide k⟩⟩
set_option maxRecDepth 100000 in
set_option maxHeartbeats 4000000 in
theorem give_go {w : World} {E : Nat → Addr} {Be sb wb n : Nat} {m : Sto} {F G : Nat → Prop} {bv : Value} {gf : FuncId} {lb : Array Value} {L : List Tx} (V : Env w E Be) (hF : ∀ b, F b → Be ≤ b) (hG : ∀ b, G b → Be ≤ b) (hB : Be ≤ w.heap.size) (h : At w sb m F) (hw : WIn w E sb wb ⟨n, 512, [], 0⟩ G bv) (hd : ∀ b, F b → ¬ G b) (hrun : n ≤ 16777216) (hk : WalksC Tryz.prog gf lb L w.heap.size 0 w) (hx : ∀ x ∈ L, x.size ≤ 255) :
    Calls Tryz.prog 78 #[.agg #[.func (.func gf) #[] lb], .func (.func 79) #[.pointer (some ⟨wb, 0, none⟩)] #[]] w fun e w' => e = .returned (errV E (gw n m L).1) ∧ WRes F G w E sb wb (gw n m L).2.1 (putX ⟨n, 512, [], 0⟩ (gw n m L).1 (gw n m L).2.2) w' := by
  have HV := hide V
  have HFB := hide hF
  have HGB := hide hG
  have HX := hide hx
  have hFl : ∀ b, F b → b < w.heap.size := h.lt
  have hGl : ∀ b, G b → b < w.heap.size := hw.lt
  have HFL := hide hFl
  have HGL := hide hGl
  have HPE := enters_put wb
  have HK := hide hk
  have H0 : Hid (∀ V, Below w.heap.size w V → Boxed V (w.heap.size + 1) 84 (.func (.func 79) #[.pointer (some ⟨wb, 0, none⟩)] #[]) → Boxed V (w.heap.size + 1 + 1) 38 .nilIface → GI w E F G sb wb n (.func (.func 79) #[.pointer (some ⟨wb, 0, none⟩)] #[]) m [] (fun b => F b ∨ G b ∨ b = w.heap.size + 1 ∨ b = w.heap.size + 1 + 1) V) := fun V hV y1 y2 => by
    have e0 : gw n m [] = (0, m, []) := by unfold gw; rw [show Um.frs (Um.rl []) = [] from rfl, wputs_stop (by decide)]
    refine ⟨by rw [e0], ?_⟩
    rw [e0]
    exact ⟨⟨F, G, bv, h.kept (fun b q => hV.block b (h.lt b q)) (fun _ x => x) (fun b q => Nat.lt_of_lt_of_le (h.lt b q) hV.size), hw.below hV, hd, fun _ q => .inl q, fun _ q => .inl q, fun _ => Iff.rfl⟩, y1, y2⟩
  clear V hF hG hx hk h hw hd hFl hGl
  refine (callsIn_wide (n := 8)).1 ?_
  refine callsIn_of_wp_marks Tryz.func78 rfl trivial ?_ rfl
  simp only [Tryz.ntmps78, List.size_toArray, List.length_cons, List.length_nil, Nat.reduceAdd, Nat.reduceSub, Array.replicate_succ, Array.replicate_zero, List.push_toArray, List.append_toArray, List.nil_append, List.cons_append]
  gi_wp2_with (refine ⟨trivial, ?_⟩; gi_at_call 114; refine (callsIn_wide.2 (Sm.all_fn gf lb _)).mono ?_; rintro e w' ⟨rfl, rfl⟩)
  refine Sm.gen_in ?_
  intro V hV
  have y1 : Boxed V (w.heap.size + 1) 84 (.func (.func 79) #[.pointer (some ⟨wb, 0, none⟩)] #[]) := by
    have := ((Boxed.new (w.alloc (.cells #[.func (.func gf) #[] lb] 136)) 84 (.func (.func 79) #[.pointer (some ⟨wb, 0, none⟩)] #[])).alloc (.cells #[.nilIface] 38)).alloc (.cells #[.func (.func gf) #[] lb] 136)
    rw [World.size_alloc] at this
    rw [hV]; exact this
  have y2 : Boxed V (w.heap.size + 1 + 1) 38 .nilIface := by
    have := (Boxed.new ((w.alloc (.cells #[.func (.func gf) #[] lb] 136)).alloc (.cells #[(.func (.func 79) #[.pointer (some ⟨wb, 0, none⟩)] #[])] 84)) 38 .nilIface).alloc (.cells #[.func (.func gf) #[] lb] 136)
    rw [World.size_alloc, World.size_alloc] at this
    rw [hV]; exact this
  have hVw : Below w.heap.size w V := by rw [hV]; (repeat (first | exact Below.refl _ _ | refine Below.drew ?_ | refine Below.alloc ?_ (by first | (simp; done) | (simp; omega)) _ | refine Below.setCell ?_ (by first | (simp; done) | (simp; omega)) _))
  have hVs : w.heap.size + 4 ≤ V.heap.size := by rw [hV]; simp
  clear hV
  have i0 := unhide H0 V hVw y1 y2
  clear H0 y1 y2
  refine range_lawC (unhide HK) rfl hVw (by omega) (Nat.zero_le _) rfl (GI w E F G sb wb n (.func (.func 79) #[.pointer (some ⟨wb, 0, none⟩)] #[]) m) (GX w E F G sb wb n (.func (.func 79) #[.pointer (some ⟨wb, 0, none⟩)] #[]) m) GI.fit GX.fit (fun b => F b ∨ G b ∨ b = w.heap.size + 1 ∨ b = w.heap.size + 1 + 1) i0
    (fun x => { tmps := #[.agg #[.func (.func gf) #[] lb], (.func (.func 79) #[.pointer (some ⟨wb, 0, none⟩)] #[]), .pointer (some ⟨w.heap.size, 0, none⟩), .pointer (some ⟨w.heap.size + 1, 0, none⟩), .pointer (some ⟨w.heap.size + 1 + 1, 0, none⟩), .string x, undef, .agg #[.func (.func gf) #[] lb], .func (.func gf) #[] lb, .string x, undef, undef, undef, undef, undef, undef, undef], defers := [] }) ?assign ?body ?done ?stop
  case assign =>
    intro l x W K hK
    gi_wp2
    exact hK
  case body =>
    rintro l pre x T W ⟨hz, hc⟩ hpre hch
    have hxs : x.size ≤ 255 := unhide HX x (hpre.subset (by simp))
    have hWs := hch.size
    have hbW : Below Be w W := (hVw.mono hB).trans (hch.below (by omega) fun b q => by
      rcases q with q | q | q | q
      · exact unhide HFB b q
      · exact unhide HGB b q
      · omega
      · omega)
    have HPT : Hid (Calls Tryz.prog 79 #[.pointer (some ⟨wb, 0, none⟩), .slice (some ⟨W.heap.size, 0, none⟩) 1 1] (W.alloc (.cells #[.string x] 9)) fun e w' => e = .returned (errV E (gw n m (pre ++ [x])).1) ∧ ∃ T', Sm.Chg T W w' ∧ (∀ b, T' b → Sm.Up T W w' b) ∧ GC w E F G sb wb (.func (.func 79) #[.pointer (some ⟨wb, 0, none⟩)] #[]) .nilIface (gw n m (pre ++ [x])).2.1 (putX ⟨n, 512, (gw n m pre).2.2, 0⟩ (gw n m (pre ++ [x])).1 (gw n m (pre ++ [x])).2.2) T' w') := by
      obtain ⟨⟨F', G', bv', a1, a2, a3, a4, a5, a6⟩, b1, b2⟩ := hc
      have bA : Below W.heap.size W (W.alloc (.cells #[.string x] 9)) := (Below.refl _ W).alloc (Nat.le_refl _) _
      refine (put_go (L := [x]) ((unhide HV).below (hbW.trans (bA.mono (by omega)))) (fun b q => ?_) (fun b q => ?_) (by rw [World.size_alloc]; omega) (a1.kept (fun b q => bA.block b (a1.lt b q)) (fun _ x => x) (fun b q => Nat.lt_of_lt_of_le (a1.lt b q) bA.size)) (a2.below bA) a3 rfl hrun (txs_lit1 W x) (by simp) (Um.fit_yes fun k y hy => ?_) (by simp) _ _ _ (gw_snoc n m pre x hz)).mono ?_
      · rcases a4 b q with z | z
        · exact unhide HFB b z
        · omega
      · rcases a5 b q with z | z
        · exact unhide HGB b z
        · omega
      · obtain ⟨hk, rfl⟩ := List.getElem?_eq_some_iff.1 hy
        simp at hk
        subst hk
        exact hxs
      · rintro e w' ⟨rfl, r⟩
        exact ⟨rfl, GC.put (by omega) a4 a5 (unhide HFL) (unhide HGL) a6 b1 b2 _ r⟩
    have k1 := hc.bf.cell
    have hn1 := hc.bf.lt
    have HTE : Hid (T (w.heap.size + 1 + 1)) := by obtain ⟨⟨_, _, _, _, _, _, _, _, e⟩, _, _⟩ := hc; exact (e _).2 (.inr (.inr (.inr rfl)))
    obtain ⟨cc, hcc⟩ : ∃ cc, (gw n m (pre ++ [x])).1 = cc := ⟨_, rfl⟩
    rw [hcc] at HPT
    have HCC := hide hcc
    have HFIN : Hid (∀ w', cc = 0 → (∃ T', Sm.Chg T W w' ∧ (∀ b, T' b → Sm.Up T W w' b) ∧ GC w E F G sb wb (.func (.func 79) #[.pointer (some ⟨wb, 0, none⟩)] #[]) .nilIface (gw n m (pre ++ [x])).2.1 (putX ⟨n, 512, (gw n m pre).2.2, 0⟩ cc (gw n m (pre ++ [x])).2.2) T' w') → ∃ T', Sm.Chg T W w' ∧ (∀ b, T' b → Sm.Up T W w' b) ∧ GI w E F G sb wb n (.func (.func 79) #[.pointer (some ⟨wb, 0, none⟩)] #[]) m (pre ++ [x]) T' w') := fun w' h0 hh => by
      obtain ⟨T', c1, u1, g1⟩ := hh
      subst h0
      exact ⟨T', c1, u1, hcc, g1⟩
    clear hc hch hpre hcc hbW hxs
    rcases cc with _ | cc
    · rw [errV_zero] at HPT
      gi_wp2_with (refine ⟨trivial, ?_⟩; gi_at_call 79; refine (CallsIn.inRound l (callsIn_wide.2 (unhide HPT))).mono ?_; rintro e w9 ⟨rfl, hg9⟩; have HG9 := hide (unhide HFIN w9 rfl hg9); clear hg9)
      exact unhide HG9
    · rw [errV_pos E (Nat.succ_ne_zero cc)] at HPT
      have HFX : Hid (∀ w9 T', Sm.Chg T W w9 → (∀ b, T' b → Sm.Up T W w9 b) → GC w E F G sb wb (.func (.func 79) #[.pointer (some ⟨wb, 0, none⟩)] #[]) .nilIface (gw n m (pre ++ [x])).2.1 (putX ⟨n, 512, (gw n m pre).2.2, 0⟩ (cc + 1) (gw n m (pre ++ [x])).2.2) T' w9 → ∃ T'', Sm.Chg T W (w9.setCell ⟨w.heap.size + 1 + 1, 0, none⟩ (er E (cc + 1))) ∧ (∀ b, T'' b → Sm.Up T W (w9.setCell ⟨w.heap.size + 1 + 1, 0, none⟩ (er E (cc + 1))) b) ∧ GX w E F G sb wb n (.func (.func 79) #[.pointer (some ⟨wb, 0, none⟩)] #[]) m .ret (pre ++ [x]) T'' (w9.setCell ⟨w.heap.size + 1 + 1, 0, none⟩ (er E (cc + 1)))) := fun w9 T' c1 u1 g1 => by
        have g2 := g1.setE (unhide HFL) (unhide HGL) (er E (cc + 1))
        rw [putX_no (Nat.succ_ne_zero cc)] at g2
        refine ⟨T', c1.setCell (p := ⟨w.heap.size + 1 + 1, 0, none⟩) (.inl ?_) _, fun b hb => by simpa [Sm.Up] using u1 b hb, rfl, by rw [unhide HCC]; exact Nat.succ_ne_zero cc, ?_⟩
        · exact unhide HTE
        · rw [unhide HCC]; exact g2
      unfold er at HPT HFX
      gi_wp2_with (refine ⟨trivial, ?_⟩; gi_at_call 79; refine (CallsIn.inRound l (callsIn_wide.2 (unhide HPT))).mono ?_; rintro e w9 ⟨rfl, T', c9, u9, g9⟩; have k2 := g9.be.cell; have k3 := g9.be.frozen; have HG9 := hide (unhide HFX w9 T' c9 u9 g9); clear c9 u9 g9)
      exact unhide HG9
  case done =>
    rintro D T W hD hTD ⟨hz, hc⟩ hch hup hK
    have hc2 := hc.setE (unhide HFL) (unhide HGL) .nilIface
    have k2 := hc.be.cell
    have k3 := hc.be.frozen
    have hTe : T (w.heap.size + 1 + 1) := by obtain ⟨⟨_, _, _, _, _, _, _, _, e⟩, _, _⟩ := hc; exact (e _).2 (.inr (.inr (.inr rfl)))
    have hK2 : (W.setCell ⟨w.heap.size + 1 + 1, 0, none⟩ .nilIface).heap[D]? = some (.deferred (some [])) := (Below.heap_setCell _ _ _ _ (by show D ≠ w.heap.size + 1 + 1; intro e; rw [← e] at hTe; exact hTD hTe)).trans hK
    obtain ⟨W2, hW2⟩ : ∃ W2, W2 = W.setCell ⟨w.heap.size + 1 + 1, 0, none⟩ .nilIface := ⟨_, rfl⟩
    have hch2 : Sm.Chg (fun b => F b ∨ G b ∨ b = w.heap.size + 1 ∨ b = w.heap.size + 1 + 1) V W2 := by rw [hW2]; exact hch.setCell (p := ⟨w.heap.size + 1 + 1, 0, none⟩) (.inl (.inr (.inr (.inr rfl)))) _
    rw [← hW2] at hc2 hK2
    have HF2 : Hid (∀ o, Boxed (W2.putObj D o) (w.heap.size + 1 + 1) 38 .nilIface ∧ WRes F G w E sb wb (gw n m L).2.1 (putX ⟨n, 512, [], 0⟩ (gw n m L).1 (gw n m L).2.2) (W2.putObj D o)) := fun o => by
      have hne : ∀ b, T b → (W2.putObj D o).heap[b]? = W2.heap[b]? := fun b hb => World.putObj_heap_other (fun e => hTD (e ▸ hb))
      refine ⟨(hne _ hTe).trans hc2.be, ?_⟩
      rw [hz, show putX ⟨n, 512, [], 0⟩ 0 (gw n m L).2.2 = ⟨n, 512, (gw n m L).2.2, 0⟩ from rfl]
      exact hc2.res hVw (hch2.putObj (.inr (by omega)) o) (Nat.le_of_eq (Sm.putObj_size _ _ _).symm) hne
    have HZ := hide hz
    clear hc hc2 hch hch2 hup hTe hz
    gi_wp2
    rw [← hW2]
    refine ⟨by simp, .inl ⟨_, _, rfl, run_takeDeferred hK2, ?_⟩⟩
    refine ⟨_, results_err10 rfl (g := w.heap.size + 1 + 1) rfl (unhide HF2 _).1, ?_, (unhide HF2 _).2⟩
    rw [unhide HZ]; rfl
  case stop =>
    rintro D c pre T W hD hTD hpre ⟨rfl, hz, hc⟩ hch hup hK
    have hTe : T (w.heap.size + 1 + 1) := by obtain ⟨⟨_, _, _, _, _, _, _, _, e⟩, _, _⟩ := hc; exact (e _).2 (.inr (.inr (.inr rfl)))
    obtain ⟨s1, s2⟩ := gw_stop n m hpre hz
    have HF2 : Hid (∀ o, Boxed (W.putObj D o) (w.heap.size + 1 + 1) 38 (er E (gw n m pre).1) ∧ WRes F G w E sb wb (gw n m L).2.1 (putX ⟨n, 512, [], 0⟩ (gw n m L).1 (gw n m L).2.2) (W.putObj D o)) := fun o => by
      have hne : ∀ b, T b → (W.putObj D o).heap[b]? = W.heap[b]? := fun b hb => World.putObj_heap_other (fun e => hTD (e ▸ hb))
      refine ⟨(hne _ hTe).trans hc.be, ?_⟩
      rw [s1, s2, putX_no hz]
      exact hc.res hVw (hch.putObj (.inr (by omega)) o) (Nat.le_of_eq (Sm.putObj_size _ _ _).symm) hne
    have HZ : Hid (er E (gw n m pre).1 = errV E (gw n m L).1) := by rw [Hid, s1, errV_pos E hz]
    clear hc hch hup hTe hz s1 s2
    gi_wp2
    refine ⟨by simp, .inl ⟨_, _, rfl, run_takeDeferred hK, ?_⟩⟩
    refine ⟨_, results_err10 rfl (g := w.heap.size + 1 + 1) rfl (unhide HF2 _).1, ?_, (unhide HF2 _).2⟩
    rw [unhide HZ]
end Rs
end Go.Proofs.YtohfhkdhccpoaaaGreatDoor
/- Layer 10: join: a new run of all that stands in some runs. -/
namespace Go.Proofs.YtohfhkdhccpoaaaGreatDoor
open Go.RowKit Go.Shelf
namespace Rs
open Sm (Tx ofS WalksC bx_below)

theorem Res.pre {F : Nat → Prop} {w w2 w3 : World} {sb : Nat} {m : Sto} (h : Res F w2 sb m w3) (hb : Below w.heap.size w w2) (hF : ∀ b, F b → b < w.heap.size) : Res F w sb m w3 := by
  obtain ⟨h1, c⟩ := h
  refine ⟨h1.kept (fun _ _ => rfl) (fun b q => ?_) (fun b q => ?_), ?_⟩
  · rcases q with q | q
    · exact .inl q
    · exact .inr ⟨Nat.le_trans hb.size q.1, q.2⟩
  · rcases q with q | q
    · exact Nat.lt_of_lt_of_le (hF b q) (Nat.le_trans hb.size c.size)
    · exact q.2
  · exact ⟨c.os.trans hb.os, c.tape.trans hb.tape, c.output.trans hb.output, Nat.le_trans hb.size c.size, fun i hi hn => (c.block i (Nat.lt_of_lt_of_le hi hb.size) hn).trans (hb.block i hi)⟩
theorem look_more {R : List Run} {k : Int} {r x : Run} (h : look R k = some r) : look (R ++ [x]) k = some r := by
  unfold look at h ⊢
  rw [List.find?_append, h]; rfl
theorem crt_runs {m m1 : Sto} {n : Int} (h : crt m = ((n, 0), m1)) : ∃ x, m1.runs = m.runs ++ [x] := by
  unfold crt at h
  split at h
  · simp at h
  · split at h
    · simp at h
    · simp only [Prod.mk.injEq] at h
      rw [← h.2]
      exact ⟨_, rfl⟩
theorem Std.crt {m m1 : Sto} {n : Int} {k : Nat} {L : List Tx} (h : Std m k L) (hc : Rs.crt m = ((n, 0), m1)) : Std m1 k L := by
  obtain ⟨x, e⟩ := crt_runs hc
  obtain ⟨⟨r, h1, h2, h3⟩, h4, h5⟩ := h
  exact ⟨⟨r, by rw [e]; exact look_more h1, h2, h3⟩, h4, h5⟩
theorem batx_a {m m2 : Sto} {c : Nat} {L : List Tx} (h : crt m = ((0, c), m2)) (hc : c ≠ 0) : bat m L = (c, m2, 0) := by
  unfold bat
  rw [h]
  exact if_pos hc
theorem batx_b {m m1 : Sto} {n : Nat} {L : List Tx} (h : crt m = (((n : Int), 0), m1)) (hp : (gw n m1 L).1 ≠ 0) : bat m L = ((gw n m1 L).1, (rem (gw n m1 L).2.1 n).2, 0) := by
  have hn := (crt_num h).1
  have hn' : n = m.made + 1 := by omega
  subst hn'
  unfold bat
  rw [h]
  rw [if_neg (by simp)]
  unfold batN
  exact if_pos hp
theorem batx_c {m m1 : Sto} {n : Nat} {L : List Tx} (h : crt m = (((n : Int), 0), m1)) (hp : (gw n m1 L).1 = 0) (hq : (wclo n (gw n m1 L).2.1 (gw n m1 L).2.2).1 ≠ 0) : bat m L = ((wclo n (gw n m1 L).2.1 (gw n m1 L).2.2).1, (rem (wclo n (gw n m1 L).2.1 (gw n m1 L).2.2).2 n).2, 0) := by
  have hn := (crt_num h).1
  have hn' : n = m.made + 1 := by omega
  subst hn'
  unfold bat
  rw [h]
  rw [if_neg (by simp)]
  unfold batN
  rw [if_neg (fun e => e hp)]
  exact if_pos hq
theorem batx_d {m m1 : Sto} {n : Nat} {L : List Tx} (h : crt m = (((n : Int), 0), m1)) (hp : (gw n m1 L).1 = 0) (hq : (wclo n (gw n m1 L).2.1 (gw n m1 L).2.2).1 = 0) : bat m L = (0, (wclo n (gw n m1 L).2.1 (gw n m1 L).2.2).2, n) := by
  have hn := (crt_num h).1
  have hn' : n = m.made + 1 := by omega
  subst hn'
  unfold bat
  rw [h]
  rw [if_neg (by simp)]
  unfold batN
  rw [if_neg (fun e => e hp)]
  exact if_neg (fun e => e hq)
/-- behind Open, and what comes of it -/
theorem join_fin {w w2 w3 w5 : World} {F F1 G1 F5 : Nat → Prop} {sb : Nat} {m5 : Sto} (hF : ∀ b, F b → b < w.heap.size) (b2 : Below w.heap.size w w2) (c3 : Chg F w2 w3) (f3 : ∀ b, F1 b → Up F w2 w3 b) (g3 : ∀ b, G1 b → w2.heap.size ≤ b) (c5 : Chg (fun b => F1 b ∨ G1 b) w3 w5) (f5 : ∀ b, F5 b → Up F1 w3 w5 b) (h5 : At w5 sb m5 F5) : Res F w sb m5 w5 := by
  have s2 := b2.size
  have s3 := c3.size
  have s5 := c5.size
  refine ⟨h5.kept (fun _ _ => rfl) (fun b q => ?_) (fun b q => ?_), ?_⟩
  · rcases f5 b q with z | z
    · rcases f3 b z with y | y
      · exact .inl y
      · exact .inr ⟨by omega, by omega⟩
    · exact .inr ⟨by omega, z.2⟩
  · rcases q with q | q
    · have := hF b q; omega
    · exact q.2
  · refine ⟨c5.os.trans (c3.os.trans b2.os), c5.tape.trans (c3.tape.trans b2.tape), c5.output.trans (c3.output.trans b2.output), by omega, fun i hi hn => ?_⟩
    rw [c5.block i (by omega) (fun q => ?_), c3.block i (by omega) hn, b2.block i hi]
    rcases q with q | q
    · rcases f3 i q with y | y
      · exact hn y
      · omega
    · have := g3 i q; omega
theorem step_fin {w3 w4 w5 : World} {F1 G1 F4 G4 F5 : Nat → Prop} (c4 : Chg (fun b => F1 b ∨ G1 b) w3 w4) (f4 : ∀ b, F4 b → Up F1 w3 w4 b) (g4 : ∀ b, G4 b → Up G1 w3 w4 b) (c5 : Chg (fun b => F4 b ∨ G4 b) w4 w5) (f5 : ∀ b, F5 b → Up F4 w4 w5 b) : Chg (fun b => F1 b ∨ G1 b) w3 w5 ∧ ∀ b, F5 b → Up F1 w3 w5 b := by
  have s4 := c4.size
  have s5 := c5.size
  refine ⟨rsc ((smc c4).on (smc c5) fun i hi => ?_), fun b q => ?_⟩
  · rcases hi with q | q
    · rcases f4 i q with z | z
      · exact .inl (.inl z)
      · exact .inr z
    · rcases g4 i q with z | z
      · exact .inl (.inr z)
      · exact .inr z
  · rcases f5 b q with z | z
    · rcases f4 b z with y | y
      · exact .inl y
      · exact .inr ⟨y.1, by omega⟩
    · exact .inr ⟨by omega, z.2⟩
theorem wclo_go {k : Int} {m m3 : Sto} {buf : List UInt8} (h : wclo k m buf = (0, m3)) : ∃ m1, (buf = [] → m1 = m) ∧ (buf ≠ [] → app m k [strB buf] = (0, m1)) ∧ sel m1 k = (0, m3) := by
  unfold wclo at h
  by_cases hb : buf = []
  · rw [if_pos hb] at h
    exact ⟨m, fun _ => rfl, fun e => absurd hb e, h⟩
  · rw [if_neg hb] at h
    by_cases h0 : (app m k [strB buf]).1 = 0
    · rw [if_pos h0] at h
      exact ⟨(app m k [strB buf]).2, fun e => absurd e hb, fun _ => Prod.ext h0 rfl, h⟩
    · rw [if_neg h0] at h
      rw [h] at h0
      exact absurd rfl h0
set_option maxRecDepth 100000 in
set_option maxHeartbeats 4000000 in
theorem join_go {w : World} {E : Nat → Addr} {Be sb : Nat} {m : Sto} {F : Nat → Prop} {v : Value} {ks : List Nat} {st : Nat → List Tx} (V : EnvR w E Be) (hF : ∀ b, F b → Be ≤ b) (hB : Be ≤ w.heap.size) (h : At w sb m F) (hn : Nums w v (zs ks)) (hs : ∀ k ∈ ks, Std m k (st k)) (hk : ∀ k ∈ ks, k ≤ 16777216) (hz : ks.length ≤ 1048576) (ht : (ks.map st).flatten.length ≤ 4398040000000) :
    Calls Tryz.prog 53 #[.pointer (some ⟨sb, 0, none⟩), v] w fun e w' => e = .returned (.tuple #[.int .i64 (bat m (ofS (ks.map st).flatten)).2.2, errV E (bat m (ofS (ks.map st).flatten)).1]) ∧ Res F w sb (bat m (ofS (ks.map st).flatten)).2.1 w' := by
  have HUN := hide (union_go V hF hB h hn hs hk hz ht)
  have hFl := h.lt
  have hx : ∀ x ∈ ofS (ks.map st).flatten, x.size ≤ 255 := fun x q => by
    obtain ⟨l, hl, hx⟩ := List.mem_flatten.1 (Sm.ofS_mem.1 q)
    obtain ⟨k, hk, rfl⟩ := List.mem_map.1 hl
    exact (hs k hk).fit x hx
  obtain ⟨L, hL⟩ : ∃ L, ofS (ks.map st).flatten = L := ⟨_, rfl⟩
  rw [hL] at HUN hx ⊢
  have HAT : Hid (∀ U, Below w.heap.size w U → At U sb m F ∧ EnvR U E Be) := fun U hb => ⟨h.kept (fun b q => hb.block b (h.lt b q)) (fun _ x => x) (fun b q => Nat.lt_of_lt_of_le (h.lt b q) hb.size), V.below (hb.mono hB)⟩
  have HKS : Hid (∀ (W : World) (m1 : Sto) (F1 : Nat → Prop) (n : Nat), Rs.crt m = (((n : Int), 0), m1) → At W sb m1 F1 → Below Be w W → (∀ b, F1 b → Be ≤ b) → Kst E Be sb st ks W) := fun W m1 F1 n hc ha hb hf => ⟨_, _, ha, V.below hb, Nat.le_trans hB hb.size, hf, fun k q => ⟨(hs k q).crt hc, hk k q⟩⟩
  have HF := hide hF
  have HFL := hide hFl
  have HX := hide hx
  clear V hF hx hs hk ht h hFl hn hz hL
  rcases hcr : crt m with ⟨⟨nn, cc⟩, m2⟩
  by_cases hcc : cc = 0
  · subst hcc
    have hnn := (crt_num hcr).1
    have hnl := (crt_num hcr).2
    obtain ⟨n, hn⟩ : ∃ n : Nat, n = m.made + 1 := ⟨_, rfl⟩
    rw [← hn] at hnn hnl
    subst hnn
    have HCR := hide hcr
    have HOP : Hid (∀ U, Below w.heap.size w U → Calls Tryz.prog 77 #[.pointer (some ⟨sb, 0, none⟩), .int .i64 512] U fun e w' => ∃ wb, e = .returned (.tuple #[.pointer (some ⟨wb, 0, none⟩), .nilIface]) ∧ ∃ F' G' bv, At w' sb m2 F' ∧ WIn w' E sb wb ⟨n, 512, [], 0⟩ G' bv ∧ (∀ b, F' b → ¬ G' b) ∧ (∀ b, F' b → Up F U w' b) ∧ (∀ b, G' b → U.heap.size ≤ b) ∧ Chg F U w') := fun U hU => open_go (unhide HAT U hU).2.toEnv (unhide HF) (unhide HAT U hU).1 (by decide) (by decide) (unhide HCR)
    clear hcr hn
    go_enter Tryz.func53, Tryz.ntmps53
    go_wp2_with fail
    refine (unhide HUN).mono ?_
    rintro e w1 ⟨gf, lb, rfl, hsk, b1⟩
    have b2 : Below w.heap.size w (w1.alloc (.cells #[.func (.func gf) #[] lb] 136)) := b1.trans (((Below.refl _ w1).alloc (Nat.le_refl _) _).mono b1.size)
    have x2 := Boxed.new w1 136 (.func (.func gf) #[] lb)
    have ho := unhide HOP _ b2
    obtain ⟨w2, hw2⟩ : ∃ w2, w2 = w1.alloc (.cells #[.func (.func gf) #[] lb] 136) := ⟨_, rfl⟩
    have c12 : Below w1.heap.size w1 w2 := by rw [hw2]; exact (Below.refl _ w1).alloc (Nat.le_refl _) _
    rw [← hw2] at b2 x2 ho
    have HO := hide ho
    have HSK := hide hsk
    have HB1 := hide b1
    have HB2 := hide b2
    have HX2 := hide x2
    have HC12 := hide c12
    clear hsk b1 b2 x2 ho c12
    go_wp2_with fail
    rw [← hw2]
    refine (unhide HO).mono ?_
    rintro e w3 ⟨wb, rfl, F1, G1, bv, a1, a2, a3, a4, a5, a6⟩
    have hBw := (unhide HB1).size
    have hs12 := (unhide HC12).size
    have hw3 := a6.size
    have f1 : ∀ b, F1 b → Be ≤ b := fun b q => by
      rcases a4 b q with z | z
      · exact unhide HF b z
      · omega
    have g1 : ∀ b, G1 b → Be ≤ b := fun b q => by have := a5 b q; omega
    have bw3 : Below Be w w3 := ((unhide HB2).mono hB).trans (a6.below (by omega) (unhide HF))
    have k3 := unhide HKS w3 m2 F1 n (unhide HCR) a1 bw3 f1
    have hwk := unhide HSK w3 ((Sm.Chg.of_below (unhide HC12)).on (smc a6) fun i hi => .inl (by have := unhide HFL i hi; omega)) k3
    have ev3 : Env w3 E Be := by obtain ⟨_, _, _, q, _⟩ := k3; exact q.toEnv
    have HEV : Hid (∀ U, Chg (fun b => F1 b ∨ G1 b) w3 U → Env U E Be) := fun U c => ev3.below (c.below (by omega) fun b q => q.elim (f1 b) (g1 b))
    have HGV := hide (give_go ev3 f1 g1 (by omega) a1 a2 a3 hnl hwk (unhide HX))
    have x3 : Boxed w3 w1.heap.size 136 (.func (.func gf) #[] lb) := (a6.block _ (unhide HX2).lt (fun q => by have := unhide HFL _ q; omega)).trans (unhide HX2)
    have k6 := x3.cell
    have HJF : Hid (∀ w5 F5 m5, Chg (fun b => F1 b ∨ G1 b) w3 w5 → (∀ b, F5 b → Up F1 w3 w5 b) → At w5 sb m5 F5 → Res F w sb m5 w5) := fun w5 F5 m5 c5 f5 h5 => join_fin (unhide HFL) (unhide HB2) a6 a4 a5 c5 f5 h5
    have HF1 := hide f1
    have HG1 := hide g1
    have hB3 : Be ≤ w3.heap.size := by omega
    clear a1 a2 a3 a4 a5 a6 f1 g1 bw3 k3 hwk ev3 x3 hBw hs12 HUN HO HSK HB1 HB2 HX2 HC12 HOP HKS HAT
    by_cases hg : (gw n m2 L).1 = 0
    · have HG0 := hide hg
      rw [hg, errV_zero] at HGV
      rw [show putX ⟨n, 512, [], 0⟩ 0 (gw n m2 L).2.2 = ⟨n, 512, (gw n m2 L).2.2, 0⟩ from rfl] at HGV
      go_wp2_with fail
      refine (unhide HGV).mono ?_
      rintro e w4 ⟨rfl, F4, G4, bv4, h4, i4, d4, f4, g4, c4⟩
      have hs4 := c4.size
      have f4b : ∀ b, F4 b → Be ≤ b := fun b q => by
        rcases f4 b q with z | z
        · exact unhide HF1 b z
        · omega
      have g4b : ∀ b, G4 b → Be ≤ b := fun b q => by
        rcases g4 b q with z | z
        · exact unhide HG1 b z
        · omega
      have ev4 := unhide HEV w4 c4
      rcases hq : wclo n (gw n m2 L).2.1 (gw n m2 L).2.2 with ⟨c2, m3⟩
      by_cases hc2 : c2 = 0
      · subst hc2
        obtain ⟨mm, q1, q2, q3⟩ := wclo_go hq
        have HCL := hide (close_go ev4 f4b g4b (by omega) h4 i4 d4 rfl hnl mm q1 q2 q3)
        have HBT := hide (batx_d (unhide HCR) (unhide HG0) (by rw [hq]))
        rw [hq] at HBT
        have HFI : Hid (∀ w5, CRes F4 G4 w4 sb wb m3 w5 → Res F w sb m3 w5) := fun w5 ⟨F5, h5, f5, _, _, c5⟩ => by
          obtain ⟨p1, p2⟩ := step_fin c4 f4 g4 c5 f5
          exact unhide HJF w5 F5 m3 p1 p2 h5
        clear h4 i4 d4 f4 g4 c4 f4b g4b ev4 hq q1 q2 q3 hs4
        go_wp2_with fail
        refine (unhide HCL).mono ?_
        rintro e w5 ⟨rfl, h5⟩
        have H5 := hide (unhide HFI w5 h5)
        clear h5
        go_wp2
        go_ret2
        rw [unhide HBT]
        exact ⟨rfl, unhide H5⟩
      · have HCL := hide (close_fail ev4 f4b g4b (by omega) h4 i4 d4 rfl hnl c2 m3 hq hc2)
        have HBT := hide (batx_c (unhide HCR) (unhide HG0) (by rw [hq]; exact hc2))
        rw [hq] at HBT
        have HFI : Hid (∀ w5, WRes F4 G4 w4 E sb wb m3 ⟨n, 512, [], c2⟩ w5 → Calls Tryz.prog 80 #[.pointer (some ⟨wb, 0, none⟩)] w5 fun e w' => e = .returned (.tuple #[]) ∧ Res F w sb (rem m3 n).2 w') := fun w5 ⟨F5, G5, bv5, h5, i5, d5, f5, g5, c5⟩ => by
          obtain ⟨p1, p2⟩ := step_fin c4 f4 g4 c5 f5
          have p3 : ∀ b, G5 b → Up G1 w3 w5 b := fun b q => by
            have := c5.size
            rcases g5 b q with z | z
            · rcases g4 b z with y | y
              · exact .inl y
              · exact .inr ⟨y.1, by omega⟩
            · exact .inr ⟨by omega, z.2⟩
          refine (drop_go (unhide HEV w5 p1) (fun b q => ?_) h5 i5 d5 hnl).mono ?_
          · rcases p2 b q with z | z
            · exact unhide HF1 b z
            · omega
          · rintro e w6 ⟨rfl, F6, h6, f6, _, _, c6⟩
            obtain ⟨r1, r2⟩ := step_fin p1 p2 p3 c6 f6
            exact ⟨rfl, unhide HJF w6 F6 _ r1 r2 h6⟩
        clear h4 i4 d4 f4 g4 c4 f4b g4b ev4 hq hs4
        have HC2 := hide hc2
        clear hc2
        unfold er at HCL
        go_wp2_with fail
        refine (unhide HCL).mono ?_
        rintro e w5 ⟨rfl, h5⟩
        have H5 := hide (unhide HFI w5 h5)
        clear h5
        go_wp2_with fail
        refine (unhide H5).mono ?_
        rintro e w6 ⟨rfl, h6⟩
        have H6 := hide h6
        clear h6
        go_wp2
        go_ret2
        rw [unhide HBT, errV_pos E (unhide HC2)]
        exact ⟨rfl, unhide H6⟩
    · have HBT := hide (batx_b (unhide HCR) hg)
      obtain ⟨cc, hcc⟩ : ∃ cc, (gw n m2 L).1 = cc := ⟨_, rfl⟩
      rw [hcc] at HBT HGV hg
      rw [errV_pos E hg, putX_no hg] at HGV
      have HC2 := hide hg
      clear hg hcc
      unfold er at HGV
      go_wp2_with fail
      refine (unhide HGV).mono ?_
      rintro e w4 ⟨rfl, F4, G4, bv4, h4, i4, d4, f4, g4, c4⟩
      have hs4 := c4.size
      have hdr : Calls Tryz.prog 80 #[.pointer (some ⟨wb, 0, none⟩)] w4 fun e w' => e = .returned (.tuple #[]) ∧ Res F w sb (rem (gw n m2 L).2.1 n).2 w' := by
        refine (drop_go (unhide HEV w4 c4) (fun b q => ?_) h4 i4 d4 hnl).mono ?_
        · rcases f4 b q with z | z
          · exact unhide HF1 b z
          · omega
        · rintro e w6 ⟨rfl, F6, h6, f6, _, _, c6⟩
          obtain ⟨r1, r2⟩ := step_fin c4 f4 g4 c6 f6
          exact ⟨rfl, unhide HJF w6 F6 _ r1 r2 h6⟩
      have H5 := hide hdr
      clear h4 i4 d4 f4 g4 c4 hdr hs4
      go_wp2_with fail
      refine (unhide H5).mono ?_
      rintro e w6 ⟨rfl, h6⟩
      have H6 := hide h6
      clear h6
      go_wp2
      go_ret2
      rw [unhide HBT, errV_pos E (unhide HC2)]
      exact ⟨rfl, unhide H6⟩
  · have hnn : nn = 0 := by
      unfold crt at hcr
      split at hcr
      · simp only [Prod.mk.injEq] at hcr; exact hcr.1.1.symm
      · split at hcr
        · simp only [Prod.mk.injEq] at hcr; exact hcr.1.1.symm
        · simp only [Prod.mk.injEq] at hcr; exact absurd hcr.1.2.symm hcc
    subst hnn
    have HOP : Hid (∀ U, Below w.heap.size w U → Calls Tryz.prog 77 #[.pointer (some ⟨sb, 0, none⟩), .int .i64 512] U fun e w' => e = .returned (.tuple #[.pointer none, er E cc]) ∧ Res F w sb m2 w') := fun U hU => (open_fail (unhide HAT U hU).2.toEnv (unhide HF) (unhide HAT U hU).1 (by decide) (by decide) hcr hcc).mono (by rintro e w' ⟨rfl, r⟩; exact ⟨rfl, r.pre hU (unhide HFL)⟩)
    have HBT := hide (batx_a (L := L) hcr hcc)
    have HC2 := hide hcc
    clear hcr hcc HKS
    unfold er at HOP
    go_enter Tryz.func53, Tryz.ntmps53
    go_wp2_with fail
    refine (unhide HUN).mono ?_
    rintro e w1 ⟨gf, lb, rfl, -, b1⟩
    have b2 : Below w.heap.size w (w1.alloc (.cells #[.func (.func gf) #[] lb] 136)) := b1.trans (((Below.refl _ w1).alloc (Nat.le_refl _) _).mono b1.size)
    have HO := hide (unhide HOP _ b2)
    clear b1 b2
    go_wp2_with fail
    refine (unhide HO).mono ?_
    rintro e w3 ⟨rfl, h3⟩
    have H6 := hide h3
    clear h3
    go_wp2
    go_ret2
    rw [unhide HBT, errV_pos E (unhide HC2)]
    exact ⟨rfl, unhide H6⟩
end Rs
end Go.Proofs.YtohfhkdhccpoaaaGreatDoor
