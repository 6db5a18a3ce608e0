/- Layer 10: removeAll; checkRuns: why some runs can't be merged. -/
import Derived.Maps.Own
import Derived.Maps.Views
import Derived.Test.YtohfhkdhccpoaaaGreatDoorGo
import Derived.Test.YtohfhkdhccpoaaaGreatDoorGj
import Derived.ArgAppend
namespace Go.Proofs.YtohfhkdhccpoaaaGreatDoor
open Go.RowKit Go.Shelf
namespace Rs
open Sm (Tx ofS)

theorem remAll_snoc (m : Sto) (l : List Nat) (k : Nat) : remAll m (l ++ [k]) = (rem (remAll m l) k).2 := by simp [remAll]
/-- not of the blocks F -/
def Off (F : Nat → Prop) (v : Value) : Prop := ∀ g off n c, v = .slice (some ⟨g, off, none⟩) n c → ¬ F g
theorem Nums.off {w w' : World} {v : Value} {l : List Int} {F : Nat → Prop} (h : Nums w v l) (ho : Off F v) (c : Chg F w w') : Nums w' v l := by
  obtain ⟨ao, cap, e, h⟩ := h
  refine ⟨ao, cap, e, fun h0 => ?_⟩
  obtain ⟨g, off, e1, hg, hc⟩ := h h0
  subst e1
  exact ⟨g, off, rfl, Nat.lt_of_lt_of_le hg c.size, fun j n hj => (World.cell?_of_block (a := ⟨g, off + j, none⟩) (c.block g hg (ho g off _ _ e))).trans (hc j n hj)⟩
set_option maxRecDepth 100000 in
set_option maxHeartbeats 2000000 in
theorem removeAll_go {w : World} {E : Nat → Addr} {Be sb : Nat} {m : Sto} {F : Nat → Prop} {v : Value} {ks : List Nat} (V : Env w E Be) (hF : ∀ b, F b → Be ≤ b) (hB : Be ≤ w.heap.size) (h : At w sb m F) (hn : Nums w v (zs ks)) (ho : Off F v) (hk : ∀ k ∈ ks, k ≤ 16777216) (hz : ks.length ≤ 16777216) :
    Calls Tryz.prog 83 #[.pointer (some ⟨sb, 0, none⟩), v] w fun e w' => e = .returned (.tuple #[]) ∧ Res F w sb (remAll m ks) w' := by
  have HNM : Hid (∀ U, Chg F w U → Nums U v (zs ks)) := fun U c => hn.off ho c
  have HRM : Hid (∀ U k m', Res F w sb m' U → k ≤ 16777216 → Calls Tryz.prog 32 #[.pointer (some ⟨sb, 0, none⟩), .int .i64 (k : Nat)] U fun e w' => e = .returned (errV E (rem m' k).1) ∧ Res F w sb (rem m' k).2 w') := fun U k m' r hk' => by
    have hs := r.2.size
    refine (remove_any r.1 ((V.below (r.2.below hB hF)).gs fun b q => ?_) (by omega) (by omega)).mono ?_
    · rcases q with q | q
      · exact hF b q
      · omega
    · rintro e w' ⟨rfl, r2⟩
      exact ⟨rfl, r.trans r2⟩
  have H0 := hide (h.res (Chg.refl F w))
  have HKK := hide hk
  obtain ⟨ao, cap, rfl, -⟩ := hn
  obtain ⟨n, hn⟩ : ∃ n, ks.length = n := ⟨_, rfl⟩
  rw [zs_len, hn] at HNM ⊢
  have HN := hide hn
  have hzn : n ≤ 16777216 := by omega
  clear V hF h hk ho hn hz
  go_enter Tryz.func83, Tryz.ntmps83
  go_wp2
  go_loopw [8] (fun s8 wr => ∃ k : Nat, s8 = .int .i64 (k : Int) ∧ k ≤ n ∧ Hid (Res F w sb (remAll m (ks.take k)) wr)) (fun s8 _ => n - (intOf s8).toNat)
  case atStart => exact ⟨0, rfl, Nat.zero_le _, H0⟩
  case round =>
    obtain ⟨k, rfl, hk, HP⟩ := hrel
    by_cases hkn : k < n
    · have hltz : (k : Int) < (n : Int) := by omega
      have hk0 : 0 ≤ (k : Int) := by omega
      obtain ⟨x, hx⟩ : ∃ x, ks[k]? = some x := ⟨_, List.getElem?_eq_getElem (by rw [unhide HN]; exact hkn)⟩
      obtain ⟨ao', cap', e1, hat⟩ := unhide HNM wr (unhide HP).2
      obtain ⟨g, off, e2, hg, hc⟩ := hat (by rw [zs_len, unhide HN]; omega)
      have e3 : ao = ao' := by injection e1
      clear e1
      subst e3
      subst e2
      have x0 := hc k _ (zs_get hx)
      have HTK : Hid (ks.take k ++ [x] = ks.take (k + 1)) := by rw [Hid, List.take_add_one, hx]; rfl
      have hr := unhide HRM wr x _ (unhide HP) (unhide HKK x (List.mem_of_getElem? hx))
      rw [← remAll_snoc, unhide HTK] at hr
      have HR := hide hr
      clear hat hc hx hr HP HTK
      go_wp2_with (go_at_call 32; refine (unhide HR).mono ?_; rintro e w2 ⟨rfl, hr2⟩; have HR2 := hide hr2; clear hr2)
      go_roundw
      case rel => exact ⟨k + 1, by simp, by omega, HR2⟩
      case measure => simp [intOf]; omega
    · have hkk : k = n := by omega
      subst hkk
      go_wp2
      go_end0
      have := unhide HP
      rw [List.take_of_length_le (Nat.le_of_eq (unhide HN))] at this
      exact ⟨rfl, this⟩

/-- a map that counts -/
def Cnt (w : World) (b n : Nat) (f : Int → Int) : Prop := ∃ D : DataW Unit, w.ownsMap Tryz.prog 3 (plainElem Tryz.prog 3) b n D ∧ Maps.IsMap D ∧ ∀ k, D.atKey (.int .i64 k) (.lit (.int .i64 0)) = .lit (.int .i64 (f k))
theorem zero3 (w : World) : (zeroValue 3).run Tryz.prog w = .ok (.int .i64 0) w := by kernel_rfl
set_option maxRecDepth 100000 in
theorem Cnt.look {w : World} {b n : Nat} {f : Int → Int} (h : Cnt w b n f) {k : Int} (h1 : -9223372036854775808 ≤ k) (h2 : k ≤ 9223372036854775807) : (Instr.lookup 133 (.map (some b)) (.int .i64 k) false).run Tryz.prog w = .ok (.int .i64 (f k)) w := by
  obtain ⟨D, ho, -, hf⟩ := h
  obtain ⟨c, hr, he, -⟩ := ho.lookup_int law3 Tryz.underlying133 Tryz.underlying3 (zero3 w) (key3 h1 h2)
  rw [hf] at he
  injection he with he
  injection he with _ he
  rw [he]
  exact hr
set_option maxRecDepth 100000 in
theorem Cnt.put {w : World} {b n : Nat} {f : Int → Int} (h : Cnt w b n f) (hn : n < maxLen) {k v : Int} (h1 : -9223372036854775808 ≤ k) (h2 : k ≤ 9223372036854775807) (h3 : -9223372036854775808 ≤ v) (h4 : v ≤ 9223372036854775807) :
    ∃ w', (Instr.mapUpdate 133 (.map (some b)) (.int .i64 k) (.int .i64 v)).run Tryz.prog w = .ok () w' ∧ Cnt w' b (n + 1) (fun x => if x = k then v else f x) ∧ w.grownBy w' (some b) := by
  obtain ⟨D, ho, hm, hf⟩ := h
  have hwf : (Lit.int .i64 v).wf = true := WalkArith.wf_i64 (by omega)
  obtain ⟨w', hr, ho', hg⟩ := ho.update (t := 133) (e := 3) (val := .int .i64 v) (d := .lit (.int .i64 v)) (ps := []) law3 Tryz.underlying133 hn (key3 h1 h2) (plainElem_int Tryz.underlying3 hwf)
  refine ⟨w', hr, ⟨_, ho', hm.put _ _, fun x => ?_⟩, hg⟩
  by_cases e : x = k
  · subst e
    rw [Maps.atKey_put_same hm (by trivial)]
    simp
  · rw [Maps.atKey_put_other (fun q => e (by injection q)), hf]
    simp [e]
theorem Cnt.made (w : World) : Cnt (w.alloc (.map #[] 0)) w.heap.size 0 (fun _ => 0) := ⟨_, World.ownsMap_made w _ _ _, Maps.isMap_empty, fun _ => rfl⟩
theorem Cnt.below {w w' : World} {b n : Nat} {f : Int → Int} (h : Cnt w b n f) (hb : Below w.heap.size w w') : Cnt w' b n f := by
  obtain ⟨D, ho, r⟩ := h
  refine ⟨D, ?_, r⟩
  have hlt := ho.lt
  obtain ⟨es, clock, h1, h2⟩ := ho
  exact ⟨es, clock, (hb.block b hlt).trans h1, h2⟩
theorem Cnt.lt {w : World} {b n : Nat} {f : Int → Int} (h : Cnt w b n f) : b < w.heap.size := by
  obtain ⟨D, ho, r⟩ := h
  exact ho.lt
/-- why these runs can't be merged: the failure, or 0 -/
def chk (m : Sto) : List Int → List Int → Nat
  | _, [] => 0
  | seen, k :: t => if (rea m k 0 0).2 ≠ 0 then (rea m k 0 0).2 else if k ∈ seen then 12 else chk m (seen ++ [k]) t
theorem chk_go {m : Sto} {seen t : List Int} {k : Int} (h1 : (rea m k 0 0).2 = 0) (h2 : k ∉ seen) : chk m seen (k :: t) = chk m (seen ++ [k]) t := by
  rw [chk, if_neg (fun e => e h1), if_neg h2]
theorem chk_same {m : Sto} {seen t : List Int} {k : Int} (h1 : (rea m k 0 0).2 = 0) (h2 : k ∈ seen) : chk m seen (k :: t) = 12 := by
  rw [chk, if_neg (fun e => e h1), if_pos h2]
theorem chk_no {m : Sto} {seen t : List Int} {k : Int} (h1 : (rea m k 0 0).2 ≠ 0) : chk m seen (k :: t) = (rea m k 0 0).2 := by
  rw [chk, if_pos h1]
def one (seen : List Int) (x : Int) : Int := if x ∈ seen then 1 else 0
theorem one_put {seen : List Int} {k : Int} (h : k ∉ seen) : (fun x => if x = k then one seen k + 1 else one seen x) = one (seen ++ [k]) := by
  funext x
  unfold one
  by_cases e : x = k
  · subst e; simp [h]
  · simp [e]
set_option maxRecDepth 100000 in
set_option maxHeartbeats 4000000 in
theorem check_go {w : World} {E : Nat → Addr} {Be sb : Nat} {m : Sto} {F : Nat → Prop} {v : Value} {l : List Int} (V : EnvZ w E Be) (hF : ∀ b, F b → Be ≤ b) (hB : Be ≤ w.heap.size) (h : At w sb m F) (hn : Nums w v l) (hk : ∀ k ∈ l, -9223372036854775808 ≤ k ∧ k ≤ 9223372036854775807) (hz : l.length ≤ 140737488351232) :
    Calls Tryz.prog 52 #[.pointer (some ⟨sb, 0, none⟩), v] w fun e w' => e = .returned (errV E (chk m [] l)) ∧ Below w.heap.size w w' := by
  have HNM : Hid (∀ U, Below w.heap.size w U → Nums U v l) := fun U c => hn.below c
  have HRD : Hid (∀ U k, Below w.heap.size w U → k ∈ l → Calls Tryz.prog 41 #[.pointer (some ⟨sb, 0, none⟩), .int .i64 k, .int .i64 0, .int .i64 0] U fun e w' => e = .returned (.tuple #[.string (strB (rea m k 0 0).1), errV E (rea m k 0 0).2]) ∧ Below U.heap.size U w') := fun U k hU hk' =>
    read_any (h.kept (fun b q => hU.block b (h.lt b q)) (fun _ x => x) (fun b q => Nat.lt_of_lt_of_le (h.lt b q) hU.size)) (V.toEnvR.below (hU.mono hB)) hF (hk k hk').1 (hk k hk').2 (by omega) (by omega)
  have HSA : Hid (∀ U, Below w.heap.size w U → U.cell? ⟨2, 0, none⟩ = some (er E 12)) := fun U hU => (V.below (hU.mono hB)).sa
  have HKK := hide hk
  obtain ⟨ao, cap, rfl, -⟩ := hn
  obtain ⟨n, hn⟩ : ∃ n, l.length = n := ⟨_, rfl⟩
  rw [hn] at HNM ⊢
  have HN := hide hn
  have hzn : n ≤ 140737488351232 := by omega
  clear V hF h hk hn hz
  have hmm := @run_makeMap Tryz.prog
  go_enter Tryz.func52, Tryz.ntmps52
  go_wp2
  have HC0 : Hid (Cnt (w.alloc (.map #[] 0)) w.heap.size 0 (one (l.take 0)) ∧ Below w.heap.size w (w.alloc (.map #[] 0)) ∧ chk m (l.take 0) (l.drop 0) = chk m [] l) := ⟨by rw [show one (l.take 0) = fun _ => 0 from by funext x; simp [one]]; exact Cnt.made w, (Below.refl _ w).alloc (Nat.le_refl _) _, by simp⟩
  go_loopw [13] (fun s13 wr => ∃ k : Nat, s13 = .int .i64 (k : Int) ∧ k ≤ n ∧ Hid (Cnt wr w.heap.size k (one (l.take k)) ∧ Below w.heap.size w wr ∧ chk m (l.take k) (l.drop k) = chk m [] l)) (fun s13 _ => n - (intOf s13).toNat)
  case atStart => exact ⟨0, rfl, Nat.zero_le _, HC0⟩
  case round =>
    obtain ⟨k, rfl, hk, HP⟩ := hrel
    by_cases hkn : k < n
    · have hltz : (k : Int) < (n : Int) := by omega
      have hk0 : 0 ≤ (k : Int) := by omega
      obtain ⟨x, hx⟩ : ∃ x, l[k]? = some x := ⟨_, List.getElem?_eq_getElem (by rw [unhide HN]; exact hkn)⟩
      obtain ⟨hc1, hc2, hc3⟩ := unhide HP
      obtain ⟨ao', cap', e1, hat⟩ := unhide HNM wr hc2
      obtain ⟨g, off, e2, hg, hc⟩ := hat (by rw [unhide HN]; omega)
      have e3 : ao = ao' := by injection e1
      clear e1
      subst e3
      subst e2
      have x0 := hc k _ hx
      obtain ⟨hx1, hx2⟩ := unhide HKK x (List.mem_of_getElem? hx)
      have HTK : Hid (l.take k ++ [x] = l.take (k + 1)) := by rw [Hid, List.take_add_one, hx]; rfl
      have HDR : Hid (l.drop k = x :: l.drop (k + 1)) := by
        obtain ⟨hk', e⟩ := List.getElem?_eq_some_iff.1 hx
        rw [Hid, List.drop_eq_getElem_cons hk', e]
      have HR := hide (unhide HRD wr x hc2 (List.mem_of_getElem? hx))
      have HC1 := hide hc1
      have HC2 := hide hc2
      have HC3 := hide hc3
      clear hat hc hx hc1 hc2 hc3 HP
      go_wp2_with fail
      by_cases hr : (rea m x 0 0).2 = 0
      · rw [hr, errV_zero] at HR
        refine (unhide HR).mono ?_
        rintro e w2 ⟨rfl, b2⟩
        have c2 := (unhide HC1).below b2
        have bw2 : Below w.heap.size w w2 := (unhide HC2).trans (b2.mono (unhide HC2).size)
        have k1 := c2.look hx1 hx2
        by_cases hs : x ∈ l.take k
        · rw [show one (l.take k) x = 1 from if_pos hs] at k1
          obtain ⟨w3, u3, c3, g3⟩ := c2.put (k := x) (v := 2) (by unfold maxLen; omega) hx1 hx2 (by omega) (by omega)
          have k2 := c3.look hx1 hx2
          simp only [if_true] at k2
          have bw3 : Below w.heap.size w w3 := bw2.grown g3 bw2.size (fun q e => by cases e; exact Nat.le_refl _)
          have k3 := unhide HSA w3 bw3
          unfold er at k3
          have HE := hide (chk_same (t := l.drop (k + 1)) hr hs)
          have HBW := hide bw3
          clear c2 b2 bw2 c3 g3 bw3 HR hs
          go_wp2
          go_ret
          have := unhide HC3
          rw [unhide HDR, unhide HE] at this
          rw [← this]
          exact ⟨rfl, unhide HBW⟩
        · rw [show one (l.take k) x = 0 from if_neg hs] at k1
          obtain ⟨w3, u3, c3, g3⟩ := c2.put (k := x) (v := 1) (by unfold maxLen; omega) hx1 hx2 (by omega) (by omega)
          have k2 := c3.look hx1 hx2
          simp only [if_true] at k2
          have bw3 : Below w.heap.size w w3 := bw2.grown g3 bw2.size (fun q e => by cases e; exact Nat.le_refl _)
          have HF3 : Hid (Cnt w3 w.heap.size (k + 1) (one (l.take (k + 1))) ∧ Below w.heap.size w w3 ∧ chk m (l.take (k + 1)) (l.drop (k + 1)) = chk m [] l) := by
            have e4 := one_put hs
            rw [show one (l.take k) x + 1 = 1 by rw [show one (l.take k) x = 0 from if_neg hs]; rfl, unhide HTK] at e4
            rw [e4] at c3
            refine ⟨c3, bw3, ?_⟩
            rw [← unhide HC3, unhide HDR, chk_go hr hs, unhide HTK]
          clear c2 b2 bw2 c3 g3 bw3 HR hs
          go_wp2
          go_roundw
          case rel => exact ⟨k + 1, by simp, by omega, HF3⟩
          case measure => simp [intOf]; omega
      · have HE := hide (chk_no (seen := l.take k) (t := l.drop (k + 1)) hr)
        obtain ⟨cc, hcc⟩ : ∃ cc, (rea m x 0 0).2 = cc := ⟨_, rfl⟩
        rw [hcc] at HR HE hr
        rw [errV_pos E hr] at HR
        unfold er at HR
        refine (unhide HR).mono ?_
        rintro e w2 ⟨rfl, b2⟩
        have HBW := hide ((unhide HC2).trans (b2.mono (unhide HC2).size))
        have HRR := hide hr
        clear b2 HR hcc hr
        go_wp2
        go_ret
        have := unhide HC3
        rw [unhide HDR, unhide HE] at this
        rw [← this, errV_pos E (unhide HRR)]
        exact ⟨rfl, unhide HBW⟩
    · have hkk : k = n := by omega
      subst hkk
      go_wp2
      go_ret
      obtain ⟨-, h2, h3⟩ := unhide HP
      rw [List.drop_of_length_le (Nat.le_of_eq (unhide HN))] at h3
      rw [← h3]
      exact ⟨rfl, h2⟩
end Rs
end Go.Proofs.YtohfhkdhccpoaaaGreatDoor
/- Layer 10, the plain part: what stands in the store while runs are merged. No walk. -/
namespace Go.Proofs.YtohfhkdhccpoaaaGreatDoor
open Go.RowKit Go.Shelf
namespace Rs
open Sm (Tx ofS)
/-- the store m is m0 with one run more behind the others -/
structure Ls (m0 m : Sto) (n : Nat) (t : List UInt8) (s : Bool) : Prop where
  runs : m.runs = m0.runs ++ [⟨n, t, s⟩]
  lo : ∀ x ∈ m0.runs, x.num < n
theorem ls_app {m0 m : Sto} {n : Nat} {t s : List UInt8} (h : Ls m0 m n t false) (h0 : (app m n [strB s]).1 = 0) : Ls m0 (app m n [strB s]).2 n (t ++ s) false := by
  have hlk : look m.runs n = some ⟨n, t, false⟩ := by rw [h.runs]; exact look_last (r := ⟨n, t, false⟩) h.lo
  unfold app at h0 ⊢
  by_cases ha : m.ahead = 1
  · rw [if_pos ha] at h0; cases h0
  · rw [if_neg ha, hlk] at h0 ⊢
    simp only [Bool.false_eq_true, if_false] at h0 ⊢
    by_cases hr : tot m.runs + sz [strB s] ≤ m.cap
    · rw [if_pos hr]
      refine ⟨?_, h.lo⟩
      show repl m.runs ⟨n, t ++ bytes [strB s], false⟩ = _
      rw [h.runs, repl_last (r := ⟨n, t, false⟩) (r' := ⟨n, t ++ bytes [strB s], false⟩) h.lo rfl]
      simp [bytes, strB]
    · rw [if_neg hr] at h0; cases h0
theorem ls_sel {m0 m : Sto} {n : Nat} {t : List UInt8} (h : Ls m0 m n t false) (h0 : (sel m n).1 = 0) : Ls m0 (sel m n).2 n t true := by
  have hlk : look m.runs n = some ⟨n, t, false⟩ := by rw [h.runs]; exact look_last (r := ⟨n, t, false⟩) h.lo
  unfold sel at h0 ⊢
  by_cases ha : m.ahead = 1
  · rw [if_pos ha] at h0; cases h0
  · rw [if_neg ha, hlk] at h0 ⊢
    simp only [Bool.false_eq_true, if_false] at h0 ⊢
    refine ⟨?_, h.lo⟩
    show repl m.runs ⟨n, t, true⟩ = _
    rw [h.runs, repl_last (r := ⟨n, t, false⟩) (r' := ⟨n, t, true⟩) h.lo rfl]
theorem ls_puts (bs : Nat) (hb : 1 ≤ bs) (m0 : Sto) (n : Nat) : ∀ (k : Nat) (m : Sto) (t T : List UInt8), T.length ≤ k → Ls m0 m n t false → (wputs n bs m T).1 = 0 →
    ∃ d, Ls m0 (wputs n bs m T).2.1 n (t ++ d) false ∧ d ++ (wputs n bs m T).2.2 = T := by
  intro k
  induction k with
  | zero =>
    intro m t T hT h _
    rw [wputs_stop (by omega)]
    exact ⟨[], by simpa using h, rfl⟩
  | succ k ih =>
    intro m t T hT h h0
    by_cases hs : T.length < bs
    · rw [wputs_stop hs]
      exact ⟨[], by simpa using h, rfl⟩
    · by_cases e0 : (app m n [strB (T.take bs)]).1 = 0
      · rw [wputs_go hb hs e0] at h0 ⊢
        obtain ⟨d, h2, h3⟩ := ih _ (t ++ T.take bs) (T.drop bs) (by rw [List.length_drop]; omega) (ls_app h e0) h0
        refine ⟨T.take bs ++ d, by rwa [List.append_assoc] at h2, ?_⟩
        rw [List.append_assoc, h3, List.take_append_drop]
      · rw [wputs_no hb hs e0] at h0
        exact absurd h0 e0
theorem ls_clo {m0 m : Sto} {n : Nat} {t buf : List UInt8} (h : Ls m0 m n t false) (h0 : (wclo n m buf).1 = 0) : Ls m0 (wclo n m buf).2 n (t ++ buf) true := by
  unfold wclo at h0 ⊢
  by_cases hb : buf = []
  · rw [if_pos hb] at h0 ⊢
    rw [hb, List.append_nil]
    exact ls_sel h h0
  · rw [if_neg hb] at h0 ⊢
    by_cases e : (app m n [strB buf]).1 = 0
    · rw [if_pos e] at h0 ⊢
      exact ls_sel (ls_app h e) h0
    · rw [if_neg e] at h0
      exact absurd h0 e
theorem bat_ls {m0 : Sto} {L : List Tx} (ok : m0.Ok) (h : (bat m0 L).1 = 0) : (bat m0 L).2.1.runs = m0.runs ++ [⟨m0.made + 1, Um.frs (Um.rl L), true⟩] ∧ (bat m0 L).2.2 = m0.made + 1 ∧ (bat m0 L).2.1.made = m0.made + 1 := by
  obtain ⟨h1, h2⟩ := (bat_made m0 L).1 h
  refine ⟨?_, h2, h1⟩
  clear h1 h2
  unfold bat at h ⊢
  by_cases hc : (crt m0).1.2 = 0
  · rw [if_neg (fun e => e hc)] at h ⊢
    have hr : Ls m0 (crt m0).2 (m0.made + 1) [] false := by
      refine ⟨?_, fun x hx => by have := ok.nums x hx; omega⟩
      unfold crt at hc ⊢
      split at hc
      · cases hc
      · split at hc
        · cases hc
        · rename_i a b
          rw [if_neg a, if_neg b]
          rfl
    unfold batN at h ⊢
    by_cases hp : (wputs (m0.made + 1 : Nat) 512 (crt m0).2 (Um.frs (Um.rl L))).1 = 0
    · rw [if_neg (fun e => e hp)] at h ⊢
      obtain ⟨d, h2, h3⟩ := ls_puts 512 (by decide) m0 (m0.made + 1) _ (crt m0).2 [] (Um.frs (Um.rl L)) (Nat.le_refl _) hr hp
      by_cases hq : (wclo (m0.made + 1 : Nat) (wputs (m0.made + 1 : Nat) 512 (crt m0).2 (Um.frs (Um.rl L))).2.1 (wputs (m0.made + 1 : Nat) 512 (crt m0).2 (Um.frs (Um.rl L))).2.2).1 = 0
      · rw [if_neg (fun e => e hq)]
        have h4 := ls_clo h2 hq
        rw [List.nil_append, h3] at h4
        exact h4.runs
      · rw [if_pos hq] at h
        exact absurd h hq
    · rw [if_pos hp] at h
      exact absurd h hp
  · rw [if_pos hc] at h
    exact absurd h hc
theorem look_le {m : Sto} (ok : m.Ok) {k : Nat} {r : Run} (h : look m.runs k = some r) : k ≤ m.made := by
  obtain ⟨h1, h2⟩ := look_mem h
  have := ok.nums r h1
  omega
theorem Std.le {m : Sto} {k : Nat} {L : List Tx} (h : Std m k L) (ok : m.Ok) : k ≤ m.made := by
  obtain ⟨r, h1, _⟩ := h.run
  exact look_le ok h1
theorem Std.old {m : Sto} {k : Nat} {L L' : List Tx} (h : Std m k L) (ok : m.Ok) (h0 : (bat m L').1 = 0) : Std (bat m L').2.1 k L := by
  obtain ⟨⟨r, h1, h2, h3⟩, h4, h5⟩ := h
  exact ⟨⟨r, by rw [(bat_ls ok h0).1]; exact look_more h1, h2, h3⟩, h4, h5⟩
theorem Std.new {m : Sto} {L : List Tx} (ok : m.Ok) (h0 : (bat m L).1 = 0) (hr : Sm.Rs L) (hx : ∀ x ∈ L, x.size ≤ 255) : Std (bat m L).2.1 (m.made + 1) L :=
  ⟨⟨_, by rw [(bat_ls ok h0).1]; exact look_last (r := ⟨m.made + 1, Um.frs (Um.rl L), true⟩) (fun x hx => by have := ok.nums x hx; show x.num < m.made + 1; omega), rfl, rfl⟩, hr, hx⟩
theorem look_rem (m : Sto) {j k : Int} (h : j ≠ k) : look (rem m j).2.runs k = look m.runs k := by
  unfold rem
  split
  · rfl
  · show look (drop m.runs j) k = look m.runs k
    unfold look drop
    rw [List.find?_filter]
    congr 1
    funext r
    by_cases e : (r.num : Int) = k
    · simp [e]; exact fun q => h q.symm
    · simp [e]
theorem look_remAll {k : Nat} : ∀ (l : List Nat) (m : Sto), k ∉ l → look (remAll m l).runs k = look m.runs k
  | [], _, _ => rfl
  | j :: l, m, h => by
    have hj : (j : Int) ≠ (k : Int) := fun e => by
      have e2 : j = k := by omega
      exact h (e2 ▸ List.mem_cons_self ..)
    rw [remAll_cons, look_remAll l _ (fun q => h (List.mem_cons_of_mem _ q)), look_rem m hj]
theorem Std.rem {m : Sto} {k : Nat} {L : List Tx} {l : List Nat} (h : Std m k L) (hk : k ∉ l) : Std (remAll m l) k L := by
  obtain ⟨⟨r, h1, h2, h3⟩, h4, h5⟩ := h
  exact ⟨⟨r, by rw [look_remAll l m hk]; exact h1, h2, h3⟩, h4, h5⟩
def stU (st : Nat → List Tx) (n : Nat) (L : List Tx) (k : Nat) : List Tx := if k = n then L else st k
/-- what the first runs of a queue hold together -/
def jL (fan : Nat) (st : Nat → List Tx) (qs : List Nat) : List Tx := ofS ((qs.take fan).map st).flatten
/-- a queue of runs is merged: the failure, the store, the run -/
def mgA (fan : Nat) : Nat → Sto → (Nat → List Tx) → List Nat → Nat × Sto × Nat
  | 0, m, _, qs => (0, m, qs.headD 0)
  | f + 1, m, st, qs =>
    if qs.length ≤ 1 then (0, m, qs.headD 0)
    else if (bat m (jL fan st qs)).1 ≠ 0 then ((bat m (jL fan st qs)).1, remAll (bat m (jL fan st qs)).2.1 qs, 0)
    else mgA fan f (remAll (bat m (jL fan st qs)).2.1 (qs.take fan)) (stU st (bat m (jL fan st qs)).2.2 (jL fan st qs)) (qs.drop fan ++ [(bat m (jL fan st qs)).2.2])
theorem mgA_one {fan f : Nat} {m : Sto} {st : Nat → List Tx} {qs : List Nat} (h : qs.length ≤ 1) : mgA fan f m st qs = (0, m, qs.headD 0) := by
  cases f with
  | zero => rfl
  | succ f => rw [mgA, if_pos h]
theorem mgA_no {fan f : Nat} {m : Sto} {st : Nat → List Tx} {qs : List Nat} (h : ¬ qs.length ≤ 1) (h0 : (bat m (jL fan st qs)).1 ≠ 0) : mgA fan (f + 1) m st qs = ((bat m (jL fan st qs)).1, remAll (bat m (jL fan st qs)).2.1 qs, 0) := by
  rw [mgA, if_neg h, if_pos h0]
theorem mgA_go {fan f : Nat} {m : Sto} {st : Nat → List Tx} {qs : List Nat} (h : ¬ qs.length ≤ 1) (h0 : (bat m (jL fan st qs)).1 = 0) : mgA fan (f + 1) m st qs = mgA fan f (remAll (bat m (jL fan st qs)).2.1 (qs.take fan)) (stU st (bat m (jL fan st qs)).2.2 (jL fan st qs)) (qs.drop fan ++ [(bat m (jL fan st qs)).2.2]) := by
  rw [mgA, if_neg h, if_neg (fun e => e h0)]
/-- a queue of runs, each its own, in which these stand -/
structure Qs (m : Sto) (st : Nat → List Tx) (qs : List Nat) : Prop where
  std : ∀ k ∈ qs, Std m k (st k)
  nd : qs.Nodup
theorem jL_fit {fan : Nat} {m : Sto} {st : Nat → List Tx} {qs : List Nat} (h : Qs m st qs) : ∀ x ∈ jL fan st qs, x.size ≤ 255 := fun x q => by
  obtain ⟨l, hl, hx⟩ := List.mem_flatten.1 (Sm.ofS_mem.1 q)
  obtain ⟨k, hk, rfl⟩ := List.mem_map.1 hl
  exact (h.std k (List.mem_of_mem_take hk)).fit x hx
theorem Qs.go {fan : Nat} {m : Sto} {st : Nat → List Tx} {qs : List Nat} (h : Qs m st qs) (ok : m.Ok) (h0 : (bat m (jL fan st qs)).1 = 0) :
    Qs (remAll (bat m (jL fan st qs)).2.1 (qs.take fan)) (stU st (bat m (jL fan st qs)).2.2 (jL fan st qs)) (qs.drop fan ++ [(bat m (jL fan st qs)).2.2]) := by
  obtain ⟨b1, b2, b3⟩ := bat_ls ok h0
  rw [b2]
  have hn : ∀ k ∈ qs, k ≤ m.made := fun k hk => (h.std k hk).le ok
  have hnd := h.nd
  rw [← List.take_append_drop fan qs, List.nodup_append] at hnd
  refine ⟨fun k hk => ?_, ?_⟩
  · rcases List.mem_append.1 hk with q | q
    · have hkq := List.mem_of_mem_drop q
      have := hn k hkq
      rw [stU, if_neg (by omega)]
      exact ((h.std k hkq).old ok h0).rem fun z => hnd.2.2 k z k q rfl
    · simp at q
      subst q
      rw [stU, if_pos rfl]
      exact (Std.new ok h0 (Sm.ofS_rs _) (jL_fit h)).rem fun z => by have := hn _ (List.mem_of_mem_take z); omega
  · rw [List.nodup_append]
    refine ⟨hnd.2.1, by simp, fun a ha b hb e => ?_⟩
    simp at hb
    have := hn a (List.mem_of_mem_drop ha)
    omega
/-- how many records stand in a run at most -/
theorem Std.few {m : Sto} {k : Nat} {L : List Tx} (h : Std m k L) (ok : m.Ok) : L.length ≤ 67108864 := by
  obtain ⟨r, h1, _, h3⟩ := h.run
  have h4 := txt_le (look_mem h1).1
  have h5 := ok.used
  have h6 := ok.cap
  have h7 : ∀ X : List Tx, X.length ≤ (Um.frs (Um.rl X)).length := fun X => by
    induction X with
    | nil => simp
    | cons x t ih =>
      have := List.length_pos_iff.2 (Um.fr_ne (Um.lst x))
      rw [show Um.rl (x :: t) = Um.lst x :: Um.rl t from rfl, Um.frs_cons, List.length_append, List.length_cons]
      omega
  have := h7 L
  rw [← h3] at this
  omega
theorem flat_few {st : Nat → List Tx} : ∀ {ks : List Nat}, (∀ k ∈ ks, (st k).length ≤ 67108864) → (ks.map st).flatten.length ≤ 67108864 * ks.length
  | [], _ => by simp
  | k :: t, h => by
    have h1 := flat_few (ks := t) fun x hx => h x (List.mem_cons_of_mem _ hx)
    have h2 := h k (List.mem_cons_self ..)
    rw [List.map_cons, List.flatten_cons, List.length_append, List.length_cons]
    omega
end Rs
end Go.Proofs.YtohfhkdhccpoaaaGreatDoor
/- Layer 10: a queue of run numbers in memory; mergeAll. -/
namespace Go.Proofs.YtohfhkdhccpoaaaGreatDoor
open Go.RowKit Go.Shelf
namespace Rs
open Sm (Tx ofS)

/-- a queue in the block g, with what room is behind it -/
def QR (w : World) (v : Value) (qs : List Nat) (g : Nat) : Prop := ∃ off cap cur, v = .slice (some ⟨g, off, none⟩) qs.length cap ∧ qs.length ≤ cap ∧ w.heap[g]? = some (.cells cur 3 (0, 0)) ∧ off + cap ≤ cur.size ∧ ∀ (j : Nat) n, qs[j]? = some n → cur[off + j]? = some (.int .i64 (n : Nat))
theorem QR.lt {w : World} {v : Value} {qs : List Nat} {g : Nat} (h : QR w v qs g) : g < w.heap.size := by
  obtain ⟨off, cap, cur, _, _, h, _⟩ := h
  exact (Array.getElem?_eq_some_iff.1 h).1
theorem QR.kept {w w' : World} {v : Value} {qs : List Nat} {g : Nat} (h : QR w v qs g) (hb : w'.heap[g]? = w.heap[g]?) : QR w' v qs g := by
  obtain ⟨off, cap, cur, h1, h2, h3, h4⟩ := h
  exact ⟨off, cap, cur, h1, h2, hb.trans h3, h4⟩
theorem QR.of_own {w : World} {B : Nat} {v : Value} {qs : List Nat} (h : w.ownsRow B 3 1 v qs.length (nts qs)) (hne : qs ≠ []) : ∃ g, B ≤ g ∧ QR w v qs g := by
  rcases h.2 with ⟨_, e⟩ | ⟨g, cap, cur, e, hb, hg, hnc, _, hcs, htk⟩
  · exact absurd (List.length_eq_zero_iff.1 e) hne
  · refine ⟨g, hb, 0, cap, cur, e, hnc, hg, by omega, fun j n hj => ?_⟩
    have hjl := (List.getElem?_eq_some_iff.1 hj).1
    have h1 : (cur.toList.take (qs.length * 1))[j]? = some (.int .i64 (n : Int)) := by rw [htk]; simp [nts, hj]
    rw [List.getElem?_take, if_pos (by omega)] at h1
    rw [Nat.zero_add]
    simpa using h1
theorem QR.cell {w : World} {g off : Nat} {qs : List Nat} {cur : Array Value} (h3 : w.heap[g]? = some (.cells cur 3 (0, 0))) (h5 : ∀ (j : Nat) n, qs[j]? = some n → cur[off + j]? = some (.int .i64 (n : Nat))) {j n : Nat} (hj : qs[j]? = some n) : w.cell? ⟨g, off + j, none⟩ = some (.int .i64 (n : Int)) := by
  simp [World.cell?, h3, h5 j n hj]
theorem QR.nums {w : World} {v : Value} {qs : List Nat} {g : Nat} (h : QR w v qs g) : Nums w v (zs qs) := by
  have hlt := h.lt
  obtain ⟨off, cap, cur, h1, h2, h3, h4, h5⟩ := h
  refine ⟨_, cap, by rw [zs_len]; exact h1, fun _ => ⟨g, off, rfl, hlt, fun j n hj => ?_⟩⟩
  obtain ⟨x, hx, rfl⟩ : ∃ x : Nat, qs[j]? = some x ∧ (x : Int) = n := by simpa [zs] using hj
  exact QR.cell h3 h5 hx
theorem QR.front {w : World} {g off cap : Nat} {qs : List Nat} (h : QR w (.slice (some ⟨g, off, none⟩) qs.length cap) qs g) {k : Nat} (hk : k ≤ qs.length) : Nums w (.slice (some ⟨g, off, none⟩) k cap) (zs (qs.take k)) := by
  obtain ⟨ao, cap', e, hat⟩ := h.nums
  refine ⟨some ⟨g, off, none⟩, cap, by rw [zs_len, List.length_take, Nat.min_eq_left hk], fun h0 => ?_⟩
  rw [zs_len, List.length_take] at h0
  obtain ⟨g', off', e1, hg, hc⟩ := hat (by rw [zs_len]; omega)
  injection e with e2 _ _
  rw [← e2] at e1
  injection e1 with e1
  injection e1 with a b _
  subst a b
  refine ⟨g, off, rfl, hg, fun j n hj => hc j n ?_⟩
  simp only [zs, List.map_take, List.getElem?_take] at hj ⊢
  split at hj
  · exact hj
  · cases hj
theorem slice_hi (w : World) (g off len cap k : Nat) (h1 : k ≤ cap) : (Instr.slice 28 (.slice (some ⟨g, off, none⟩) len cap) none (some (.int .i64 (k : Int))) none).run Tryz.prog w = .ok (.slice (some ⟨g, off, none⟩) k cap) w := by
  have hi : (Tryz.prog.info? 3).map (·.size) = some 1 := by kernel_rfl
  obtain ⟨i, hi, hz⟩ := Option.map_eq_some_iff.1 hi
  by_cases hc : cap = 0
  · subst hc
    have : k = 0 := by omega
    subst this
    simp [Instr.slice, Instr.sliceBounds, go_sem]
  · simp [Instr.slice, Instr.sliceBounds, go_sem, h1, Addr.add]
theorem slice_lo (w : World) (g off len cap k : Nat) (h1 : k ≤ len) : ∃ off', (Instr.slice 28 (.slice (some ⟨g, off, none⟩) len cap) (some (.int .i64 (k : Int))) none none).run Tryz.prog w = .ok (.slice (some ⟨g, off', none⟩) (len - k) (cap - k)) w ∧ (k < cap → off' = off + k) := by
  have hi : (Tryz.prog.info? 3).map (·.size) = some 1 := by kernel_rfl
  obtain ⟨i, hi, hz⟩ := Option.map_eq_some_iff.1 hi
  by_cases hc : cap = k
  · refine ⟨off, ?_, fun h => by omega⟩
    simp [Instr.slice, Instr.sliceBounds, go_sem, hc, h1]
  · refine ⟨off + k, ?_, fun _ => rfl⟩
    simp [Instr.slice, Instr.sliceBounds, go_sem, hc, h1, Addr.add]
/-- the first ones are cut off, and one more is put behind the others -/
theorem q_push {W : World} {g off off' cap : Nat} {qs : List Nat} (h : QR W (.slice (some ⟨g, off, none⟩) qs.length cap) qs g) {k n : Nat} (hk : k ≤ qs.length) (ho : k < cap → off' = off + k) (hz : qs.length ≤ 16777216) (ty : TypeId) :
    ∃ v' W', (Builtin.append_ #[28, 28] ty #[.slice (some ⟨g, off', none⟩) (qs.length - k) (cap - k), .slice (some ⟨W.heap.size, 0, none⟩) 1 1]).run Tryz.prog (W.alloc (.cells #[.int .i64 (n : Nat)] 3)) = .ok v' W' ∧ (∃ g', QR W' v' (qs.drop k ++ [n]) g' ∧ (g' = g ∨ W.heap.size ≤ g')) ∧ Chg (fun b => b = g) W W' := by
  have hlt := h.lt
  obtain ⟨o2, c2, cur, e, h2, h3, h4, h5⟩ := h
  injection e with e1 _ e3
  injection e1 with e1
  injection e1 with _ e1 _
  subst e1 e3
  obtain ⟨i, hi, hz'⟩ := Option.map_eq_some_iff.1 info3
  simp only [Prod.mk.injEq] at hz'
  obtain ⟨hz0, hz1, hz2⟩ := hz'
  have h3' : (W.alloc (.cells #[.int .i64 (n : Int)] 3)).heap[g]? = some (.cells cur 3 (0, 0)) := (Below.heap_alloc _ _ _ hlt).trans h3
  have hdl : (qs.drop k).length = qs.length - k := List.length_drop
  have hdg : ∀ (j : Nat) x, (qs.drop k)[j]? = some x → qs[k + j]? = some x := fun j x hj => by rwa [List.getElem?_drop] at hj
  by_cases hr : qs.length - k + 1 ≤ cap - k
  · have hoo := ho (by omega)
    subst hoo
    have q := run_append_room_cells (P := Tryz.prog) (W.alloc (.cells #[.int .i64 (n : Int)] 3)) 28 ty 3 i Tryz.underlying28 hi g (off + k) (qs.length - k) (cap - k) ⟨W.heap.size, 0, none⟩ 1 1 [.int .i64 (n : Int)] (by rw [hz1]; rfl) (cell_one_new _ _ _) (by simp [Value.oneCell']) hr (fun j hj => by
      have hj0 : j = 0 := by simpa using hj
      subst hj0
      have h9 : off + k + (qs.length - k) * i.size + 0 < cur.size := by rw [hz1]; omega
      simp only [World.cell?, h3', Array.getElem?_eq_getElem h9]
      rfl) (fun j hj => by simp [World.frozen?, h3'])
    have hix : off + k + (qs.length - k) * i.size = off + qs.length := by rw [hz1]; omega
    rw [hix] at q
    refine ⟨_, _, q, ⟨g, ⟨off + k, cap - k, cur.setIfInBounds (off + qs.length) (.int .i64 (n : Int)), by rw [List.length_append, hdl]; rfl, by rw [List.length_append, hdl]; exact hr, Hp.set_heap1 h3' _, by rw [Array.size_setIfInBounds]; omega, fun j x hj => ?_⟩, .inl rfl⟩, ?_⟩
    · by_cases hjl : j < (qs.drop k).length
      · rw [List.getElem?_append_left hjl] at hj
        rw [Array.getElem?_setIfInBounds_ne (by omega), Nat.add_assoc]
        exact h5 _ _ (hdg j x hj)
      · rw [List.getElem?_append_right (by omega)] at hj
        have hj0 : j - (qs.drop k).length = 0 := by have := (List.getElem?_eq_some_iff.1 hj).1; simpa using this
        rw [hj0] at hj
        simp at hj
        subst hj
        rw [show off + k + j = off + qs.length by omega, Array.getElem?_setIfInBounds_self_of_lt (by omega)]
    · exact ((Chg.refl (fun b => b = g) W).alloc (.cells #[.int .i64 (n : Int)] 3)).setCell (p := ⟨g, off + qs.length, none⟩) (.inl rfl) _
  · obtain ⟨v', W', q, hown, hg⟩ := run_append_arg_grows (P := Tryz.prog) (W.alloc (.cells #[.int .i64 (n : Int)] 3)) 28 ty 3 i _ 1 8 Tryz.underlying28 hi hz0 hz1 hz2 rfl (by decide) ⟨g, off', none⟩ (qs.length - k) (cap - k) (nts (qs.drop k)) (by simp [nts]) (fun j u hj => by
      obtain ⟨x, hx, rfl⟩ : ∃ x : Nat, (qs.drop k)[j]? = some x ∧ Value.int .i64 (x : Int) = u := by simpa [nts] using hj
      have hjl := (List.getElem?_eq_some_iff.1 hx).1
      have hoo := ho (by omega)
      subst hoo
      rw [Addr.add_lit, Nat.add_assoc]
      exact QR.cell h3' h5 (hdg j x hx)) ⟨W.heap.size, 0, none⟩ 1 1 [.int .i64 (n : Int)] rfl (cell_one_new _ _ _) (by omega) (by unfold maxLen; omega) (by omega)
    have e4 : nts (qs.drop k) ++ [.int .i64 (n : Int)] = nts (qs.drop k ++ [n]) := by simp [nts]
    have e5 : qs.length - k + 1 = (qs.drop k ++ [n]).length := by simp
    rw [e4, e5] at hown
    obtain ⟨g', hg', hq⟩ := QR.of_own hown (by simp)
    refine ⟨v', W', q, ⟨g', hq, .inr ?_⟩, rsc (((Sm.Chg.refl _ W).alloc _).grown hg fun k hk => by cases hk)⟩
    rw [World.size_alloc] at hg'
    omega
theorem res_more {F F' : Nat → Prop} {w wr w2 : World} {sb : Nat} {m2 : Sto} (ff : ∀ b, F' b → Up F w wr b) (c : Chg F w wr) (r : Res F' wr sb m2 w2) : Chg F w w2 ∧ (∀ b, Up F' wr w2 b → Up F w w2 b) := by
  have s1 := c.size
  have s2 := r.2.size
  refine ⟨rsc ((smc c).on (smc r.2) fun i hi => ?_), fun b q => ?_⟩
  · exact ff i hi
  · rcases q with q | q
    · rcases ff b q with z | z
      · exact .inl z
      · exact .inr ⟨z.1, by omega⟩
    · exact .inr ⟨by omega, q.2⟩
theorem res_all {F F' : Nat → Prop} {w w2 : World} {sb : Nat} {m2 : Sto} (c : Chg F w w2) (ff : ∀ b, F' b → Up F w w2 b) (h : At w2 sb m2 F') (hF : ∀ b, F b → b < w.heap.size) : Res F w sb m2 w2 :=
  ⟨h.kept (fun _ _ => rfl) ff (fun b q => by
    rcases q with q | q
    · exact Nat.lt_of_lt_of_le (hF b q) c.size
    · exact q.2), c⟩
end Rs
end Go.Proofs.YtohfhkdhccpoaaaGreatDoor
/- Layer 10: mergeAll: a list of runs becomes one run, round by round. -/
namespace Go.Proofs.YtohfhkdhccpoaaaGreatDoor
open Go.RowKit Go.Shelf
namespace Rs
open Sm (Tx ofS)

set_option maxRecDepth 100000 in
set_option maxHeartbeats 4000000 in
theorem clone_ints {w : World} {v : Value} {ks : List Nat} (hn : Nums w v (zs ks)) (hne : ks ≠ []) (hz : ks.length ≤ 16777216) :
    Calls Tryz.prog 82 #[v] w fun e w' => ∃ v', e = .returned v' ∧ (∃ g, w.heap.size ≤ g ∧ QR w' v' ks g) ∧ Below w.heap.size w w' := by
  obtain ⟨ao, cap, rfl, hat⟩ := hn
  have q24 : ∀ (w : World) (a : Option Addr) (n c n' c' : Nat), (binOp .eql 28 (.slice a n c) (.slice none n' c')).run Tryz.prog w = .ok (.bool a.isNone) w := fun w a n c n' c' => Lib.run_eql_slice_nil w _ _ a n c n' c' Tryz.underlying28
  obtain ⟨b, off, e, hb, hc⟩ := hat (by rw [zs_len]; exact List.length_pos_iff.2 hne)
  subst e
  rw [zs_len]
  obtain ⟨i0, hi, hz'⟩ := Option.map_eq_some_iff.1 info3
  simp only [Prod.mk.injEq] at hz'
  obtain ⟨hz0, hz1, hz2⟩ := hz'
  have u24 : ∀ w, Sem.run Tryz.prog (underlying 28) w = .ok (TypeDesc.slice 3) w := run_underlying Tryz.underlying28
  have HC := hide hc
  have HNE := hide hne
  clear hat hc hne
  go_enter Tryz.func82, Tryz.ntmps82
  go_wp2_with (at_builtin; refine wpList_append_own _ rfl _ _ 28 rfl w.heap.size 3 i0 (.int .i64 0) 1 8 Tryz.underlying28 hi hz0 hz1 hz2 rfl (by decide) _ _ _ rfl (World.ownsRow_made w #[] 0 (Nat.le_refl _) (Nat.zero_le _) rfl) ⟨b, off, none⟩ ks.length cap (nts ks) rfl ?qc1 ?qc2 ?qc3 ?qc4 ?qc5 ?qc6 ?_)
  case qc1 => simp [nts]
  case qc2 =>
    intro j u hj
    obtain ⟨x, hx, rfl⟩ : ∃ x : Nat, ks[j]? = some x ∧ Value.int .i64 (x : Int) = u := by simpa [nts] using hj
    rw [Addr.add_lit]
    exact Lib.cell?_alloc_some _ (unhide HC j x (zs_get hx))
  case qc3 => intro u hu; obtain ⟨x, hx, rfl⟩ := List.mem_map.1 hu; rfl
  case qc4 => unfold maxLen; omega
  case qc5 => omega
  case qc6 => simp
  intro v' w1 hown hgrow hnil
  have HO := hide (⟨hown, hgrow⟩ : _ ∧ _)
  clear hown hgrow hnil
  go_wp2
  go_ret
  obtain ⟨hown, hgrow⟩ := unhide HO
  have hb : Below w.heap.size w w1 := ((Below.refl _ w).alloc (Nat.le_refl _) _).grown hgrow (by simp) (by intro k hk; simp [Value.ownBlock] at hk; omega)
  have hown : w1.ownsRow w.heap.size 3 1 v' ks.length (nts ks) := by simpa using hown
  exact ⟨v', rfl, QR.of_own hown (unhide HNE), hb⟩
/-- in the midst of merging: the queue, the store, what will be answered -/
structure MI (w : World) (F : Nat → Prop) (sb fan : Nat) (A : Nat × Sto × Nat) (v : Value) (qs : List Nat) (f : Nat) (wr : World) : Prop where
  ex : ∃ g F' m' st', QR wr v qs g ∧ w.heap.size ≤ g ∧ At wr sb m' F' ∧ ¬ F' g ∧ (∀ b, F' b → Up F w wr b) ∧ Qs m' st' qs ∧ mgA fan f m' st' qs = A
  chg : Chg F w wr
  fu : qs.length ≤ f + 1
  ne : qs ≠ []
theorem take_min {α : Type} (fan : Nat) (l : List α) : l.take fan = l.take (min fan l.length) := by
  by_cases h : fan ≤ l.length
  · rw [Nat.min_eq_left h]
  · rw [Nat.min_eq_right (by omega), List.take_length, List.take_of_length_le (by omega)]
theorem drop_min {α : Type} (fan : Nat) (l : List α) : l.drop fan = l.drop (min fan l.length) := by
  by_cases h : fan ≤ l.length
  · rw [Nat.min_eq_left h]
  · rw [Nat.min_eq_right (by omega), List.drop_length, List.drop_of_length_le (by omega)]
set_option maxRecDepth 100000 in
set_option maxHeartbeats 4000000 in
theorem mergeAll_go {w : World} {E : Nat → Addr} {Be sb fan : Nat} {m : Sto} {F : Nat → Prop} {v : Value} {ks : List Nat} {st : Nat → List Tx} (V : EnvR w E Be) (hF : ∀ b, F b → Be ≤ b) (hB : Be ≤ w.heap.size) (h : At w sb m F) (hn : Nums w v (zs ks)) (hq : Qs m st ks) (hne : ks ≠ []) (h2 : 2 ≤ fan) (h64 : fan ≤ 64) (hz : ks.length ≤ 16777216) :
    Calls Tryz.prog 54 #[.pointer (some ⟨sb, 0, none⟩), .int .i64 fan, v] w fun e w' => e = .returned (.tuple #[.int .i64 (mgA fan ks.length m st ks).2.2, errV E (mgA fan ks.length m st ks).1]) ∧ Res F w sb (mgA fan ks.length m st ks).2.1 w' := by
  have HCL := hide (clone_ints hn hne hz)
  have hFl := h.lt
  obtain ⟨A, hA⟩ : ∃ A, mgA fan ks.length m st ks = A := ⟨_, rfl⟩
  have H0 : Hid (∀ w1 v1 g, w.heap.size ≤ g → QR w1 v1 ks g → Below w.heap.size w w1 → MI w F sb fan A v1 ks ks.length w1) := fun w1 v1 g hg hqr hb =>
    ⟨⟨g, F, m, st, hqr, hg, h.kept (fun b q => hb.block b (h.lt b q)) (fun _ x => x) (fun b q => Nat.lt_of_lt_of_le (h.lt b q) hb.size), fun q => by have := hFl g q; omega, fun b q => .inl q, hq, hA⟩, Chg.of_below hb, Nat.le_succ _, hne⟩
  have HEV : Hid (∀ U, Chg F w U → EnvR U E Be ∧ Be ≤ U.heap.size ∧ ∀ b, Up F w U b → Be ≤ b) := fun U c => ⟨V.below (c.below hB hF), Nat.le_trans hB c.size, fun b q => by
    rcases q with q | q
    · exact hF b q
    · omega⟩
  rw [hA]
  have HFL := hide hFl
  obtain ⟨ao, cap, rfl, -⟩ := hn
  rw [zs_len] at HCL ⊢
  obtain ⟨L0, hL0⟩ : ∃ L0, ks.length = L0 := ⟨_, rfl⟩
  rw [hL0] at HCL H0 hz ⊢
  have HL0 := hide hL0
  clear V hF h hq hne hFl hA hL0
  go_enter Tryz.func54, Tryz.ntmps54
  go_wp2_with fail
  refine (unhide HCL).mono ?_
  rintro e w1 ⟨v1, rfl, ⟨g1, hg1, hq1⟩, b1⟩
  have HM1 := hide (unhide H0 w1 v1 g1 hg1 hq1 b1)
  obtain ⟨off1, cap1, cur1, rfl, -⟩ := hq1
  clear HCL H0 b1 hg1
  go_wp2
  go_loopg [8] L0 (fun f s8 wr => ∃ (g off len cap : Nat) (qs : List Nat), s8 = .slice (some ⟨g, off, none⟩) len cap ∧ Hid (qs.length = len) ∧ len ≤ L0 ∧ Hid (MI w F sb fan A (.slice (some ⟨g, off, none⟩) len cap) qs f wr))
  case atStart => exact ⟨g1, off1, ks.length, cap1, ks, rfl, rfl, Nat.le_of_eq (unhide HL0), HM1⟩
  case round =>
    obtain ⟨g, off, len, cap, qs, rfl, HL, hl0, HM⟩ := hrel
    clear HM1
    by_cases hlen : len ≤ 1
    · have h1 : len = 1 := by
        have := List.length_pos_iff.2 (unhide HM).ne
        have := unhide HL
        omega
      obtain ⟨⟨g', F', m', st', q1, q2, q3, q4, q5, q6, q7⟩, q8, -, -⟩ := unhide HM
      obtain ⟨x, hx⟩ : ∃ x, qs = [x] := List.length_eq_one_iff.1 ((unhide HL).trans h1)
      subst hx
      obtain ⟨o2, c2, cur, e, e2, e3, e4, e5⟩ := q1
      injection e with e _ _
      injection e with e
      injection e with ea eb _
      subst ea eb
      have k0 : wr.cell? ⟨g, off, none⟩ = some (.int .i64 (x : Int)) := QR.cell (qs := [x]) (j := 0) e3 e5 rfl
      rw [mgA_one (by simp)] at q7
      have HR := hide (res_all q8 q5 q3 (unhide HFL))
      have HA := hide q7
      have hl1 : ¬ (1 : Int) < (len : Int) := by omega
      have hl2 : 0 < len := by omega
      clear q2 q3 q4 q5 q6 q7 q8 e3 e5 e2 e4 HM HL hlen h1 hl0 hz
      go_wp2
      go_ret2
      rw [← unhide HA]
      exact ⟨rfl, unhide HR⟩
    · have hl1 : (1 : Int) < (len : Int) := by omega
      obtain ⟨⟨g', F', m', st', q1, q2, q3, q4, q5, q6, q7⟩, q8, hfu, -⟩ := unhide HM
      have hqg : g' = g := by
        obtain ⟨o2, c2, cur, e, -⟩ := q1
        injection e with e _ _
        injection e with e
        injection e with ea _ _
        exact ea.symm
      subst hqg
      have hcap : len ≤ cap := by
        obtain ⟨o2, c2, cur, e, e2, -⟩ := q1
        injection e with _ _ ec
        rw [unhide HL] at e2
        omega
      obtain ⟨k, hk⟩ : ∃ k, min fan len = k := ⟨_, rfl⟩
      have hk2 : 2 ≤ k := by omega
      have hkl : k ≤ len := by omega
      have hk64 : k ≤ 64 := by omega
      have hmin : min (fan : Int) (len : Int) = (k : Int) := by omega
      have HTK : Hid (qs.take fan = qs.take k) := by rw [Hid, take_min, unhide HL, hk]
      have HDK : Hid (qs.drop fan = qs.drop k) := by rw [Hid, drop_min, unhide HL, hk]
      have s1 := slice_hi wr g' off len cap k (by omega)
      have hgl := q1.lt
      obtain ⟨ev1, ev2, ev3⟩ := unhide HEV wr q8
      rw [← unhide HL] at q1
      have hjn := join_go (st := st') ev1 (fun b q => ev3 b (q5 b q)) ev2 q3 (q1.front (k := k) (by rw [unhide HL]; exact hkl)) (fun x hx => q6.std x (List.mem_of_mem_take hx)) (fun x hx => by have := (q6.std x (List.mem_of_mem_take hx)).le q3.ok; have := q3.ok.made; omega) (by rw [List.length_take]; omega) (by
        have := flat_few (st := st') (ks := qs.take k) fun x hx => (q6.std x (List.mem_of_mem_take hx)).few q3.ok
        have h9 : (qs.take k).length ≤ 64 := by rw [List.length_take]; omega
        omega)
      have eJ : ofS ((qs.take k).map st').flatten = jL fan st' qs := by unfold jL; rw [unhide HTK]
      rw [eJ] at hjn
      obtain ⟨Bt, hBt⟩ : ∃ Bt, bat m' (jL fan st' qs) = Bt := ⟨_, rfl⟩
      rw [hBt] at hjn
      have HJN := hide hjn
      have HBT := hide hBt
      have HQ1 := hide q1
      have HQ := hide (⟨q2, q3, q4, q5, q6, q7, q8⟩ : _ ∧ _ ∧ _ ∧ _ ∧ _ ∧ _ ∧ _)
      have HK := hide hk
      have hfu2 : len ≤ gk + 1 := by have := unhide HL; omega
      clear q1 q2 q3 q4 q5 q6 q7 q8 ev1 ev2 ev3 hjn eJ hBt hk hfu HM
      by_cases hb0 : Bt.1 = 0
      · rw [hb0, errV_zero] at HJN
        go_wp2_with fail
        refine (unhide HJN).mono ?_
        rintro e w2 ⟨rfl, r2⟩
        obtain ⟨q2, q3, q4, q5, q6, q7, q8⟩ := unhide HQ
        have qr2 := (unhide HQ1).kept (r2.2.block g' hgl q4)
        obtain ⟨c2, f2⟩ := res_more q5 q8 r2
        obtain ⟨ev1, ev2, ev3⟩ := unhide HEV w2 c2
        have ng2 : ¬ Up F' wr w2 g' := fun q => by
          rcases q with q | q
          · exact q4 q
          · omega
        have hle : ∀ x ∈ qs, x ≤ 16777216 := fun x hx => by have := (q6.std x hx).le q3.ok; have := q3.ok.made; omega
        have hrm := removeAll_go ev1.toEnv (fun b q => ev3 b (f2 b q)) ev2 r2.1 (qr2.front (k := k) (by rw [unhide HL]; exact hkl)) (fun g0 o0 n0 c0 e q => by
          injection e with e _ _
          injection e with e
          injection e with ea _ _
          exact ng2 (ea ▸ q)) (fun x hx => hle x (List.mem_of_mem_take hx)) (by rw [List.length_take]; omega)
        have s2 := slice_hi w2 g' off len cap k (by omega)
        have HFN : Hid (∀ w3, Res (Up F' wr w2) w2 sb (remAll Bt.2.1 (qs.take k)) w3 → QR w3 (.slice (some ⟨g', off, none⟩) qs.length cap) qs g' ∧ ∀ v4 W4 g4, QR W4 v4 (qs.drop k ++ [Bt.2.2]) g4 → (g4 = g' ∨ w3.heap.size ≤ g4) → Chg (fun b => b = g') w3 W4 → MI w F sb fan A v4 (qs.drop k ++ [Bt.2.2]) (gk - 1) W4) := fun w3 r3 => by
          have qr3 := qr2.kept (r3.2.block g' qr2.lt ng2)
          obtain ⟨c3, f3⟩ := res_more f2 c2 r3
          refine ⟨qr3, fun v4 W4 g4 qr4 hg4 c4 => ?_⟩
          have ng3 : ¬ Up (Up F' wr w2) w2 w3 g' := fun q => by
            rcases q with q | q
            · exact ng2 q
            · have := qr2.lt; omega
          have a4 := r3.1.kept (w' := W4) (fun b q => c4.block b (r3.1.lt b q) fun e => ng3 (e ▸ q)) (fun _ x => x) (fun b q => Nat.lt_of_lt_of_le (r3.1.lt b q) c4.size)
          refine ⟨⟨g4, Up (Up F' wr w2) w2 w3, _, stU st' Bt.2.2 (jL fan st' qs), qr4, ?_, a4, fun q => ?_, fun b q => ?_, ?_, ?_⟩, ?_, ?_, by simp⟩
          · rcases hg4 with e | e
            · omega
            · have := c3.size; omega
          · rcases hg4 with e | e
            · exact ng3 (e ▸ q)
            · have := r3.1.lt g4 q; omega
          · have := c4.size
            rcases f3 b q with z | z
            · exact .inl z
            · exact .inr ⟨z.1, by omega⟩
          · have := q6.go (fan := fan) q3.ok (by rw [unhide HBT]; exact hb0)
            rw [unhide HBT, unhide HTK, unhide HDK] at this
            exact this
          · have := mgA_go (fan := fan) (f := gk - 1) (m := m') (st := st') (qs := qs) (by rw [unhide HL]; exact hlen) (by rw [unhide HBT]; exact hb0)
            rw [show gk - 1 + 1 = gk by omega, q7, unhide HBT, unhide HTK, unhide HDK] at this
            exact this.symm
          · exact rsc ((smc c3).on (smc c4) fun b e => .inr (by subst e; exact ⟨q2, qr3.lt⟩))
          · rw [List.length_append, List.length_drop, unhide HL]
            simp only [List.length_cons, List.length_nil]
            omega
        have HRM := hide hrm
        clear q2 q3 q4 q5 q6 q7 q8 qr2 c2 f2 ev1 ev2 ev3 ng2 hle hrm r2 HJN HQ1 HQ
        go_wp2_with fail
        refine (unhide HRM).mono ?_
        rintro e w3 ⟨rfl, r3⟩
        obtain ⟨qr3, hmi⟩ := unhide HFN w3 r3
        obtain ⟨off', s3, ho⟩ := slice_lo w3 g' off len cap k hkl
        obtain ⟨v4, W4, hap, ⟨g4, qr4, hg4⟩, c4⟩ := q_push (n := Bt.2.2) qr3 (k := k) (off' := off') (by rw [unhide HL]; exact hkl) ho (by rw [unhide HL]; omega) 28
        have mi4 := hmi v4 W4 g4 qr4 hg4 c4
        rw [unhide HL] at hap
        have hlq : (qs.drop k ++ [Bt.2.2]).length = len - k + 1 := by rw [List.length_append, List.length_drop, unhide HL]; rfl
        obtain ⟨o4, c4', cur4, rfl, -⟩ := qr4
        rw [hlq] at hap mi4
        have HAP := hide hap
        have HM4 := hide mi4
        have HLQ := hide hlq
        clear hap mi4 hlq qr3 hmi ho hg4 c4 r3 HRM HFN
        go_wp2_with (at_builtin; refine wpList_append_run rfl _ _ 28 28 rfl _ _ rfl rfl _ _ (unhide HAP) ?_)
        go_roundg (gk - 1)
        case rel => exact ⟨g4, o4, len - k + 1, c4', qs.drop k ++ [Bt.2.2], rfl, unhide HLQ, by omega, unhide HM4⟩
        case measure => omega
      · obtain ⟨cc, hcc⟩ : ∃ cc, Bt.1 = cc := ⟨_, rfl⟩
        rw [hcc] at HJN hb0
        rw [errV_pos E hb0] at HJN
        unfold er at HJN
        have HCC := hide hcc
        have HB0 := hide hb0
        clear hcc hb0
        go_wp2_with fail
        refine (unhide HJN).mono ?_
        rintro e w2 ⟨rfl, r2⟩
        obtain ⟨q2, q3, q4, q5, q6, q7, q8⟩ := unhide HQ
        have qr2 := (unhide HQ1).kept (r2.2.block g' hgl q4)
        obtain ⟨c2, f2⟩ := res_more q5 q8 r2
        obtain ⟨ev1, ev2, ev3⟩ := unhide HEV w2 c2
        have ng2 : ¬ Up F' wr w2 g' := fun q => by
          rcases q with q | q
          · exact q4 q
          · omega
        have hle : ∀ x ∈ qs, x ≤ 16777216 := fun x hx => by have := (q6.std x hx).le q3.ok; have := q3.ok.made; omega
        have hrm := removeAll_go ev1.toEnv (fun b q => ev3 b (f2 b q)) ev2 r2.1 qr2.nums (fun g0 o0 n0 c0 e q => by
          injection e with e _ _
          injection e with e
          injection e with ea _ _
          exact ng2 (ea ▸ q)) hle (by rw [unhide HL]; omega)
        rw [unhide HL] at hrm
        have HFN : Hid (∀ w3, Res (Up F' wr w2) w2 sb (remAll Bt.2.1 qs) w3 → Res F w sb A.2.1 w3 ∧ A.1 = cc ∧ A.2.2 = 0) := fun w3 r3 => by
          obtain ⟨c3, f3⟩ := res_more f2 c2 r3
          have e9 := mgA_no (fan := fan) (f := gk - 1) (m := m') (st := st') (qs := qs) (by rw [unhide HL]; exact hlen) (by rw [unhide HBT, unhide HCC]; exact unhide HB0)
          rw [show gk - 1 + 1 = gk by omega, q7, unhide HBT] at e9
          rw [e9]
          exact ⟨res_all c3 f3 r3.1 (unhide HFL), unhide HCC, rfl⟩
        have HRM := hide hrm
        clear q2 q3 q4 q5 q6 q7 q8 qr2 c2 f2 ev1 ev2 ev3 ng2 hle hrm r2 HJN HQ1 HQ
        go_wp2_with fail
        refine (unhide HRM).mono ?_
        rintro e w3 ⟨rfl, r3⟩
        have HF3 := hide (unhide HFN w3 r3)
        clear r3
        go_wp2
        go_ret2
        obtain ⟨z1, z2, z3⟩ := unhide HF3
        rw [z2, z3, errV_pos E (unhide HB0)]
        exact ⟨rfl, z1⟩
end Rs
end Go.Proofs.YtohfhkdhccpoaaaGreatDoor
/- Layer 10: Merge. -/
namespace Go.Proofs.YtohfhkdhccpoaaaGreatDoor
open Go.RowKit Go.Shelf
namespace Rs
open Sm (Tx ofS)

theorem isfan_yes (w : World) (fan : Int) (h1 : 2 ≤ fan) (h2 : fan ≤ 64) : Calls Tryz.prog 36 #[.int .i64 fan] w fun e w' => e = .returned (.bool true) ∧ w' = w := by
  go_enter Tryz.func36, Tryz.ntmps36
  go_wp2
  go_ret
  simp
theorem isfan_no (w : World) (fan : Int) (h : fan < 2 ∨ 64 < fan) : Calls Tryz.prog 36 #[.int .i64 fan] w fun e w' => e = .returned (.bool false) ∧ w' = w := by
  by_cases h1 : fan < 2
  · have h3 : ¬ 2 ≤ fan := by omega
    clear h
    go_enter Tryz.func36, Tryz.ntmps36
    go_wp2
    go_ret
    simp
  · have h2 : ¬ fan ≤ 64 := by omega
    have h3 : 2 ≤ fan := by omega
    clear h h1
    go_enter Tryz.func36, Tryz.ntmps36
    go_wp2
    go_ret
    simp
theorem chk_qs {m : Sto} {st : Nat → List Tx} : ∀ (ks seen : List Nat), (∀ k ∈ ks, Std m k (st k)) → (seen ++ ks).Nodup → chk m (zs seen) (zs ks) = 0
  | [], _, _, _ => rfl
  | k :: t, seen, h, hn => by
    obtain ⟨r, h1, h2, _⟩ := (h k (List.mem_cons_self ..)).run
    have e := rea_ok (a := 0) (n := 0) h1 h2 (by omega)
    have hk : (k : Int) ∉ zs seen := fun q => by
      obtain ⟨x, hx, e⟩ := List.mem_map.1 q
      have : x = k := by omega
      subst this
      exact (List.nodup_append.1 hn).2.2 x hx x (List.mem_cons_self ..) rfl
    rw [show zs (k :: t) = (k : Int) :: zs t from rfl, chk_go (by rw [show rea m (k : Int) 0 0 = ((r.txt.drop 0).take 0, 0) from e]) hk]
    have := chk_qs t (seen ++ [k]) (fun x hx => h x (List.mem_cons_of_mem _ hx)) (by simpa using hn)
    simpa [zs] using this
/-- a list of runs is merged: the failure, the store, the run -/
def mrg (fan : Nat) (m : Sto) (st : Nat → List Tx) (ks : List Nat) : Nat × Sto × Nat := if ks = [] then bat m [] else mgA fan ks.length m st ks
theorem ofS_nil : ofS [] = [] := List.eq_nil_iff_forall_not_mem.2 fun x hx => by rw [Sm.ofS_mem] at hx; cases hx
set_option maxRecDepth 100000 in
set_option maxHeartbeats 4000000 in
theorem merge_go {w : World} {E : Nat → Addr} {Be sb fan : Nat} {m : Sto} {F : Nat → Prop} {v : Value} {ks : List Nat} {st : Nat → List Tx} (V : EnvZ w E Be) (hF : ∀ b, F b → Be ≤ b) (hB : Be ≤ w.heap.size) (h : At w sb m F) (hn : Nums w v (zs ks)) (hq : Qs m st ks) (h2 : 2 ≤ fan) (h64 : fan ≤ 64) (hz : ks.length ≤ 16777216) :
    Calls Tryz.prog 28 #[.pointer (some ⟨sb, 0, none⟩), .int .i64 fan, v] w fun e w' => e = .returned (.tuple #[.int .i64 (mrg fan m st ks).2.2, errV E (mrg fan m st ks).1]) ∧ Res F w sb (mrg fan m st ks).2.1 w' := by
  have HIS := hide (isfan_yes w fan (by omega) (by omega))
  have hck := check_go V hF hB h hn (fun k hk => by
    obtain ⟨x, hx, rfl⟩ := List.mem_map.1 hk
    have := (hq.std x hx).le h.ok
    have := h.ok.made
    omega) (by rw [zs_len]; omega)
  rw [show chk m [] (zs ks) = 0 from chk_qs ks [] hq.std (by simpa using hq.nd), errV_zero] at hck
  have HCK := hide hck
  have HAT : Hid (∀ U, Below w.heap.size w U → At U sb m F ∧ EnvR U E Be ∧ Be ≤ U.heap.size ∧ Nums U v (zs ks)) := fun U hb => ⟨h.kept (fun b q => hb.block b (h.lt b q)) (fun _ x => x) (fun b q => Nat.lt_of_lt_of_le (h.lt b q) hb.size), V.toEnvR.below (hb.mono hB), Nat.le_trans hB hb.size, hn.below hb⟩
  have hFl := h.lt
  by_cases hne : ks = []
  · subst hne
    have HJN : Hid (∀ U, Below w.heap.size w U → Calls Tryz.prog 53 #[.pointer (some ⟨sb, 0, none⟩), .slice none 0 0] U fun e w' => e = .returned (.tuple #[.int .i64 (bat m []).2.2, errV E (bat m []).1]) ∧ Res F w sb (bat m []).2.1 w') := fun U hU => by
      obtain ⟨a1, a2, a3, -⟩ := unhide HAT U hU
      have q := join_go (ks := []) (st := st) a2 hF a3 a1 (v := .slice none 0 0) ⟨none, 0, rfl, fun h => by simp [zs] at h⟩ (fun _ q => by cases q) (fun _ q => by cases q) (by simp) (by simp)
      rw [show ofS (([] : List Nat).map st).flatten = [] from ofS_nil] at q
      exact q.mono fun e w' hh => ⟨hh.1, hh.2.pre hU hFl⟩
    obtain ⟨ao, cap, rfl, -⟩ := hn
    rw [show mrg fan m st [] = bat m [] from if_pos rfl]
    obtain ⟨Bt, hBt⟩ : ∃ Bt, bat m [] = Bt := ⟨_, rfl⟩
    rw [hBt] at HJN ⊢
    rw [show (zs []).length = 0 from rfl] at HCK ⊢
    clear V hF h hq hck HAT hFl hBt
    go_enter Tryz.func28, Tryz.ntmps28
    go_wp2_with (first | (go_at_call 36; refine (unhide HIS).mono ?_; rintro e w1 ⟨rfl, hw1⟩; have hw2 := hw1.symm; subst hw2; clear hw1) | (go_at_call 52; refine (unhide HCK).mono ?_; rintro e w2 ⟨rfl, b2⟩; have HJ := hide (unhide HJN w2 b2); clear b2) | (go_at_call 53; refine (unhide HJ).mono ?_; rintro e w3 ⟨rfl, r3⟩; have HR := hide r3; clear r3))
    go_ret2
    exact ⟨rfl, unhide HR⟩
  · have HMA : Hid (∀ U, Below w.heap.size w U → Calls Tryz.prog 54 #[.pointer (some ⟨sb, 0, none⟩), .int .i64 fan, v] U fun e w' => e = .returned (.tuple #[.int .i64 (mgA fan ks.length m st ks).2.2, errV E (mgA fan ks.length m st ks).1]) ∧ Res F w sb (mgA fan ks.length m st ks).2.1 w') := fun U hU => by
      obtain ⟨a1, a2, a3, a4⟩ := unhide HAT U hU
      exact (mergeAll_go a2 hF a3 a1 a4 hq hne h2 h64 hz).mono fun e w' hh => ⟨hh.1, hh.2.pre hU hFl⟩
    have hpos := List.length_pos_iff.2 hne
    obtain ⟨ao, cap, rfl, -⟩ := hn
    rw [show mrg fan m st ks = mgA fan ks.length m st ks from if_neg hne]
    obtain ⟨A, hA⟩ : ∃ A, mgA fan ks.length m st ks = A := ⟨_, rfl⟩
    rw [hA] at HMA ⊢
    obtain ⟨n, hn⟩ : ∃ n, (zs ks).length = n := ⟨_, rfl⟩
    have hn0 : n ≠ 0 := by rw [← hn, zs_len]; omega
    rw [hn] at HMA HCK ⊢
    have hn1 : ¬ (n : Int) = 0 := by omega
    clear V hF h hq hck HAT hFl hA hne hpos hn hz
    go_enter Tryz.func28, Tryz.ntmps28
    go_wp2_with (first | (go_at_call 36; refine (unhide HIS).mono ?_; rintro e w1 ⟨rfl, hw1⟩; have hw2 := hw1.symm; subst hw2; clear hw1) | (go_at_call 52; refine (unhide HCK).mono ?_; rintro e w2 ⟨rfl, b2⟩; have HJ := hide (unhide HMA w2 b2); clear b2) | (go_at_call 54; refine (unhide HJ).mono ?_; rintro e w3 ⟨rfl, r3⟩; have HR := hide r3; clear r3))
    go_ret2
    exact ⟨rfl, unhide HR⟩
/-- fans that are none -/
theorem merge_fan {w : World} {E : Nat → Addr} {Be sb : Nat} (V : EnvZ w E Be) (fan : Int) (v : Value) (h : fan < 2 ∨ 64 < fan) :
    Calls Tryz.prog 28 #[.pointer (some ⟨sb, 0, none⟩), .int .i64 fan, v] w fun e w' => e = .returned (.tuple #[.int .i64 0, errV E 2]) ∧ Below w.heap.size w w' := by
  have HIS := hide (isfan_no w fan h)
  have hl := V.li
  have hz : 1 < w.heap.size := by have := V.g.sz; omega
  rw [errV_pos E (by decide)]
  unfold er at hl ⊢
  clear V h
  go_enter Tryz.func28, Tryz.ntmps28
  go_wp2_with (go_at_call 36; refine (unhide HIS).mono ?_; rintro e w1 ⟨rfl, hw1⟩; have hw2 := hw1.symm; subst hw2; clear hw1)
  go_quiet (fail)
  go_wp2
  go_ret2
  exact ⟨rfl, ⟨rfl, rfl, rfl, Nat.le_refl _, fun _ _ => rfl⟩⟩
theorem merge_nil {w : World} {E : Nat → Addr} {Be : Nat} (V : EnvZ w E Be) (fan : Int) (v : Value) :
    Calls Tryz.prog 28 #[.pointer none, .int .i64 fan, v] w fun e w' => e = .returned (.tuple #[.int .i64 0, errV E 1]) ∧ Below w.heap.size w w' := by
  have hl := V.g.nil
  have hz : 0 < w.heap.size := by have := V.g.sz; omega
  rw [errV_pos E (by decide)]
  unfold er at hl ⊢
  clear V
  go_enter Tryz.func28, Tryz.ntmps28
  go_wp2
  go_quiet (fail)
  go_wp2
  go_ret2
  exact ⟨rfl, ⟨rfl, rfl, rfl, Nat.le_refl _, fun _ _ => rfl⟩⟩
set_option maxRecDepth 100000 in
theorem merge_chk {w : World} {E : Nat → Addr} {Be sb fan : Nat} {m : Sto} {F : Nat → Prop} {v : Value} {l : List Int} (V : EnvZ w E Be) (hF : ∀ b, F b → Be ≤ b) (hB : Be ≤ w.heap.size) (h : At w sb m F) (hn : Nums w v l) (hk : ∀ k ∈ l, -9223372036854775808 ≤ k ∧ k ≤ 9223372036854775807) (hz : l.length ≤ 140737488351232) (h2 : 2 ≤ fan) (h64 : fan ≤ 64) (hc : chk m [] l ≠ 0) :
    Calls Tryz.prog 28 #[.pointer (some ⟨sb, 0, none⟩), .int .i64 fan, v] w fun e w' => e = .returned (.tuple #[.int .i64 0, errV E (chk m [] l)]) ∧ Below w.heap.size w w' := by
  have HIS := hide (isfan_yes w fan (by omega) (by omega))
  have hck := check_go V hF hB h hn hk hz
  obtain ⟨ao, cap, rfl, -⟩ := hn
  rw [errV_pos E hc] at hck ⊢
  unfold er at hck ⊢
  have HCK := hide hck
  obtain ⟨n, hn⟩ : ∃ n, l.length = n := ⟨_, rfl⟩
  rw [hn] at HCK ⊢
  clear V hF h hk hck hc hn hz
  go_enter Tryz.func28, Tryz.ntmps28
  go_wp2_with (first | (go_at_call 36; refine (unhide HIS).mono ?_; rintro e w1 ⟨rfl, hw1⟩; have hw2 := hw1.symm; subst hw2; clear hw1) | (go_at_call 52; refine (unhide HCK).mono ?_; rintro e w2 ⟨rfl, b2⟩; have HB2 := hide b2; clear b2))
  go_ret2
  exact ⟨rfl, unhide HB2⟩
end Rs
end Go.Proofs.YtohfhkdhccpoaaaGreatDoor
/- Layer 10: Sort. -/
namespace Go.Proofs.YtohfhkdhccpoaaaGreatDoor
open Go.RowKit Go.Shelf
namespace Rs
open Sm (Tx ofS)

theorem addsx_ok : ∀ (X : List Tx) (m : Sto) (f : For), f.Ok m → f.buf.length < f.size → (∀ x ∈ X, x.size ≤ 255) → (adds m f X).1 = 0 → (adds m f X).2.2.Ok (adds m f X).2.1 ∧ (adds m f X).2.2.buf.length < (adds m f X).2.2.size ∧ (adds m f X).2.2.size = f.size
  | [], m, f, ok, hb, _, _ => ⟨ok, hb, rfl⟩
  | x :: t, m, f, ok, hb, hx, h0 => by
    have okp := ok.push (hx x (List.mem_cons_self ..))
    have ht : ∀ y ∈ t, y.size ≤ 255 := fun y hy => hx y (List.mem_cons_of_mem _ hy)
    by_cases h : f.buf.length + 1 < f.size
    · rw [adds_room h] at h0 ⊢
      have hp : (f.push x).buf.length < (f.push x).size := by simp only [For.push, List.length_append, List.length_cons, List.length_nil]; omega
      exact addsx_ok t m (f.push x) okp hp ht h0
    · by_cases h1 : (fwr m (f.push x)).1 = 0
      · rw [adds_go h h1] at h0 ⊢
        obtain ⟨o1, o2, o3⟩ := okp.wrote h1
        have hs1 := o1.s1
        obtain ⟨p1, p2, p3⟩ := addsx_ok t _ _ o1 (by rw [o2]; exact hs1) ht h0
        exact ⟨p1, p2, p3.trans o3⟩
      · rw [adds_no h h1] at h0
        exact absurd h0 h1
/-- batches are formed, and merged -/
theorem sort_fin {w w1 w2 w3 w4 : World} {F F2 G2 F3 : Nat → Prop} {sb : Nat} {m' : Sto} (hF : ∀ b, F b → b < w.heap.size) (b1 : Below w.heap.size w w1) (c2 : Chg (fun b => F b ∨ b = w.heap.size) w1 w2) (f2 : ∀ b, F2 b → Up F w1 w2 b) (g2 : ∀ b, G2 b → Up (fun b => b = w.heap.size) w1 w2 b) (c3 : Chg (fun b => F2 b ∨ G2 b) w2 w3) (f3 : ∀ b, F3 b → Up F2 w2 w3 b) (r : Res F3 w3 sb m' w4) : Res F w sb m' w4 := by
  have s1 := b1.size
  have s2 := c2.size
  have s3 := c3.size
  have s4 := r.2.size
  have e2 : ∀ b, F2 b → F b ∨ w.heap.size ≤ b := fun b q => by
    rcases f2 b q with z | z
    · exact .inl z
    · exact .inr (by omega)
  have e3 : ∀ b, F3 b → F b ∨ w.heap.size ≤ b := fun b q => by
    rcases f3 b q with z | z
    · exact e2 b z
    · exact .inr (by omega)
  have eg : ∀ b, G2 b → w.heap.size ≤ b := fun b q => by
    rcases g2 b q with z | z
    · exact Nat.le_of_eq z.symm
    · omega
  refine ⟨r.1.kept (fun _ _ => rfl) (fun b q => ?_) (fun b q => ?_), ?_⟩
  · have hlt := r.1.lt b q
    rcases q with q | q
    · rcases e3 b q with z | z
      · exact .inl z
      · exact .inr ⟨z, hlt⟩
    · exact .inr ⟨by omega, q.2⟩
  · rcases q with q | q
    · have := hF b q; omega
    · exact q.2
  · refine ⟨r.2.os.trans (c3.os.trans (c2.os.trans b1.os)), r.2.tape.trans (c3.tape.trans (c2.tape.trans b1.tape)), r.2.output.trans (c3.output.trans (c2.output.trans b1.output)), by omega, fun i hi hn => ?_⟩
    have z4 := r.2.block i (by omega) (fun q => by
      rcases e3 i q with z | z
      · exact hn z
      · omega)
    have z3 := c3.block i (by omega) (fun q => by
      rcases q with q | q
      · rcases e2 i q with z | z
        · exact hn z
        · omega
      · have := eg i q; omega)
    have z2 := c2.block i (by omega) (fun q => by
      rcases q with q | q
      · exact hn q
      · omega)
    rw [z4, z3, z2, b1.block i hi]
theorem nums_own {w : World} {v : Value} {l : List Nat} (h : w.ownsRow 0 3 1 v l.length (nts l)) : Nums w v (zs l) := by
  by_cases hl : l = []
  · subst hl
    obtain ⟨a, c, e⟩ := own_nums h
    exact ⟨a, c, e, fun h => by simp [zs] at h⟩
  · obtain ⟨g, -, q⟩ := QR.of_own h hl
    exact q.nums
set_option maxRecDepth 100000 in
set_option maxHeartbeats 4000000 in
theorem sort_go {w : World} {E : Nat → Addr} {Be sb fan b : Nat} {m m1 m2 : Sto} {f1 f2 : For} {F : Nat → Prop} {v : Value} {X : List Tx} {st : Nat → List Tx} (V : EnvZ w E Be) (hF : ∀ b, F b → Be ≤ b) (hB : Be ≤ w.heap.size) (h : At w sb m F) (hT : Um.Txs w v X) (hv : ∀ a n c, v = .slice (some a) n c → ¬ F a.block ∧ a.block < w.heap.size) (hx : ∀ x ∈ X, x.size ≤ 255) (hm : X.length ≤ 9223372036854775806) (hb1 : 1 ≤ b) (hb2 : b ≤ 65536) (h2 : 2 ≤ fan) (h64 : fan ≤ 64)
    (hA : adds m ⟨b, [], [], 0⟩ X = (0, m1, f1)) (hR : fins m1 f1 = (0, m2, f2)) (hq : Qs m2 st f2.made) (hz : f2.made.length ≤ 16777216) :
    Calls Tryz.prog 15 #[.pointer (some ⟨sb, 0, none⟩), .int .i64 b, .int .i64 fan, v] w fun e w' => e = .returned (.tuple #[.int .i64 (mrg fan m2 st f2.made).2.2, errV E (mrg fan m2 st f2.made).1]) ∧ Res F w sb (mrg fan m2 st f2.made).2.1 w' := by
  have hFl := h.lt
  have HNW := hide (fnew_go w sb b hb1 hb2)
  have HIS : Hid (∀ W, Calls Tryz.prog 36 #[.int .i64 fan] W fun e w' => e = .returned (.bool true) ∧ w' = W) := fun W => isfan_yes W fan (by omega) (by omega)
  have hok0 : For.Ok ⟨b, [], [], 0⟩ m := ⟨hb1, hb2, (fun _ q => by cases q), Nat.zero_le _, (fun _ q => by cases q), rfl⟩
  have hok1 := addsx_ok X m ⟨b, [], [], 0⟩ hok0 hb1 hx (by rw [hA])
  rw [hA] at hok1
  have HAD : Hid (∀ w1, FIn w1 sb w.heap.size ⟨b, [], [], 0⟩ (fun y => y = w.heap.size) (.slice none 0 0) (.slice none 0 0) → Below w.heap.size w w1 → Calls Tryz.prog 37 #[.pointer (some ⟨w.heap.size, 0, none⟩), v] w1 fun e w' => e = .returned .nilIface ∧ FRes F (fun y => y = w.heap.size) w1 E sb w.heap.size m1 f1 w') := fun w1 hf b1 => by
    have q := add_go (B := Be) (F := F) ⟨V.toEnv.below (b1.mono hB), hF, (fun b e => by omega), Nat.le_trans hB b1.size⟩ (h.kept (fun b q => b1.block b (h.lt b q)) (fun _ x => x) (fun b q => Nat.lt_of_lt_of_le (h.lt b q) b1.size)) hf (fun b q e => by have := hFl b q; omega) ⟨hb1, hb2, (fun _ q => by cases q), Nat.zero_le _, (fun _ q => by cases q), rfl⟩ hb1 (Wds.of (hT.below b1) (fun y hy a n c e => ?_)) hm (no_long hx)
    · rw [hA] at q
      exact q
    · obtain ⟨v1, v2⟩ := hv a n c e
      rcases hy with hy | hy
      · exact fun z => v1 (z ▸ hy)
      · omega
  have HFN : Hid (∀ w1 w2, Below w.heap.size w w1 → FRes F (fun y => y = w.heap.size) w1 E sb w.heap.size m1 f1 w2 → Calls Tryz.prog 38 #[.pointer (some ⟨w.heap.size, 0, none⟩)] w2 fun e w3 => ∃ a c, e = .returned (.tuple #[.slice a f2.made.length c, .nilIface]) ∧ Calls Tryz.prog 28 #[.pointer (some ⟨sb, 0, none⟩), .int .i64 fan, .slice a f2.made.length c] w3 fun e w' => e = .returned (.tuple #[.int .i64 (mrg fan m2 st f2.made).2.2, errV E (mrg fan m2 st f2.made).1]) ∧ Res F w sb (mrg fan m2 st f2.made).2.1 w') := fun w1 w2 b1 r => by
    obtain ⟨F2, G2, a1, a2, a3, a4, a5, a6⟩ := r
    have s1 := b1.size
    have s2 := a6.size
    have f2b : ∀ b, F2 b → Be ≤ b := fun b q => by
      rcases a4 b q with z | z
      · exact hF b z
      · omega
    have g2b : ∀ b, G2 b → Be ≤ b := fun b q => by
      rcases a5 b q with z | z
      · omega
      · omega
    have bw2 : Below Be w w2 := (b1.mono hB).trans (a6.below (by omega) fun b q => by
      rcases q with q | q
      · exact hF b q
      · omega)
    obtain ⟨bv, mv, hf⟩ := a2.live hok1.1.live
    refine (finish_ok (B := Be) ⟨V.toEnv.below bw2, f2b, g2b, by omega⟩ a1 hf a3 hok1.1 hok1.2.1 hR).mono ?_
    rintro e w3 ⟨a, c, rfl, F3, q1, q2, q3, q4, q5, q6, q7, q8⟩
    refine ⟨a, c, rfl, ?_⟩
    have s3 := q8.size
    have bw3 : Below Be w w3 := bw2.trans (q8.below (by omega) fun b q => q.elim (f2b b) (g2b b))
    refine (merge_go (V.below bw3) (fun b q => ?_) (by omega) q1 (nums_own q3) hq h2 h64 hz).mono ?_
    · rcases q6 b q with z | z
      · exact f2b b z
      · omega
    · rintro e w4 ⟨rfl, r4⟩
      exact ⟨rfl, sort_fin hFl b1 a6 a4 a5 q8 q6 r4⟩
  obtain ⟨A, hAA⟩ : ∃ A, mrg fan m2 st f2.made = A := ⟨_, rfl⟩
  rw [hAA] at HFN ⊢
  obtain ⟨ao, cap, rfl, -⟩ := hT
  clear V hF h hv hx hA hR hq hok0 hok1 hFl hAA hz hm
  go_enter Tryz.func15, Tryz.ntmps15
  go_wp2_with fail
  refine (unhide HNW).mono ?_
  rintro e w1 ⟨rfl, hf1, b1⟩
  have HA := hide (unhide HAD w1 hf1 b1)
  have HB1 := hide b1
  clear hf1 b1 HNW HAD
  go_wp2_with fail
  refine (unhide HIS w1).mono ?_
  rintro e w1' ⟨rfl, hw⟩
  have hw' := hw.symm
  subst hw'
  clear hw
  go_wp2_with fail
  refine (unhide HA).mono ?_
  rintro e w2 ⟨rfl, r2⟩
  have HF := hide (unhide HFN w1 w2 (unhide HB1) r2)
  clear r2 HA HFN
  go_wp2_with fail
  refine (unhide HF).mono ?_
  rintro e w3 ⟨a, c, rfl, hm⟩
  have HM := hide hm
  clear hm HF
  go_wp2_with fail
  refine (unhide HM).mono ?_
  rintro e w4 ⟨rfl, r4⟩
  have HR4 := hide r4
  clear r4
  go_wp2
  go_ret2
  exact ⟨rfl, unhide HR4⟩
end Rs
end Go.Proofs.YtohfhkdhccpoaaaGreatDoor
