/- Layer 5: RunsPlays. -/
import Derived.Test.YtdlmpogmoepkjaaDoorSp
import Derived.Deep.RegionWith
namespace Go.Proofs.YtdlmpogmoepkjaaDoor
open Go.RowKit
namespace Rs
theorem IntsN.mono {w : World} {v : Value} {K : List Int} {B B2 : Nat} (h : IntsN B w v K) (hB : B2 ≤ B) : IntsN B2 w v K := by
  refine ⟨h.1, fun h0 => ?_⟩
  obtain ⟨g, off, c, e, hg⟩ := h.2 h0
  exact ⟨g, off, c, e, Nat.le_trans hB hg⟩
theorem IntsN.slice {w : World} {v : Value} {K : List Int} {B : Nat} (h : IntsN B w v K) : ∃ a c, v = .slice a K.length c := by
  obtain ⟨⟨a, c, e, _⟩, _⟩ := h
  exact ⟨a, c, e⟩
theorem alloc2_heap (w : World) (o1 o2 : Obj) : ((w.alloc o1).alloc o2).heap[w.heap.size]? = some o1 ∧ ((w.alloc o1).alloc o2).heap[w.heap.size + 1]? = some o2 := by
  refine ⟨?_, ?_⟩
  · rw [Below.heap_alloc _ _ _ (by simp)]
    exact (MapKept.heap_alloc w o1).1
  · have := (MapKept.heap_alloc (w.alloc o1) o2).1
    simpa using this
theorem Ints.kept {w w' : World} {v : Value} {K : List Int} (h : Ints w v K) (hb : ∀ b, b < w.heap.size → w'.heap[b]? = w.heap[b]?) (hs : w.heap.size ≤ w'.heap.size) : Ints w' v K := by
  obtain ⟨ao, cap, e, hl, h2⟩ := h
  refine ⟨ao, cap, e, hl, fun h0 => ?_⟩
  obtain ⟨g, off, e1, hg, hc⟩ := h2 h0
  exact ⟨g, off, e1, Nat.lt_of_lt_of_le hg hs, fun j x hx => (World.cell?_of_block (a := ⟨g, off + j, none⟩) (hb g hg)).trans (hc j x hx)⟩
/-- both answers' lists, behind the second call -/
theorem two_lists {w3 W2 w5 W : World} {u v : Value} {K : List Int} {D B1 : Nat} (h1 : IntsN B1 w3 u K) (hD : D ≤ B1) (hb : Below w3.heap.size w3 W2) (hs : W2.heap.size = w3.heap.size + 2) (hk : ∀ b, D ≤ b → b < W2.heap.size → w5.heap[b]? = W2.heap[b]?) (hs5 : W2.heap.size ≤ w5.heap.size) (h2 : IntsN W2.heap.size w5 v K) (c : Chg (fun b => w3.heap.size ≤ b ∧ b < w3.heap.size + 2) w5 W) : Ints W u K ∧ Ints W v K := by
  refine ⟨?_, ?_⟩
  · refine (h1.keep (w' := W) (fun b x y => ?_) (by have := c.size; omega)).1
    rw [c.block b (by omega) (fun e => by omega), hk b (by omega) (by omega), hb.block b y]
  · exact (h2.keep (fun b x y => c.block b y fun e => by omega) c.size).1

set_option maxRecDepth 100000 in
set_option maxHeartbeats 2000000 in
theorem plays_law {w : World} {v : Value} {c : Int} {os : List (Op5 × Value)} {E : Nat → Addr} (V : Env w E w.heap.size) (hs : Script w v os) (hc1 : -9223372036854775808 ≤ c) (hc2 : c ≤ 9223372036854775807) :
    Calls Tryd.prog 3 #[.int .i64 c, v] w fun e w' => e = .returned (.bool true) ∧ Below w.heap.size w w' := by
  have HSN := hide (sep_new (Sep.nil w fun _ => 0) c hc1 hc2)
  have HTN : Hid (∀ {L : List Thing} {D : Nat → Nat} {w1 : World}, Sep w L D w1 → Calls Tryd.prog 7 #[.int .i64 c] w1 fun e w' => e = .returned (.pointer (some ⟨w1.heap.size, 0, none⟩)) ∧ Sep w (L ++ [docT w1.heap.size (newS c)]) (fun _ => w'.heap.size) w') := fun h => sep_dnew h c hc1 hc2
  obtain ⟨ao, cap, rfl, hn, hok, hat⟩ := hs
  have HAT := hide hat
  have HOK := hide hok
  have HV := hide V
  obtain ⟨N, hN⟩ : ∃ N, N = os.length := ⟨_, rfl⟩
  have HN := hide hN
  rw [← hN] at hn ⊢
  clear hat hok hN V
  go_enter Tryd.func3, Tryd.ntmps3
  go_wp2_with (first | (go_at_call 6; refine (unhide HSN).mono ?_; clear HSN; rintro e w1 ⟨rfl, hb1⟩; have HS1 := hide hb1; clear hb1) | (go_at_call 7; refine (unhide HTN (unhide HS1)).mono ?_; clear HTN; rintro e w2 ⟨rfl, hb2⟩; have HT := hide hb2; clear hb2) | (go_at_call 8; refine (sep_wakes (unhide HV) (unhide HT)).mono ?_; clear HT; rintro e w3 ⟨rfl, hb3⟩; have HT := hide hb3; clear hb3))
  simp only [List.nil_append, List.cons_append] at HT
  go_loopw [22] (fun i wr => ∃ (k : Nat) (m : Sto), k ≤ N ∧ i = .int .i64 k ∧ Hid (Sep w [stoT w.heap.size m, docT w1.heap.size m] (fun _ => wr.heap.size) wr)) (fun i _ => N - (intOf i).toNat)
  case atStart => exact ⟨0, newS c, Nat.zero_le _, rfl, HT⟩
  case round =>
    obtain ⟨k, m, hk, rfl, HB⟩ := hrel
    clear HT
    by_cases hlt : k < N
    · have hltz : (k : Int) < (N : Int) := by omega
      have hk0 : 0 ≤ (k : Int) := by omega
      obtain ⟨p, hp⟩ : ∃ p, os[k]? = some p := ⟨_, List.getElem?_eq_getElem (by rw [← unhide HN]; exact hlt)⟩
      obtain ⟨g, off, rfl, hg, hc⟩ := unhide HAT (by rw [← unhide HN]; omega)
      have q := hc k p hp
      have hin := unhide HOK p (List.mem_of_getElem? hp)
      have l : ∀ o, wr.cell? ⟨g, o, none⟩ = w.cell? ⟨g, o, none⟩ := fun o => (unhide HB).old.cell (p := ⟨g, o, none⟩) hg
      have d0 := (l _).trans q.c0
      have d1 := (l _).trans q.c1
      have d2 := (l _).trans q.c2
      have d3 := (l _).trans q.c3
      have d4 := (l _).trans q.c4
      have HP1 : Hid (∀ W, Below wr.heap.size wr W → Calls Tryd.prog 9 #[.pointer (some ⟨w.heap.size, 0, none⟩), opV p.1 p.2] W fun e w' => ∃ lv, e = .returned (ansV (ply m p.1).1 lv) ∧ (∀ W5, Chg (fun b => wr.heap.size ≤ b ∧ b < W.heap.size) w' W5 → Sep w [stoT w.heap.size (ply m p.1).2, docT w1.heap.size m] (updN (fun _ => wr.heap.size) 0 w'.heap.size) W5) ∧ IntsN W.heap.size w' lv (ply m p.1).1.l ∧ W.heap.size ≤ w'.heap.size ∧ ∀ b, wr.heap.size ≤ b → b < W.heap.size → w'.heap[b]? = W.heap[b]?) := fun W hb => sep_play (i := 0) (unhide HV) (unhide HB) hb rfl hin
      have HP2 : Hid (∀ {m1 : Sto} {x : Nat} (w3 W : World), Sep w [stoT w.heap.size m1, docT w1.heap.size m] (updN (fun _ => wr.heap.size) 0 x) w3 → Below w3.heap.size w3 W → Calls Tryd.prog 11 #[.pointer (some ⟨w1.heap.size, 0, none⟩), opV p.1 p.2] W fun e w' => ∃ lv, e = .returned (ansV (ply m p.1).1 lv) ∧ (∀ W5, Chg (fun b => w3.heap.size ≤ b ∧ b < W.heap.size) w' W5 → Sep w [stoT w.heap.size m1, docT w1.heap.size (ply m p.1).2] (fun _ => W5.heap.size) W5) ∧ IntsN W.heap.size w' lv (ply m p.1).1.l ∧ W.heap.size ≤ w'.heap.size ∧ ∀ b, wr.heap.size ≤ b → b < W.heap.size → w'.heap[b]? = W.heap[b]?) := fun w3 W h3 hb => (sep_says (i := 1) h3 hb rfl hin).mono fun e w' hh => by
        obtain ⟨lv, e1, e2, e3⟩ := hh
        exact ⟨lv, e1, fun W5 c => (e2 W5 c).reset, e3⟩
      obtain ⟨pa, pc, epv, -, -⟩ := hin.st
      unfold opV ansV at HP1 HP2
      rw [epv] at HP1 HP2 d4
      generalize p.1.L.length = PL at *
      clear q hc l hin epv hp
      generalize ply m p.1 = R at *
      obtain ⟨⟨rn, rc, rt, K⟩, rm⟩ := R
      dsimp only at HP1 HP2
      have HSM : Hid (∀ {W : World} {u v : Value}, Ints W u K → Ints W v K → Calls Tryd.prog 10 #[.agg #[.int .i64 rn, .int .i64 rc, .string (strB rt), u], .agg #[.int .i64 rn, .int .i64 rc, .string (strB rt), v]] W fun e w' => e = .returned (.bool true) ∧ Below W.heap.size W w') := fun h1 h2 => same_eq rn rc (strB rt) h1 h2
      go_wp2_with (go_at_call 9; refine (unhide HP1 _ (by (repeat (first | exact Below.refl _ _ | refine Below.drew ?_ | refine Below.alloc ?_ (by first | (simp; done) | (simp; omega)) _ | refine Below.setCell ?_ (by first | (simp; done) | (simp; omega)) _)))).mono ?_; clear HP1; rintro e w3 ⟨lv, rfl, ht3, hi3, hs3, hk3⟩; obtain ⟨la, lc, rfl⟩ := hi3.slice; obtain ⟨hcc, hff⟩ := cells_of hk3; have hz3 : wr.heap.size < w3.heap.size := (by simp at hs3; omega); have HT3 := hide ht3; have HI3 := hide (IntsN.mono (B2 := wr.heap.size) hi3 (by simp)); clear ht3 hi3 hs3 hk3)
      refine gen_world ?_
      intro V hV
      have a0 : V.cell? ⟨w3.heap.size, 0, none⟩ = some (.int .i64 rn) := by rw [hV]; go_simp
      have a1 : V.cell? ⟨w3.heap.size, 1, none⟩ = some (.int .i64 (rc : Int)) := by rw [hV]; go_simp
      have a2 : V.cell? ⟨w3.heap.size, 2, none⟩ = some (.string (strB rt)) := by rw [hV]; go_simp
      have a3 : V.cell? ⟨w3.heap.size, 3, none⟩ = some (.slice la K.length lc) := by rw [hV]; go_simp
      have o0 : V.cell? ⟨wr.heap.size, 0, none⟩ = some (.int .i64 p.1.kd) := by rw [hV]; go_simp
      have o1 : V.cell? ⟨wr.heap.size, 1, none⟩ = some (.int .i64 p.1.run) := by rw [hV]; go_simp
      have o2 : V.cell? ⟨wr.heap.size, 2, none⟩ = some (.int .i64 p.1.at_) := by rw [hV]; go_simp
      have o3 : V.cell? ⟨wr.heap.size, 3, none⟩ = some (.int .i64 p.1.n) := by rw [hV]; go_simp
      have o4 : V.cell? ⟨wr.heap.size, 4, none⟩ = some (.slice pa PL pc) := by rw [hV]; go_simp
      have zV : V.heap.size = w3.heap.size + 1 := by rw [hV]; simp
      have HBV : Hid (Below w3.heap.size w3 V) := by rw [hV]; exact (Below.refl _ w3).alloc (Nat.le_refl _) _
      have HS3 := hide (unhide HT3 w3 (Chg.refl _ _))
      clear hV hcc hff d0 d1 d2 d3 d4 HT3
      go_region_with (first
        | (go_at_call 11; refine (unhide HP2 w3 _ (unhide HS3) (by first | exact unhide HBV | exact (unhide HBV).drew)).mono ?_; rintro e w5 ⟨lv2, rfl, ht5, hi5, hs5, hk5⟩; obtain ⟨la2, lc2, rfl⟩ := hi5.slice; obtain ⟨hc5, hf5⟩ := cells_of hk5
           have b0 := (hc5 w3.heap.size 0 (by omega) (by show w3.heap.size < V.heap.size; omega)).trans a0
           have b1 := (hc5 w3.heap.size 1 (by omega) (by show w3.heap.size < V.heap.size; omega)).trans a1
           have b2 := (hc5 w3.heap.size 2 (by omega) (by show w3.heap.size < V.heap.size; omega)).trans a2
           have b3 := (hc5 w3.heap.size 3 (by omega) (by show w3.heap.size < V.heap.size; omega)).trans a3
           have HT6 := hide ht5
           have HL5 : Hid (Ints w5 (.slice la K.length lc) K ∧ Ints w5 (.slice la2 K.length lc2) K) := ⟨((unhide HI3).keep (w' := w5) (fun b x y => (hk5 b x (by show b < V.heap.size; omega)).trans ((unhide HBV).block b y)) (by have : V.heap.size ≤ w5.heap.size := hs5; omega)).1, hi5.1⟩
           clear ht5 hi5 hs5 hk5 hc5 hf5)
        | (go_at_call 10; refine (unhide HSM (unhide HL5).1 (unhide HL5).2).mono ?_; rintro e w6 ⟨rfl, hb6⟩; have HB6 := hide hb6; clear hb6))
      all_goals
        go_wp2
        refine ⟨⟨k + 1, rm, by omega, by go_num, ?_⟩, by simp [intOf]; omega⟩
        exact ((unhide HT6 w5 (Chg.refl _ _)).below (unhide HB6)).reset
    · have hltz : ¬ (k : Int) < (N : Int) := by omega
      go_wp2
      go_ret
      exact ⟨rfl, (unhide HB).old⟩
end Rs
end Go.Proofs.YtdlmpogmoepkjaaDoor
