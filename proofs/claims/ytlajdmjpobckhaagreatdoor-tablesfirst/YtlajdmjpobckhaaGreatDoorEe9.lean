/- The law of layer 13 wakes; the walk of TablesFirst, whole. -/
import Derived.Test.YtlajdmjpobckhaaGreatDoorEe8
namespace Go.Proofs.YtlajdmjpobckhaaGreatDoor
open Go.RowKit
namespace Af
open RowB
set_option maxRecDepth 100000 in
set_option maxHeartbeats 4000000 in
theorem suf_1 {w : World} {tb B n wb : Nat} {F : Fil} {P : Pts} {E : List Ent} {Q : WPts} {vu ve : Value} {nv fv : List Value} (h : TbAt w tb B F P n wb E Q vu ve nv fv) (hm : E.length ≤ 1000000) {k : Nat} {y : Ent} (hy : E[k]? = some y) {x : Int} (hfl : y.flags = [x]) (hx0 : 0 ≤ x) (hx1 : x ≤ 65535) {i : Nat} {c : Cls} (hf : findC F.classes x = some i) (hc : F.classes[i]? = some c) (hk : c.kind = 2) (h0 : c.first = 0) (hcm : c.count ≤ 1000) (hm0 : 0 < c.count) :
    Calls Tryz.prog 27 #[.pointer (some ⟨tb, 0, none⟩), .int .i64 (k : Nat)] w fun e w' => ∃ u, e = .returned u ∧ w'.ownsRow w.heap.size 3 1 u c.count (upto c.count) ∧ Below w.heap.size w w' := by
  have HE := hide (entry_in h hm hy)
  have HN := hide (fun W (b : Below w.heap.size w W) v (hv : So.FArg W v [x]) => named_1 (h.below b) hv hx0 hx1 hf hc h0 hcm hm0)
  rw [hk] at HN
  rw [hfl] at HE
  clear h hm hy hfl hx0 hx1 hf hc hk h0 hcm hm0
  generalize c.count = m at *
  go_enter Tryz.func27, Tryz.ntmps27
  go_wp2_with fail
  refine (unhide HE).mono ?_
  rintro e w1 ⟨a, c, rfl, hA, b1⟩
  have B1 := hide b1
  have HV := hide (hA.below ((unhide B1).alloc (unhide B1).size (.cells #[.string (Wd.str y.word), .slice a 1 c] 41)))
  have hlen : ([x] : List Int).length = 1 := rfl
  rw [hlen] at *
  clear hA b1
  go_wp2_with fail
  refine (unhide HN _ ((unhide B1).alloc (unhide B1).size _) _ (unhide HV)).mono ?_
  rintro e w2 ⟨u, rfl, hr, b2⟩
  have HR := hide hr
  have b1w : Below w1.heap.size w1 (w1.alloc (.cells #[.string (Wd.str y.word), .slice a 1 c] 41)) := (Below.refl _ _).alloc (Nat.le_refl _) _
  have HB := hide (btr (unhide B1) (b1w.trans (b2.mono b1w.size)))
  have hsz := b1w.size
  have hsz2 := (unhide B1).size
  clear hr b2 b1w
  go_wp2
  go_ret
  exact ⟨_, rfl, own_low (unhide HR) (by omega), unhide HB⟩
set_option maxRecDepth 100000 in
set_option maxHeartbeats 4000000 in
theorem ints13 {w : World} {g g' c c' m : Nat} (h1 : ∀ j, j < m → w.cell? ⟨g, j, none⟩ = some (.int .i64 (j : Nat))) (h2 : ∀ j, j < m → w.cell? ⟨g', j, none⟩ = some (.int .i64 (j : Nat))) (hm : m ≤ 1000) :
    Calls Tryz.prog 42 #[.slice (some ⟨g, 0, none⟩) m c, .slice (some ⟨g', 0, none⟩) m c'] w fun e w' => e = .returned (.bool true) ∧ Below w.heap.size w w' := by
  have H1 := hide h1
  have H2 := hide h2
  clear h1 h2
  go_enter Tryz.func42, Tryz.ntmps42
  go_wp2
  go_loopw [13] (fun s wr => ∃ k q : Nat, k ≤ m ∧ s = .int .i64 k ∧ wr = w.drewN q) (fun s _ => m - (intOf s).toNat)
  case atStart => exact ⟨0, 0, Nat.zero_le _, rfl, rfl⟩
  case round =>
    obtain ⟨k, q, hk, rfl, rfl⟩ := hrel
    by_cases hlt : k < m
    · have hltz : (k : Int) < (m : Int) := by omega
      have c1 := unhide H1 k hlt
      have c2 := unhide H2 k hlt
      go_wp2
      go_quiet (fail)
      go_wp2
      go_roundw
      case rel => exact ⟨k + 1, _, by omega, by go_num, rfl⟩
      case measure => simp [intOf]; omega
    · obtain rfl : k = m := by omega
      have hltz : ¬ (k : Int) < (k : Int) := by omega
      go_wp2
      go_ret
      exact ⟨rfl, So.drew_below _ _ _⟩
def wkT3 : Bs := [83, 70, 88, 32, 65, 32, 89, 32, 50, 10, 83, 70, 88, 32, 65, 32, 48, 32, 115, 10, 83, 70, 88, 32, 65, 32, 48, 32, 101, 114, 10]
def wkD3 : Bs := [49, 10, 100, 111, 47, 65, 10]
def wkF3 : Fil := ⟨1, [], [], [0, 0, 0, 0, 0], 3, [], [], [⟨65, 2, true, 0, 2⟩], [⟨2, 65, true, [], [115], [46], [], 2⟩, ⟨2, 65, true, [], [101, 114], [46], [], 3⟩]⟩
theorem wk_aff3 : affR wkT3 = .ok wkF3 := by kernel_rfl
theorem wk_dic3 : dicR wkF3 wkD3 = .ok [⟨[100, 111], [65]⟩] := by kernel_rfl
/-- what the wakes' tables answer -/
def WkT (tb : Nat) (w1 : World) : Prop := ∀ W, Below w1.heap.size w1 W → (Calls Tryz.prog 27 #[.pointer (some ⟨tb, 0, none⟩), .int .i64 0] W fun e W' => ∃ g c, e = .returned (.slice (some ⟨g, 0, none⟩) 2 c) ∧ g < W'.heap.size ∧ (∀ j, j < 2 → W'.cell? ⟨g, j, none⟩ = some (.int .i64 (j : Nat))) ∧ Below W.heap.size W W') ∧ (Calls Tryz.prog 43 #[.pointer (some ⟨tb, 0, none⟩), .int .i64 1] W fun e W' => e = .returned (.bool true) ∧ Below W.heap.size W W')
theorem wk_read (w : World) (hM : Mx w.heap.size w) : Calls Tryz.prog 23 #[.string ⟨#[83, 70, 88, 32, 65, 32, 89, 32, 50, 10, 83, 70, 88, 32, 65, 32, 48, 32, 115, 10, 83, 70, 88, 32, 65, 32, 48, 32, 101, 114, 10]⟩, .string ⟨#[49, 10, 100, 111, 47, 65, 10]⟩] w fun e w1 => ∃ tb, e = .returned (.tuple #[.pointer (some ⟨tb, 0, none⟩), .agg #[.int .i64 0, .int .i64 0, .int .i64 0]]) ∧ Below w.heap.size w w1 ∧ WkT tb w1 := by
  refine (tread_ok ⟨#[83, 70, 88, 32, 65, 32, 89, 32, 50, 10, 83, 70, 88, 32, 65, 32, 48, 32, 115, 10, 83, 70, 88, 32, 65, 32, 48, 32, 101, 114, 10]⟩ ⟨#[49, 10, 100, 111, 47, 65, 10]⟩ hM (F := wkF3) wk_aff3 (E := [⟨[100, 111], [65]⟩]) wk_dic3).mono ?_
  rintro e w1 ⟨b, tb, B, P, n, wb, Q, vu, ve, nv, fv, rfl, h⟩
  refine ⟨tb, rfl, b, fun W bW => ⟨?_, ?_⟩⟩
  · refine (suf_1 (h.below bW) (by decide) (k := 0) (y := ⟨[100, 111], [65]⟩) rfl (x := 65) rfl (by decide) (by decide) (i := 0) (c := ⟨65, 2, true, 0, 2⟩) rfl rfl rfl rfl (by decide) (by decide)).mono ?_
    rintro e W' ⟨u, rfl, hr, b2⟩
    obtain ⟨g, cap, rfl, -, hg, -, -, -, hc⟩ := own_at hr (by decide)
    refine ⟨g, cap, rfl, hg, fun j hj => ?_, b2⟩
    rw [hc j (by simp only [Nat.mul_one]; exact hj)]
    match j, hj with
    | 0, _ => rfl
    | 1, _ => rfl
  · exact ends_0 (h.below bW) (by decide) (k := 1) (r := ⟨2, 65, true, [], [101, 114], [46], [], 3⟩) rfl rfl
set_option maxRecDepth 100000 in
set_option maxHeartbeats 4000000 in
theorem wakes13_any (w : World) (hM : Mx w.heap.size w) : Calls Tryz.prog 22 #[] w fun e w' => e = .returned (.bool true) ∧ Below w.heap.size w w' := by
  have HR := hide (wk_read w hM)
  clear hM
  go_enter Tryz.func22, Tryz.ntmps22
  go_wp2_with fail
  refine (unhide HR).mono ?_
  rintro e w1 ⟨tb, rfl, b1, hk⟩
  have B1 := hide b1
  have HK := hide hk
  unfold WkT at HK
  have h0 : Below w1.heap.size w1 (w1.alloc (.cells #[.int .i64 0, .int .i64 0, .int .i64 0] 29)) := (Below.refl _ _).alloc (Nat.le_refl _) _
  have H0 := hide h0
  clear b1 hk h0
  go_wp2_with fail
  refine (unhide HK _ (unhide H0)).1.mono ?_
  rintro e w2 ⟨g, c, rfl, hg, hc, b2⟩
  have B2 := hide (btr (unhide H0) b2)
  obtain ⟨V, hV⟩ : ∃ V, V = w2.alloc (.cells #[.int .i64 0, .int .i64 1] 3) := ⟨_, rfl⟩
  have bV : Below w2.heap.size w2 V := by rw [hV]; exact (Below.refl _ _).alloc (Nat.le_refl _) _
  have hn : V.heap[w2.heap.size]? = some (.cells #[.int .i64 0, .int .i64 1] 3 (0, 0)) := by rw [hV]; exact alloc_new _ _
  have HI := hide (fun c' => ints13 (w := V) (g := g) (g' := w2.heap.size) (c := c) (c' := c') (m := 2) (fun j hj => (bV.cell (p := ⟨g, j, none⟩) hg).trans (hc j hj)) (fun j hj => by
    match j, hj with
    | 0, _ => simp [World.cell?, hn]
    | 1, _ => simp [World.cell?, hn]) (by decide))
  have BV := hide (btr (unhide B2) bV)
  rw [hV] at HI BV
  clear hg hc b2 hn bV hV
  go_wp2_with fail
  refine (unhide HI _).mono ?_
  rintro e w3 ⟨rfl, b3⟩
  have B3 := hide (btr (unhide BV) b3)
  clear b3 HI
  go_wp2_with fail
  refine (unhide HK _ (unhide B3)).2.mono ?_
  rintro e w4 ⟨rfl, b4⟩
  have B4 := hide (btr (unhide B1) (btr (unhide B3) b4))
  clear b4
  go_wp2
  go_ret
  exact ⟨rfl, unhide B4⟩
theorem tfirst_walk (a s t : ByteArray) (w : World) (hM : Mx w.heap.size w) : TFirst a s t w := tfirst_of a s t w hM fun W b => wakes13_any W (hM.up b)
end Af
end Go.Proofs.YtlajdmjpobckhaaGreatDoor
