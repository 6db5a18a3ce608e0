/- Layer 8: the walk of StreamsHalves. -/
import Derived.Test.YtamlfmohalkemaaZm
namespace Go.Proofs.Ytamlfmohalkemaa
open Go.RowKit Go.Shelf
namespace Sm

set_option maxRecDepth 100000 in
set_option maxHeartbeats 8000000 in
theorem halves_walk {w : World} {v : Value} {A : List Tx} (y : Tx) (h : RowAt w v A w.heap.size) (hz : A.length ≤ 8796093022208) :
    Calls Try.prog 6 #[v, .string y] w fun e w' => e = .returned (.bool true) ∧ Below w.heap.size w w' := by
  have H := hide h
  obtain ⟨ao, cA, rfl, -⟩ := h
  have hLz : (ofS A).length ≤ 8796093022208 := Nat.le_trans (ofS_len A) hz
  go_enter Try.func6, Try.ntmps6
  go_wp2_with fail
  refine (wakes_true w).mono ?_
  rintro e w1 ⟨rfl, b1⟩
  have s1 := b1.size
  have HF1 := hide b1
  clear b1
  go_wp2_with fail
  refine (twin_any (((unhide H).below (unhide HF1)).mono s1) hz).mono ?_
  rintro e w2 ⟨a2, c2, rfl, ho2, hn2, hb2⟩
  have s2 := hb2.size
  have HF2 := hide (⟨ho2, (unhide HF1).trans (hb2.mono s1)⟩ : _ ∧ _)
  clear HF1 ho2 hn2 hb2
  go_wp2_with fail
  obtain ⟨ho2, b2⟩ := unhide HF2
  refine (of_any (own_row ho2) hz).mono ?_
  rintro e w3 ⟨g3, m3, rfl, hw3, hb3⟩
  have S3 := hide (StB.new hw3 (ofS_rs A) hLz)
  have b3 := b2.trans (hb3.mono (by omega))
  have B3 := hide (b3.alloc b3.size (.cells #[.func (.func g3) #[] m3] 27))
  clear HF2 ho2 b2 hw3 hb3 H b3
  generalize ofS A = L at *
  go_wp2_with fail
  refine ((unhide S3).from y).mono ?_
  rintro e w4 ⟨g4, l4, rfl, hw4, hb4⟩
  have hb4' := hb4.alloc hb4.size (.cells #[.func (.func g4) #[] l4] 27)
  have S4 := hide (StB.new hw4 (frm_rs (y := y) (unhide S3).rs) (Nat.le_trans (frm_len y L) hLz))
  have S3b := hide ((unhide S3).below hb4')
  have B4 := hide ((unhide B3).trans (hb4'.mono (unhide B3).size))
  have k1 := (unhide S3b).box.cell
  have k2 := (unhide S4).box.cell
  clear hw4 hb4 hb4' S3 B3
  go_wp2_with fail
  refine ((unhide S3b).minus (unhide S4)).mono ?_
  rintro e w5 ⟨g5, l5, rfl, hw5, hb5⟩
  have hb5' := hb5.alloc hb5.size (.cells #[.func (.func g5) #[] l5] 27)
  have S5 := hide (StB.new hw5 (agn_rs (unhide S3b).rs) (Nat.le_trans (agn_len _ L false) hLz))
  have S3c := hide ((unhide S3b).below hb5')
  have S4c := hide ((unhide S4).below hb5')
  have B5 := hide ((unhide B4).trans (hb5'.mono (unhide B4).size))
  clear k1 k2 hw5 hb5 hb5' S3b S4 B4
  have k1 := (unhide S4c).box.cell
  go_wp2_with fail
  refine ((unhide S4c).list 1099511627776).mono ?_
  rintro e w6 ⟨a6, c6, rfl, ho6, hb6⟩
  have S3d := hide ((unhide S3c).below hb6)
  have S4d := hide ((unhide S4c).below hb6)
  have S5d := hide ((unhide S5).below hb6)
  have B6 := hide ((unhide B5).trans (hb6.mono (unhide B5).size))
  have P6 : Hid (∀ x ∈ (frm y L).take (1099511627776 : Int).toNat, lt x y = false) := fun x hx => (frm_mem.1 (List.mem_of_mem_take hx)).2
  have R6 := hide (own_row ho6)
  have z6 : ((frm y L).take (1099511627776 : Int).toNat).length ≤ 8796093022208 := by have := (unhide S4c).len; rw [List.length_take]; omega
  clear ho6 hb6 S3c S4c S5 B5 k1
  generalize (frm y L).take (1099511627776 : Int).toNat = U6 at *
  go_wp2
  go_loopw [27] (fun p wr => ∃ (k : Nat), p = .int .i64 (k : Int) ∧ k ≤ U6.length ∧ wr = w6) (fun p _ => U6.length - (intOf p).toNat)
  case atStart => exact ⟨0, rfl, Nat.zero_le _, rfl⟩
  case round =>
    obtain ⟨k, rfl, hk, rfl⟩ := hrel
    by_cases hkl : k < U6.length
    · obtain ⟨ao6, cc6, e6, hat6⟩ := unhide R6
      injection e6 with e6a e6b e6c
      subst e6a e6c
      clear e6b
      obtain ⟨g, off, rfl, hg, hc⟩ := hat6 (by omega)
      obtain ⟨x, hx⟩ : ∃ x, U6[k]? = some x := ⟨_, List.getElem?_eq_getElem hkl⟩
      have c1 : wr.cell? ⟨g, off + k, none⟩ = some (.string x) := hc k x hx
      have hlt : Op.bytesLess x.toList y.toList = false := unhide P6 x (List.mem_of_getElem? hx)
      clear hat6 hc hx
      go_wp2
      go_roundw
      case rel => exact ⟨k + 1, by simp, by omega, (by first | trivial | rfl)⟩
      case measure => simp [intOf]; omega
    · have k1 := (unhide S5d).box.cell
      go_wp2_with fail
      refine ((unhide S5d).list 1099511627776).mono ?_
      rintro e w7 ⟨a7, c7, rfl, ho7, hb7⟩
      have S3e := hide ((unhide S3d).below hb7)
      have S4e := hide ((unhide S4d).below hb7)
      have S5e := hide ((unhide S5d).below hb7)
      have B7 := hide ((unhide B6).trans (hb7.mono (unhide B6).size))
      have P7 : Hid (∀ x ∈ (agn (frm y L) false L).take (1099511627776 : Int).toNat, lt x y = true) := fun x hx => by
        obtain ⟨q1, q2⟩ := agn_mem.1 (List.mem_of_mem_take hx)
        cases q : lt x y with
        | true => rfl
        | false =>
          have := mem_iff.2 (frm_mem.2 ⟨q1, q⟩)
          rw [this] at q2; cases q2
      have R7 := hide (own_row ho7)
      have z7 : ((agn (frm y L) false L).take (1099511627776 : Int).toNat).length ≤ 8796093022208 := by have := (unhide S5d).len; rw [List.length_take]; omega
      clear ho7 hb7 S3d S4d S5d B6 k1 R6 P6 z6
      generalize (agn (frm y L) false L).take (1099511627776 : Int).toNat = U7 at R7 P7 z7 ⊢
      go_wp2
      go_loopw [38] (fun p wr => ∃ (k : Nat), p = .int .i64 (k : Int) ∧ k ≤ U7.length ∧ wr = w7) (fun p _ => U7.length - (intOf p).toNat)
      case atStart => exact ⟨0, rfl, Nat.zero_le _, rfl⟩
      case round =>
        obtain ⟨j, rfl, hj, rfl⟩ := hrel
        by_cases hjl : j < U7.length
        · obtain ⟨ao7, cc7, e7, hat7⟩ := unhide R7
          injection e7 with e7a e7b e7c
          subst e7a e7c
          clear e7b
          obtain ⟨g, off, rfl, hg, hc⟩ := hat7 (by omega)
          obtain ⟨x, hx⟩ : ∃ x, U7[j]? = some x := ⟨_, List.getElem?_eq_getElem hjl⟩
          have c1 : wr.cell? ⟨g, off + j, none⟩ = some (.string x) := hc j x hx
          have hlt : Op.bytesLess x.toList y.toList = true := unhide P7 x (List.mem_of_getElem? hx)
          clear hat7 hc hx
          go_wp2
          go_roundw
          case rel => exact ⟨j + 1, by simp, by omega, (by first | trivial | rfl)⟩
          case measure => simp [intOf]; omega
        · have k1 := (unhide S4e).box.cell
          go_wp2_with fail
          refine ((unhide S4e).list 1).mono ?_
          rintro e w8 ⟨a8, c8, rfl, ho8, hb8⟩
          have S3f := hide ((unhide S3e).below hb8)
          have S4f := hide ((unhide S4e).below hb8)
          have S5f := hide ((unhide S5e).below hb8)
          have B8 := hide ((unhide B7).trans (hb8.mono (unhide B7).size))
          have R8 := own_row ho8
          have hlen := halves_len (y := y) (L := L)
          have hless := least_of (y := y) (unhide S3f).rs
          have hmem := mem_iff (R := L) (x := y)
          clear ho8 hb8 S3e S4e S5e B7 k1 R7 P7 z7
          rw [show (1 : Int).toNat = 1 from rfl] at R8 ⊢
          have hsum : (((frm y L).length : Int) + ((agn (frm y L) false L).length : Int) == (L.length : Int)) = true := by rw [beq_iff_eq]; omega
          have l1 := (unhide S3f).len
          have l2 := (unhide S4f).len
          have l3 := (unhide S5f).len
          have HMY0 := hide (fun W (hW : Below w8.heap.size w8 W) => ((unhide S3f).below hW).has y)
          have hmem' : mem L y = true ↔ (frm y L).head? = some y := hmem.trans hless
          clear hlen hless hmem
          generalize agn (frm y L) false L = Lo at *
          generalize frm y L = U at *
          generalize mem L y = my at *
          rcases U with _ | ⟨z, S⟩
          · have hno : my = false := by
              cases my with
              | false => rfl
              | true => have := hmem'.1 rfl; cases this
            subst hno
            simp only [List.length_nil, List.take_nil] at *
            have HCU : Hid (∀ W, Below w8.heap.size w8 W → Calls Try.prog 20 #[.agg #[.func (.func g4) #[] l4]] W fun e w' => e = .returned (.int .i64 0) ∧ Below W.heap.size W w') := fun W hW => ((unhide S4f).below hW).count
            have HCL : Hid (∀ W, Below w8.heap.size w8 W → Calls Try.prog 20 #[.agg #[.func (.func g5) #[] l5]] W fun e w' => e = .returned (.int .i64 (Lo.length : Int)) ∧ Below W.heap.size W w') := fun W hW => ((unhide S5f).below hW).count
            have HCS : Hid (∀ W, Below w8.heap.size w8 W → Calls Try.prog 20 #[.agg #[.func (.func g3) #[] m3]] W fun e w' => e = .returned (.int .i64 (Lo.length : Int)) ∧ Below W.heap.size W w') := fun W hW => by
              have hq : (Lo.length : Int) = (L.length : Int) := by rw [beq_iff_eq] at hsum; simpa using hsum
              rw [hq]
              exact ((unhide S3f).below hW).count
            clear hsum
            go_wp2_with fail
            refine wp_region_below (by kernel_rfl) (by kernel_rfl) ?_
            go_big_quiet_want
            refine quiet_ld _ rfl w4.heap.size rfl _ (fun W hW => ((unhide S4f).below hW).box) ?_
            go_simp
            go_big_quiet_on
            go_big_quiet_want
            go_big_quiet_op
            apply Exists.intro
            refine ⟨fun W hW => calls_keep (unhide HCU W hW) hW, ?_⟩
            go_big_quiet_on
            go_big_quiet_want
            refine quiet_ld _ rfl w5.heap.size rfl _ (fun W hW => ((unhide S5f).below hW).box) ?_
            go_simp
            go_big_quiet_on
            go_big_quiet_want
            go_big_quiet_op
            apply Exists.intro
            refine ⟨fun W hW => calls_keep (unhide HCL W hW) hW, ?_⟩
            go_big_quiet_on
            go_big_quiet_want
            go_big_quiet_op
            first | go_big_quiet_on | (refine ⟨_, fun W hW => rfl, ?_⟩; go_big_quiet_on)
            go_big_quiet_want
            refine quiet_ld _ rfl w3.heap.size rfl _ (fun W hW => ((unhide S3f).below hW).box) ?_
            go_simp
            go_big_quiet_on
            go_big_quiet_want
            go_big_quiet_op
            apply Exists.intro
            refine ⟨fun W hW => calls_keep (unhide HCS W hW) hW, ?_⟩
            go_big_quiet_on
            go_big_quiet_want
            go_big_quiet_op
            first | go_big_quiet_on | (refine ⟨_, fun W hW => rfl, ?_⟩; go_big_quiet_on)
            go_big_quiet_want
            go_big_quiet_op
            go_big_quiet_on
            go_big_quiet_want
            refine quiet_ld _ rfl w3.heap.size rfl _ (fun W hW => ((unhide S3f).below hW).box) ?_
            go_simp
            go_big_quiet_on
            go_big_quiet_want
            go_big_quiet_op
            go_big_quiet_on
            go_big_quiet_want
            go_big_quiet_op
            apply Exists.intro
            refine ⟨fun W hW => calls_keep (unhide HMY0 W hW) hW, ?_⟩
            go_big_quiet_on
            go_big_quiet_want
            go_big_quiet_op
            go_big_quiet_on
            go_big_quiet_want
            go_big_quiet_op
            first | go_big_quiet_on | (refine ⟨_, fun W hW => rfl, ?_⟩; go_big_quiet_on)
            go_big_quiet_want
            go_big_quiet_op
            first | go_big_quiet_on | (refine ⟨_, fun W hW => rfl, ?_⟩; go_big_quiet_on)
            go_big_quiet_want
            go_big_quiet_op
            go_big_quiet_on
            go_big_quiet_skip
            go_big_quiet_skip
            go_big_quiet_skip
            go_big_quiet_skip
            go_big_quiet_skip
            go_big_quiet_want
            go_big_quiet_op
            first | go_big_quiet_on | (refine ⟨_, fun W hW => rfl, ?_⟩; go_big_quiet_on)
            go_big_quiet_want
            go_big_quiet_op
            first | go_big_quiet_on | (refine ⟨_, fun W hW => rfl, ?_⟩; go_big_quiet_on)
            go_big_quiet_want
            go_big_quiet_op
            first | go_big_quiet_on | (refine ⟨_, fun W hW => rfl, ?_⟩; go_big_quiet_on)
            go_big_quiet_want
            go_big_quiet_op
            go_big_quiet_on
            refine wpQuiet_nil ?_
            intro w9 hw9
            have HB9 := hide ((unhide B8).trans (hw9.mono (unhide B8).size))
            clear hw9
            go_wp2
            go_ret
            exact ⟨rfl, unhide HB9⟩
          · have hno : my = (z.toList == y.toList) := by
              rw [Bool.eq_iff_iff, hmem', tx_beq]
              simp
            subst hno
            simp only [List.length_cons, List.take_succ_cons, List.take_zero, List.length_nil, Nat.zero_add] at *
            obtain ⟨ao8, cc8, e8, hat8⟩ := R8
            obtain ⟨g, off, rfl, hg, hc⟩ := hat8 (by simp)
            simp only [List.length_singleton] at e8
            injection e8 with e8a e8b e8c
            subst e8a e8c
            have cz : w8.cell? ⟨g, off, none⟩ = some (.string z) := hc 0 z rfl
            have CZ : Hid (∀ W, Below w8.heap.size w8 W → W.cell? ⟨g, off, none⟩ = some (.string z)) := fun W hW => (hW.cell (p := ⟨g, off, none⟩) hg).trans cz
            have HCU : Hid (∀ W, Below w8.heap.size w8 W → Calls Try.prog 20 #[.agg #[.func (.func g4) #[] l4]] W fun e w' => e = .returned (.int .i64 ((S.length : Int) + 1)) ∧ Below W.heap.size W w') := fun W hW => ((unhide S4f).below hW).count
            have HCL : Hid (∀ W, Below w8.heap.size w8 W → Calls Try.prog 20 #[.agg #[.func (.func g5) #[] l5]] W fun e w' => e = .returned (.int .i64 (Lo.length : Int)) ∧ Below W.heap.size W w') := fun W hW => ((unhide S5f).below hW).count
            have HCS : Hid (∀ W, Below w8.heap.size w8 W → Calls Try.prog 20 #[.agg #[.func (.func g3) #[] m3]] W fun e w' => e = .returned (.int .i64 ((S.length : Int) + 1 + (Lo.length : Int))) ∧ Below W.heap.size W w') := fun W hW => by
              have hq : (S.length : Int) + 1 + (Lo.length : Int) = (L.length : Int) := by rw [beq_iff_eq] at hsum; simpa using hsum
              rw [hq]
              exact ((unhide S3f).below hW).count
            clear hsum hmem' e8b hat8 hc cz
            cases hzy : (z.toList == y.toList) with
            | false =>
              rw [hzy] at HMY0
              go_wp2_with fail
              refine wp_region_below (by kernel_rfl) (by kernel_rfl) ?_
              go_big_quiet_want
              refine quiet_ld _ rfl w4.heap.size rfl _ (fun W hW => ((unhide S4f).below hW).box) ?_
              go_simp
              go_big_quiet_on
              go_big_quiet_want
              go_big_quiet_op
              apply Exists.intro
              refine ⟨fun W hW => calls_keep (unhide HCU W hW) hW, ?_⟩
              go_big_quiet_on
              go_big_quiet_want
              refine quiet_ld _ rfl w5.heap.size rfl _ (fun W hW => ((unhide S5f).below hW).box) ?_
              go_simp
              go_big_quiet_on
              go_big_quiet_want
              go_big_quiet_op
              apply Exists.intro
              refine ⟨fun W hW => calls_keep (unhide HCL W hW) hW, ?_⟩
              go_big_quiet_on
              go_big_quiet_want
              go_big_quiet_op
              first | go_big_quiet_on | (refine ⟨_, fun W hW => rfl, ?_⟩; go_big_quiet_on)
              go_big_quiet_want
              refine quiet_ld _ rfl w3.heap.size rfl _ (fun W hW => ((unhide S3f).below hW).box) ?_
              go_simp
              go_big_quiet_on
              go_big_quiet_want
              go_big_quiet_op
              apply Exists.intro
              refine ⟨fun W hW => calls_keep (unhide HCS W hW) hW, ?_⟩
              go_big_quiet_on
              go_big_quiet_want
              go_big_quiet_op
              first | go_big_quiet_on | (refine ⟨_, fun W hW => rfl, ?_⟩; go_big_quiet_on)
              go_big_quiet_want
              go_big_quiet_op
              go_big_quiet_on
              go_big_quiet_want
              refine quiet_ld _ rfl w3.heap.size rfl _ (fun W hW => ((unhide S3f).below hW).box) ?_
              go_simp
              go_big_quiet_on
              go_big_quiet_want
              go_big_quiet_op
              go_big_quiet_on
              go_big_quiet_want
              go_big_quiet_op
              apply Exists.intro
              refine ⟨fun W hW => calls_keep (unhide HMY0 W hW) hW, ?_⟩
              go_big_quiet_on
              go_big_quiet_want
              go_big_quiet_op
              go_big_quiet_on
              go_big_quiet_want
              go_big_quiet_op
              first | go_big_quiet_on | (refine ⟨_, fun W hW => rfl, ?_⟩; go_big_quiet_on)
              go_big_quiet_want
              go_big_quiet_op
              first | go_big_quiet_on | (refine ⟨_, fun W hW => rfl, ?_⟩; go_big_quiet_on)
              go_big_quiet_want
              go_big_quiet_op
              go_big_quiet_on
              go_big_quiet_want
              go_big_quiet_op
              go_big_quiet_on
              go_big_quiet_want
              go_big_quiet_op
              first | go_big_quiet_on | (refine ⟨_, fun W hW => rfl, ?_⟩; go_big_quiet_on)
              go_big_quiet_want
              refine quiet_ldS _ rfl g off rfl z (fun W hW => unhide CZ W hW) ?_
              go_simp
              go_big_quiet_on
              go_big_quiet_want
              go_big_quiet_op
              go_big_quiet_on
              go_big_quiet_want
              go_big_quiet_op
              first | go_big_quiet_on | (refine ⟨_, fun W hW => rfl, ?_⟩; go_big_quiet_on)
              go_big_quiet_want
              go_big_quiet_op
              first | go_big_quiet_on | (refine ⟨_, fun W hW => rfl, ?_⟩; go_big_quiet_on)
              go_big_quiet_want
              go_big_quiet_op
              first | go_big_quiet_on | (refine ⟨_, fun W hW => rfl, ?_⟩; go_big_quiet_on)
              go_big_quiet_want
              go_big_quiet_op
              first | go_big_quiet_on | (refine ⟨_, fun W hW => rfl, ?_⟩; go_big_quiet_on)
              go_big_quiet_want
              go_big_quiet_op
              go_big_quiet_on
              refine wpQuiet_nil ?_
              intro w9 hw9
              have HB9 := hide ((unhide B8).trans (hw9.mono (unhide B8).size))
              clear hw9
              go_wp2
              go_ret
              exact ⟨rfl, unhide HB9⟩
            | true =>
              rw [hzy] at HMY0
              go_wp2_with fail
              refine wp_region_below (by kernel_rfl) (by kernel_rfl) ?_
              go_big_quiet_want
              refine quiet_ld _ rfl w4.heap.size rfl _ (fun W hW => ((unhide S4f).below hW).box) ?_
              go_simp
              go_big_quiet_on
              go_big_quiet_want
              go_big_quiet_op
              apply Exists.intro
              refine ⟨fun W hW => calls_keep (unhide HCU W hW) hW, ?_⟩
              go_big_quiet_on
              go_big_quiet_want
              refine quiet_ld _ rfl w5.heap.size rfl _ (fun W hW => ((unhide S5f).below hW).box) ?_
              go_simp
              go_big_quiet_on
              go_big_quiet_want
              go_big_quiet_op
              apply Exists.intro
              refine ⟨fun W hW => calls_keep (unhide HCL W hW) hW, ?_⟩
              go_big_quiet_on
              go_big_quiet_want
              go_big_quiet_op
              first | go_big_quiet_on | (refine ⟨_, fun W hW => rfl, ?_⟩; go_big_quiet_on)
              go_big_quiet_want
              refine quiet_ld _ rfl w3.heap.size rfl _ (fun W hW => ((unhide S3f).below hW).box) ?_
              go_simp
              go_big_quiet_on
              go_big_quiet_want
              go_big_quiet_op
              apply Exists.intro
              refine ⟨fun W hW => calls_keep (unhide HCS W hW) hW, ?_⟩
              go_big_quiet_on
              go_big_quiet_want
              go_big_quiet_op
              first | go_big_quiet_on | (refine ⟨_, fun W hW => rfl, ?_⟩; go_big_quiet_on)
              go_big_quiet_want
              go_big_quiet_op
              go_big_quiet_on
              go_big_quiet_want
              refine quiet_ld _ rfl w3.heap.size rfl _ (fun W hW => ((unhide S3f).below hW).box) ?_
              go_simp
              go_big_quiet_on
              go_big_quiet_want
              go_big_quiet_op
              go_big_quiet_on
              go_big_quiet_want
              go_big_quiet_op
              apply Exists.intro
              refine ⟨fun W hW => calls_keep (unhide HMY0 W hW) hW, ?_⟩
              go_big_quiet_on
              go_big_quiet_want
              go_big_quiet_op
              go_big_quiet_on
              go_big_quiet_want
              go_big_quiet_op
              first | go_big_quiet_on | (refine ⟨_, fun W hW => rfl, ?_⟩; go_big_quiet_on)
              go_big_quiet_want
              go_big_quiet_op
              first | go_big_quiet_on | (refine ⟨_, fun W hW => rfl, ?_⟩; go_big_quiet_on)
              go_big_quiet_want
              go_big_quiet_op
              go_big_quiet_on
              go_big_quiet_want
              go_big_quiet_op
              go_big_quiet_on
              go_big_quiet_want
              go_big_quiet_op
              first | go_big_quiet_on | (refine ⟨_, fun W hW => rfl, ?_⟩; go_big_quiet_on)
              go_big_quiet_want
              refine quiet_ldS _ rfl g off rfl z (fun W hW => unhide CZ W hW) ?_
              go_simp
              go_big_quiet_on
              go_big_quiet_want
              go_big_quiet_op
              go_big_quiet_on
              go_big_quiet_want
              go_big_quiet_op
              first | go_big_quiet_on | (refine ⟨_, fun W hW => rfl, ?_⟩; go_big_quiet_on)
              go_big_quiet_want
              go_big_quiet_op
              first | go_big_quiet_on | (refine ⟨_, fun W hW => rfl, ?_⟩; go_big_quiet_on)
              go_big_quiet_want
              go_big_quiet_op
              first | go_big_quiet_on | (refine ⟨_, fun W hW => rfl, ?_⟩; go_big_quiet_on)
              go_big_quiet_want
              go_big_quiet_op
              first | go_big_quiet_on | (refine ⟨_, fun W hW => rfl, ?_⟩; go_big_quiet_on)
              go_big_quiet_want
              go_big_quiet_op
              go_big_quiet_on
              refine wpQuiet_nil ?_
              intro w9 hw9
              have HB9 := hide ((unhide B8).trans (hw9.mono (unhide B8).size))
              clear hw9
              go_wp2
              go_ret
              exact ⟨rfl, unhide HB9⟩
end Sm
end Go.Proofs.Ytamlfmohalkemaa
