import Derived.Test.YtmhegbeemgagkaaGreatDoorShAl3
import Derived.Test.YtmhegbeemgagkaaGreatDoorRows
import Derived.Lib.LaidTab
import Derived.Test.YtmhegbeemgagkaaGreatDoorGn20
set_option maxHeartbeats 8000000
set_option maxRecDepth 100000

namespace Go.Proofs.YtmhegbeemgagkaaGreatDoor
open Go.RowKit
namespace Tab

theorem gTab : Tryz.prog.globalNamed "internal/strconv.uint64pow10" = some 1 := by kernel_rfl
theorem gTabType : (Tryz.prog.globals[1]?).map (·.type) = some 261 := by kernel_rfl
theorem cellsT : Tryz.prog.cellsOf 261 = 20 := by kernel_rfl
theorem cellsE : Tryz.prog.cellsOf 207 = 1 := by kernel_rfl
theorem tail {P : Program} {x : String × DataW Unit} {r : List (String × DataW Unit)} {w : World} (h : laidMet P (x :: r) w) : laidMet P r w := by
 obtain ⟨ps, ⟨g, t, cs, fuel, p, q, _, _, _, _, hq, rfl⟩, hnd, hc⟩ := h
 exact ⟨q, hq, (List.nodup_append.1 hnd).2.1, fun b off hm => hc b off (List.mem_append_right _ hm)⟩
def listed : List (String × DataW Unit) := [("math/bits.deBruijn32tab", Rows.laid_math_bits_deBruijn32tab), ("math/bits.deBruijn64tab", Rows.laid_math_bits_deBruijn64tab), ("internal/strconv.uint64pow10", Rows.laid_internal_strconv_uint64pow10), ("unicode/utf8.acceptRanges", Rows.laid_unicode_utf8_acceptRanges), ("unicode/utf8.first", Rows.laid_unicode_utf8_first)]
theorem pow10 {W : World} (h : laidMetH Tryz.prog listed W) : Lib.TabIs Tryz.prog W "internal/strconv.uint64pow10" .u64 Lib.pow10Tab := by
 have h1 : laidMet Tryz.prog listed W := h
 have h2 : laidMet Tryz.prog [("internal/strconv.uint64pow10", Lib.tabData .u64 Lib.pow10Tab), ("unicode/utf8.acceptRanges", Rows.laid_unicode_utf8_acceptRanges), ("unicode/utf8.first", Rows.laid_unicode_utf8_first)] W := tail (tail h1)
 exact Lib.tabIs_of_head gTab gTabType Tryz.underlying261 Tryz.underlying207 cellsE cellsT h2
theorem lt_of_var {P : Program} {W : World} {n : String} {g : Nat} {cs : Array Value} (hg : P.globalNamed n = some g) (hv : W.var? P n = some cs) : g < W.heap.size := by
 unfold World.var? at hv
 simp only [hg, Option.bind_some] at hv
 rcases Nat.lt_or_ge g W.heap.size with h | h
 ·exact h
 ·rw [Array.getElem?_eq_none h] at hv
  cases hv
theorem pow10_below {W W' : World} (h : Lib.TabIs Tryz.prog W "internal/strconv.uint64pow10" .u64 Lib.pow10Tab) (hB : Below W.heap.size W W') : Lib.TabIs Tryz.prog W' "internal/strconv.uint64pow10" .u64 Lib.pow10Tab :=
 var?_below hB gTab (lt_of_var gTab h) h
theorem below_grow (B : Nat) (w : World) (hB : B ≤ w.heap.size) (k : Nat) (os : Array Obj) : Below B w (Go.Sort.grow (w.drewN k) os) :=
 ⟨rfl, rfl, rfl, by show w.heap.size ≤ (w.heap ++ os).size; rw [Array.size_append]; omega, fun j hj => by
  show (w.heap ++ os)[j]? = w.heap[j]?
  rw [Array.getElem?_append_left (by omega)]⟩
theorem decimal_any (n : Int) (h0 : -9223372036854775808 ≤ n) (h1 : n ≤ 9223372036854775807) (w : World) (htab : Lib.TabIs Tryz.prog w "internal/strconv.uint64pow10" .u64 Lib.pow10Tab) :
  Calls Tryz.prog 48 #[.int .i64 n] w fun e w' => e = .returned (.string ⟨(Lib.itoa n).toArray⟩) ∧ Below w.heap.size w w' := by
 have H := DecW.hide htab
 clear htab
 go_enter Tryz.func48, Tryz.ntmps48
 go_wp2_with fail
 refine (Tryz.strconv_Itoa n h0 h1 _ (DecW.unhide H)).mono ?_
 rintro e w' ⟨rfl, k, os, rfl⟩
 go_wp2
 go_ret
 exact ⟨rfl, below_grow _ _ (Nat.le_refl _) _ _⟩
end Tab
open Go.Sort
namespace So
open Cut Shw

def Pow (w : World) : Prop := Lib.TabIs Tryz.prog w "internal/strconv.uint64pow10" .u64 Lib.pow10Tab
theorem Pow.below {w W : World} (h : Pow w) (hB : Go.RowKit.Below w.heap.size w W) : Pow W := Tab.pow10_below h hB
theorem conv_new (L : List UInt8) (W : World) : (convert 134 9 (.slice (some ⟨W.heap.size, 0, none⟩) L.length L.length)).run Tryz.prog (W.alloc (.cells (DecW.bytes L).toArray 5)) = .ok (.string (mk L)) (W.alloc (.cells (DecW.bytes L).toArray 5)) :=
 run_convert_bytes_back _ 134 9 5 ⟨W.heap.size, 0, none⟩ L.length L Tryz.underlying134 Tryz.underlying5 Tryz.underlying9 (fun j hj => by
  rw [DecW.add_zero_off, World.cell?_alloc_at _ _ _ _ rfl]
  simp [DecW.bytes, hj])
theorem b8 (f : Int) (h0 : 0 ≤ f) (h1 : f ≤ 65535) : ((UInt8.ofNat (f.toNat % 256)).toNat : Int) = f % 256 := by rw [byte_nat (by omega)]; omega
theorem b8h (f : Int) (h0 : 0 ≤ f) (h1 : f ≤ 65535) : ((UInt8.ofNat (f.toNat / 256)).toNat : Int) = f / 256 := by rw [byte_nat (by omega)]; omega
theorem write1 (f : Int) (h0 : 0 ≤ f) (h1 : f ≤ 65535) (w : World) :
  Calls Tryz.prog 76 #[.int .i64 1, .int .u16 f] w fun e w' => e = .returned (.string (mk (wr 1 f))) ∧ Go.RowKit.Below w.heap.size w w' := by
 have hc : ∀ W : World, (convert 134 9 (.slice (some ⟨W.heap.size, 0, none⟩) 1 1)).run Tryz.prog (W.alloc (.cells #[.int .u8 (f % 256)] 5)) = .ok (.string (mk (wr 1 f))) (W.alloc (.cells #[.int .u8 (f % 256)] 5)) := fun W => by
  have h := conv_new [UInt8.ofNat (f.toNat % 256)] W
  simp only [DecW.bytes, List.map_cons, List.map_nil, List.length_cons, List.length_nil, b8 f h0 h1] at h
  exact h
 generalize mk (wr 1 f) = r at *
 go_enter Tryz.func76, Tryz.ntmps76
 go_wp2
 go_ret
 exact ⟨rfl, (Go.RowKit.Below.refl _ w).alloc (Nat.le_refl _) _⟩
theorem write2 (f : Int) (h0 : 0 ≤ f) (h1 : f ≤ 65535) (w : World) :
  Calls Tryz.prog 76 #[.int .i64 2, .int .u16 f] w fun e w' => e = .returned (.string (mk (wr 2 f))) ∧ Go.RowKit.Below w.heap.size w w' := by
 have hc : ∀ W : World, (convert 134 9 (.slice (some ⟨W.heap.size, 0, none⟩) 2 2)).run Tryz.prog (W.alloc (.cells #[.int .u8 (f / 256), .int .u8 (f % 256)] 5)) = .ok (.string (mk (wr 2 f))) (W.alloc (.cells #[.int .u8 (f / 256), .int .u8 (f % 256)] 5)) := fun W => by
  have h := conv_new [UInt8.ofNat (f.toNat / 256), UInt8.ofNat (f.toNat % 256)] W
  simp only [DecW.bytes, List.map_cons, List.map_nil, List.length_cons, List.length_nil, b8 f h0 h1, b8h f h0 h1] at h
  exact h
 have hq : 0 ≤ f / 256 ∧ f / 256 ≤ 255 := by omega
 obtain ⟨hq0, hq1⟩ := hq
 generalize mk (wr 2 f) = r at *
 go_enter Tryz.func76, Tryz.ntmps76
 go_wp2
 go_ret
 exact ⟨rfl, (Go.RowKit.Below.refl _ w).alloc (Nat.le_refl _) _⟩
theorem write3 (f : Int) (h0 : 0 ≤ f) (h1 : f ≤ 65535) (w : World) (hP : Pow w) :
  Calls Tryz.prog 76 #[.int .i64 3, .int .u16 f] w fun e w' => e = .returned (.string (mk (wr 3 f))) ∧ Go.RowKit.Below w.heap.size w w' := by
 have hd : Calls Tryz.prog 48 #[.int .i64 f] w fun e w' => e = .returned (.string (mk (wr 3 f))) ∧ Go.RowKit.Below w.heap.size w w' := Tab.decimal_any f (by omega) (by omega) w hP
 have HD := hide hd
 clear hd hP
 generalize mk (wr 3 f) = r at *
 go_enter Tryz.func76, Tryz.ntmps76
 go_wp2_with (go_at_call 48; refine (unhide HD).mono ?_; rintro e w1 ⟨rfl, hB⟩; have HB := hide hB; clear hB)
 go_ret
 exact ⟨rfl, unhide HB⟩
theorem write_any (kind f : Int) (hk : One.isK kind = true) (h0 : 0 ≤ f) (h1 : f ≤ 65535) (w : World) (hP : Pow w) :
  Calls Tryz.prog 76 #[.int .i64 kind, .int .u16 f] w fun e w' => e = .returned (.string (mk (wr kind f))) ∧ Go.RowKit.Below w.heap.size w w' := by
 have h3 : kind = 1 ∨ kind = 2 ∨ kind = 3 := by unfold One.isK at hk; simp at hk; omega
 rcases h3 with rfl | rfl | rfl
 ·exact write1 f h0 h1 w
 ·exact write2 f h0 h1 w
 ·exact write3 f h0 h1 w hP

def pcs (kind : Int) (Z : List Int) : List ByteArray := Z.map fun x => mk (wr kind x)
theorem pcs_data (kind : Int) (Z : List Int) : (pcs kind Z).map (·.data.toList) = Z.map (wr kind) := by
 unfold pcs
 rw [List.map_map]
 apply List.map_congr_left
 intro x _
 exact dl_mk (wr kind x)
theorem join_empty (ao : Option Addr) (c : Nat) (sep : ByteArray) (w : World) : Calls Tryz.prog 77 #[.slice ao 0 c, .string sep] w fun e w' => e = .returned (.string ⟨#[]⟩) ∧ w' = w := by
 go_enter Tryz.func77, Tryz.ntmps77
 go_wp2
 go_ret
 exact ⟨rfl, rfl⟩
theorem join_pcs {n₀ : Nat} (kind : Int) (Z : List Int) (sep : ByteArray) (hsep : sep.data.toList = sepK kind) (v : Value) (w : World) (hb : ∀ x ∈ Z, 0 ≤ x ∧ x ≤ 65535) (hn : Z.length ≤ 64) (h : SRow n₀ w v Z.length (pcs kind Z)) :
  Calls Tryz.prog 77 #[v, .string sep] w fun e w' => e = .returned (.string (mk (text kind Z))) ∧ Go.RowKit.Below w.heap.size w w' := by
 have hl : (pcs kind Z).length = Z.length := by simp [pcs]
 rw [← hl] at h
 obtain ⟨ao, cap, rfl, h1, h2⟩ := h.strs
 by_cases h0 : 0 < Z.length
 ·obtain ⟨g, off, rfl, hg, hc⟩ := h2 (by omega)
  have ht := text_len kind Z.length Z rfl hb
  have hj := Tryz.strings_Join g off cap (pcs kind Z) sep w hc hg (by omega) h1 (by
   rw [pcs_data, hsep]
   show (text kind Z).length ≤ _
   omega)
  rw [pcs_data, hsep] at hj
  exact hj
 ·have : Z = [] := List.eq_nil_of_length_eq_zero (by omega)
  subst this
  refine (join_empty ao cap sep w).mono ?_
  rintro e w' ⟨rfl, rfl⟩
  exact ⟨rfl, Go.RowKit.Below.refl _ _⟩
theorem pcs_snoc (kind : Int) {Z : List Int} {k : Nat} {x : Int} (hx : Z[k]? = some x) : pcs kind (Z.take (k + 1)) = pcs kind (Z.take k) ++ [mk (wr kind x)] := by
 rw [take_snoc hx]
 simp [pcs]
theorem all_ok {kind : Int} {Z : List Int} (h : ∀ x ∈ Z, okF kind x = true) : Z.all (okF kind) = true := List.all_eq_true.2 h
theorem not_ok {kind : Int} {Z : List Int} {k : Nat} {x : Int} (hx : Z[k]? = some x) (h : okF kind x = false) : Z.all (okF kind) = false := by
 rw [List.all_eq_false]
 exact ⟨x, List.mem_of_getElem? hx, by simp [h]⟩
theorem one_wr (kind x : Int) (hk : One.isK kind = true) (h0 : 0 ≤ x) (h1 : x ≤ 65535) (W : World) :
  Calls Tryz.prog 69 #[.int .i64 kind, .string (mk (wr kind x))] W fun e w' => (∃ g er : Int, e = .returned (.tuple #[.int .u16 g, .int .i64 er]) ∧ ((okF kind x = true ∧ g = x ∧ er = 0) ∨ (okF kind x = false ∧ (er = 31 ∨ (er = 0 ∧ (g != x) = true))))) ∧ Go.RowKit.Below W.heap.size W w' := by
 have hl := wr_len kind x h0 h1
 refine (One.one_any kind (mk (wr kind x)) W (by rw [← dl_len, dl_mk]; unfold maxLen; omega)).mono ?_
 rintro e w' ⟨rfl, n, rfl⟩
 refine ⟨⟨_, _, rfl, ?_⟩, ⟨rfl, rfl, rfl, Nat.le_refl _, fun _ _ => rfl⟩⟩
 have e1 : (mk (wr kind x)).data.toList = wr kind x := dl_mk _
 rw [e1, One.oneF, One.oneE, if_pos hk, if_pos hk]
 unfold okF
 by_cases hv : One.val kind (wr kind x) = 0
 ·right
  rw [if_pos hv, hv]
  exact ⟨by simp, .inl rfl⟩
 ·rw [if_neg hv]
  by_cases hx : One.val kind (wr kind x) = x
  ·left
   exact ⟨by simp [hx]; rwa [hx] at hv, hx, rfl⟩
  ·right
   exact ⟨by simp [hx], .inr ⟨rfl, by rw [bne_iff_ne]; exact hx⟩⟩
theorem show_bad (kind : Int) (v : Value) (w : World) (hk : One.isK kind = false) :
  Calls Tryz.prog 46 #[.int .i64 kind, v] w fun e w' => e = .returned (.tuple #[.string ⟨#[]⟩, .int .i64 30]) ∧ w' = w := by
 have HKK := hide (fun W => One.kind_any kind W)
 rw [hk] at HKK
 go_enter Tryz.func46, Tryz.ntmps46
 go_wp2_with (go_at_call 67; refine (unhide HKK _).mono ?_; rintro e w0 ⟨rfl, hw0⟩; obtain rfl := hw0.symm)
 go_ret2
 exact ⟨rfl, rfl⟩
theorem show_good (kind : Int) (v : Value) (L : List Int) (w : World) (hk : One.isK kind = true) (hA : FArg w v L) (hb : ∀ x ∈ L, 0 ≤ x ∧ x ≤ 65535) (hn : L.length ≤ 1048576) (hP : Pow w) :
  Calls Tryz.prog 46 #[.int .i64 kind, v] w fun e w' => e = .returned (.tuple #[.string (mk (showT kind (setOf L))), .int .i64 (showE kind (setOf L))]) ∧ Go.RowKit.Below w.heap.size w w' := by
 obtain ⟨i0, hi, hz0, hz1, hz2⟩ := info_parts infoS
 have HKK := hide (fun W => One.kind_any kind W)
 rw [hk] at HKK
 have HO := hide (of_set v L w hA (by omega))
 have hzl := (setOf_set L).len
 have hzb := set_bounds hb
 clear hA hb
 generalize setOf L = Z at *
 have HWR : Hid (∀ (k : Nat) x W, Z[k]? = some x → Go.RowKit.Below w.heap.size w W → Calls Tryz.prog 76 #[.int .i64 kind, .int .u16 x] W fun e w' => e = .returned (.string (mk (wr kind x))) ∧ Go.RowKit.Below W.heap.size W w') := fun k x W hx hB => by
  have := hzb x (List.mem_of_getElem? hx)
  exact write_any kind x hk this.1 this.2 W (hP.below hB)
 have HON : Hid (∀ (k : Nat) x W, Z[k]? = some x → Calls Tryz.prog 69 #[.int .i64 kind, .string (mk (wr kind x))] W fun e w' => (∃ g er : Int, e = .returned (.tuple #[.int .u16 g, .int .i64 er]) ∧ ((okF kind x = true ∧ g = x ∧ er = 0) ∨ (okF kind x = false ∧ (er = 31 ∨ (er = 0 ∧ (g != x) = true))))) ∧ Go.RowKit.Below W.heap.size W w') := fun k x W hx => by
  have := hzb x (List.mem_of_getElem? hx)
  exact one_wr kind x hk this.1 this.2 W
 have HPS := hide (fun (k : Nat) (x : Int) => @pcs_snoc kind Z k x)
 have HNO := hide (fun (k : Nat) (x : Int) => @not_ok kind Z k x)
 have H31 : Hid (Z.all (okF kind) = false → showE kind Z = 31 ∧ mk (showT kind Z) = ⟨#[]⟩) := fun h => by
  have e : showE kind Z = 31 := by unfold showE; rw [if_pos hk, h]; rfl
  refine ⟨e, ?_⟩
  unfold showT
  rw [e]
  rfl
 have H32 : Hid ((∀ x ∈ Z, okF kind x = true) → 64 < Z.length → showE kind Z = 32 ∧ mk (showT kind Z) = ⟨#[]⟩) := fun h h2 => by
  have e : showE kind Z = 32 := by unfold showE; rw [if_pos hk, all_ok h, if_pos rfl, if_pos h2]
  refine ⟨e, ?_⟩
  unfold showT
  rw [e]
  rfl
 have H0 : Hid ((∀ x ∈ Z, okF kind x = true) → ¬ 64 < Z.length → showE kind Z = 0 ∧ showT kind Z = text kind Z) := fun h h2 => by
  have e : showE kind Z = 0 := by unfold showE; rw [if_pos hk, all_ok h, if_pos rfl, if_neg h2]
  refine ⟨e, ?_⟩
  unfold showT
  rw [e]
  rfl
 have HJ : Hid (∀ sep : ByteArray, sep.data.toList = sepK kind → ∀ B W u, ¬ 64 < Z.length → SRow B W u Z.length (pcs kind (Z.take Z.length)) → Calls Tryz.prog 77 #[u, .string sep] W fun e w' => e = .returned (.string (mk (text kind Z))) ∧ Go.RowKit.Below W.heap.size W w') := fun sep hs B W u hl h => by
  rw [List.take_length] at h
  exact join_pcs kind Z sep hs u W hzb (by omega) h
 have HTL : Hid (Z.take Z.length = Z) := List.take_length
 have HFA : Hid (∀ n W u, FRow n W u Z → ∃ ao cap, u = .slice ao Z.length cap ∧ ∀ (k : Nat) x, Z[k]? = some x → ∃ g off, ao = some ⟨g, off, none⟩ ∧ g < W.heap.size ∧ W.cell? ⟨g, off + k, none⟩ = some (.int .u16 x)) := fun n W u h => by
  obtain ⟨ao, cap, e, _, _, _, h2⟩ := h.arg
  refine ⟨ao, cap, e, fun k x hx => ?_⟩
  obtain ⟨g, off, e2, hg, hc⟩ := h2 (by have := (List.getElem?_eq_some_iff.1 hx).1; omega)
  exact ⟨g, off, e2, hg, hc k x hx⟩
 have HSF : Hid (∀ (B : Nat) (W : World) u (k : Nat), k ≤ Z.length → SRow B W u k (pcs kind (Z.take k)) → ∃ ao cap, u = .slice ao k cap) := fun B W u k hkz h => by
  have e : (pcs kind (Z.take k)).length = k := by simp [pcs]; omega
  have h2 : SRow B W u (pcs kind (Z.take k)).length (pcs kind (Z.take k)) := by rw [e]; exact h
  obtain ⟨ao, cap, e2, _⟩ := h2.strs
  exact ⟨ao, cap, by rw [e2, e]⟩
 have HKE : Hid (∀ B W W' u k P, SRow B W u k P → Go.RowKit.Below W.heap.size W W' → SRow B W' u k P) := fun B W W' u k P h hB => by
  obtain ⟨h1, h2 | ⟨g, cap, cur, e, hg, hh, r⟩⟩ := h
  ·exact ⟨h1, .inl h2⟩
  ·exact ⟨h1, .inr ⟨g, cap, cur, e, hg, by rw [hB.block g (Array.getElem?_eq_some_iff.1 hh).1]; exact hh, r⟩⟩
 have HSEP : Hid ((kind = 3 → (⟨#[44]⟩ : ByteArray).data.toList = sepK kind) ∧ (kind ≠ 3 → (⟨#[]⟩ : ByteArray).data.toList = sepK kind)) := ⟨fun h => by rw [sepK, if_pos h], fun h => by rw [sepK, if_neg h]⟩
 clear hP hzb hk
 generalize showE kind Z = E at *
 generalize hTT : mk (showT kind Z) = TT at *
 have HTT := hide hTT
 clear hTT
 generalize hnn : Z.length = n at *
 have HN := hide hnn
 clear hnn
 have hnz : (n : Int) ≤ 1048576 := by omega
 go_enter Tryz.func46, Tryz.ntmps46
 go_wp2_with (first
  | (go_at_call 67; refine (unhide HKK _).mono ?_; rintro e w0 ⟨rfl, hw0⟩; obtain rfl := hw0.symm)
  | (go_at_call 43; refine (unhide HO).mono ?_; rintro e w1 ⟨z, rfl, hF, hB⟩; obtain ⟨ao, cap, rfl, hcell⟩ := unhide HFA _ _ _ hF; have HC := hide hcell; have HB1 := hide hB; clear hF hB hcell HO))
 go_loopg [6, 19] n (fun kk s6 s19 wr => ∃ k : Nat, s19 = .int .i64 k ∧ k + kk = n ∧ Hid (SRow w1.heap.size wr s6 k (pcs kind (Z.take k))) ∧ Hid (∀ x ∈ Z.take k, okF kind x = true) ∧ Hid (Go.RowKit.Below w1.heap.size w1 wr))
 case atStart => exact ⟨0, rfl, by omega, World.ownsRow_nil _ _ _ _, hide (fun x hx => by simp at hx), Go.RowKit.Below.refl _ _⟩
 case round =>
  obtain ⟨k, rfl, hk, HR, HOKS, HBL⟩ := hrel
  have HB : Hid (Go.RowKit.Below w.heap.size w wr) := (unhide HB1).trans ((unhide HBL).mono (unhide HB1).size)
  by_cases hlt : k < n
  ·have hltz : (k : Int) < (n : Int) := by omega
   obtain ⟨x, hx⟩ : ∃ x, Z[k]? = some x := ⟨_, List.getElem?_eq_getElem (by rw [unhide HN]; exact hlt)⟩
   obtain ⟨g, off, rfl, hg, hc⟩ := unhide HC k x hx
   have hcw := ((unhide HBL).cell (p := ⟨g, off + k, none⟩) hg).trans hc
   have HWX := hide (unhide HWR k x wr hx (unhide HB))
   have HOX := hide (fun W => unhide HON k x W hx)
   have HPX := hide (unhide HPS k x hx)
   have HNX := hide (unhide HNO k x hx)
   have HTS : Hid (okF kind x = true → ∀ y ∈ Z.take (k + 1), okF kind y = true) := fun h y hy => by
    rw [take_snoc hx] at hy
    rcases List.mem_append.1 hy with hy | hy
    ·exact unhide HOKS y hy
    ·simp at hy; subst hy; exact h
   clear hx hc hg
   generalize mk (Shw.wr kind x) = p at *
   have HSP : Hid (∀ W u, W.ownsRow w1.heap.size 9 1 u (k + 1) ((pcs kind (Z.take k)).map Value.string ++ [.string p]) → SRow w1.heap.size W u (k + 1) (pcs kind (Z.take (k + 1)))) := fun W u h => by
    rw [unhide HPX]
    unfold SRow
    simpa using h
   go_wp2_with (first
    | (go_at_call 76; refine (unhide HWX).mono ?_; rintro e w2 ⟨rfl, hB2⟩; have HB2 := hide hB2; clear hB2 HWX)
    | (go_at_call 69; refine (unhide HOX _).mono ?_; rintro e w3 ⟨⟨gv, er, rfl, hcase⟩, hB3⟩; have HCASE := hide hcase; have HB3 := hide ((unhide HB2).trans (hB3.mono (unhide HB2).size)); have HR3 := hide (unhide HKE _ _ _ _ _ _ (unhide HR) (unhide HB3)); have HBL3 := hide ((unhide HBL).trans ((unhide HB3).mono (unhide HBL).size)); clear hB3 hcase HOX; obtain ⟨hok, rfl, rfl⟩ | ⟨hok, rfl | ⟨rfl, hgx⟩⟩ := unhide HCASE)
    | (at_builtin; refine wpList_append_own _ rfl _ _ 88 rfl w1.heap.size 9 i0 (.string ByteArray.empty) 1 16 Tryz.underlying88 hi hz0 hz1 hz2 rfl (by decide) _ _ _ rfl (World.ownsRow.alloc (unhide HR3) _) ⟨w3.heap.size, 0, none⟩ 1 1 [.string p] rfl rfl (cell_one_new _ _ _) (fun x hx => by simp at hx; subst hx; rfl) (by unfold maxLen; omega) (by omega) (by have := (unhide HBL3).size; simp; omega) ?_; intro v' w4 hown' hgrow _; have HO1 := hide (unhide HSP _ _ hown'); have HBL4 := hide (irow_push (unhide HR3) (unhide HBL3) hgrow); clear hown' hgrow))
   ·go_roundg (n - (k + 1))
    case rel => exact ⟨k + 1, by go_num, by omega, HO1, hide (unhide HTS hok), HBL4⟩
    case measure => omega
   ·have HX := hide (unhide H31 (unhide HNX hok))
    go_ret2
    rw [(unhide HX).1, (unhide HX).2]
    exact ⟨rfl, (unhide HB).trans ((unhide HB3).mono (unhide HB).size)⟩
   ·have HX := hide (unhide H31 (unhide HNX hok))
    go_ret2
    rw [(unhide HX).1, (unhide HX).2]
    exact ⟨rfl, (unhide HB).trans ((unhide HB3).mono (unhide HB).size)⟩
  ·obtain rfl : k = n := by omega
   have hltz : ¬ (k : Int) < (k : Int) := by omega
   obtain ⟨ao6, cap6, rfl⟩ := unhide HSF _ _ _ k (Nat.le_refl _) (unhide HR)
   have HALL : Hid (∀ x ∈ Z, okF kind x = true) := by
    have h := unhide HOKS
    rwa [unhide HTL] at h
   by_cases h64 : 64 < k
   ·have h64z : (64 : Int) < (k : Int) := by omega
    have HX := hide (unhide H32 (unhide HALL) h64)
    go_wp2
    go_ret2
    rw [(unhide HX).1, (unhide HX).2]
    exact ⟨rfl, unhide HB⟩
   ·have h64z : ¬ (64 : Int) < (k : Int) := by omega
    have HX := hide (unhide H0 (unhide HALL) h64)
    by_cases h3 : kind = 3
    ·have HJX := hide (unhide HJ ⟨#[44]⟩ ((unhide HSEP).1 h3) _ _ _ h64 (unhide HR))
     have h3z : (kind == 3) = true := by rw [beq_iff_eq]; exact h3
     clear h3
     go_wp2_with (go_at_call 77; refine (unhide HJX).mono ?_; rintro e w5 ⟨rfl, hB5⟩; have HB5 := hide hB5; clear hB5)
     go_ret2
     rw [(unhide HX).1, ← unhide HTT, (unhide HX).2]
     exact ⟨rfl, (unhide HB).trans ((unhide HB5).mono (unhide HB).size)⟩
    ·have HJX := hide (unhide HJ ⟨#[]⟩ ((unhide HSEP).2 h3) _ _ _ h64 (unhide HR))
     have h3z : (kind == 3) = false := by rw [beq_eq_false_iff_ne]; exact h3
     clear h3
     go_wp2_with (go_at_call 77; refine (unhide HJX).mono ?_; rintro e w5 ⟨rfl, hB5⟩; have HB5 := hide hB5; clear hB5)
     go_ret2
     rw [(unhide HX).1, ← unhide HTT, (unhide HX).2]
     exact ⟨rfl, (unhide HB).trans ((unhide HB5).mono (unhide HB).size)⟩

theorem show_any (kind : Int) (v : Value) (L : List Int) (w : World) (hA : FArg w v L) (hb : ∀ x ∈ L, 0 ≤ x ∧ x ≤ 65535) (hn : L.length ≤ 1048576) (hP : Pow w) :
  Calls Tryz.prog 46 #[.int .i64 kind, v] w fun e w' => e = .returned (.tuple #[.string (mk (showT kind (setOf L))), .int .i64 (showE kind (setOf L))]) ∧ Go.RowKit.Below w.heap.size w w' := by
 cases hk : One.isK kind
 ·refine (show_bad kind v w hk).mono ?_
  rintro e w' ⟨rfl, rfl⟩
  have e1 : showE kind (setOf L) = 30 := by unfold showE; rw [hk]; rfl
  have e2 : showT kind (setOf L) = [] := by unfold showT; rw [e1]; rfl
  rw [e1, e2]
  exact ⟨rfl, Go.RowKit.Below.refl _ _⟩
 ·exact show_good kind v L w hk hA hb hn hP
end So
end Go.Proofs.YtmhegbeemgagkaaGreatDoor
namespace Go.Proofs.YtmhegbeemgagkaaGreatDoor
namespace So
open Cut Shw

theorem wr_val1 {p : List UInt8} (h : One.val 1 p ≠ 0) : Shw.wr 1 (One.val 1 p) = p := by
 match p with
 | [] => exact absurd rfl h
 | [c] =>
  have v : One.val 1 [c] = if One.sg c then (c.toNat : Int) else 0 := rfl
  rw [v] at h ⊢
  split at h
  ·rename_i hs
   rw [if_pos hs]
   show [UInt8.ofNat ((c.toNat : Int).toNat % 256)] = [c]
   have hc : c.toNat < 256 := c.toNat_lt
   have e : (c.toNat : Int).toNat % 256 = c.toNat := by omega
   rw [e, UInt8.ofNat_toNat]
  ·exact absurd rfl h
 | _ :: _ :: _ => exact absurd rfl h
theorem wr_val2 {p : List UInt8} (h : One.val 2 p ≠ 0) : Shw.wr 2 (One.val 2 p) = p := by
 match p with
 | [] => exact absurd rfl h
 | [_] => exact absurd rfl h
 | [c, d] =>
  have v : One.val 2 [c, d] = if One.sg c && One.sg d then 256 * (c.toNat : Int) + (d.toNat : Int) else 0 := rfl
  rw [v] at h ⊢
  split at h
  ·rename_i hs
   rw [if_pos hs]
   have hc : c.toNat < 256 := c.toNat_lt
   have hd : d.toNat < 256 := d.toNat_lt
   show [UInt8.ofNat ((256 * (c.toNat : Int) + (d.toNat : Int)).toNat / 256), UInt8.ofNat ((256 * (c.toNat : Int) + (d.toNat : Int)).toNat % 256)] = [c, d]
   have e1 : (256 * (c.toNat : Int) + (d.toNat : Int)).toNat / 256 = c.toNat := by omega
   have e2 : (256 * (c.toNat : Int) + (d.toNat : Int)).toNat % 256 = d.toNat := by omega
   rw [e1, e2, UInt8.ofNat_toNat, UInt8.ofNat_toNat]
  ·exact absurd rfl h
 | _ :: _ :: _ :: _ => exact absurd rfl h
theorem ok_val (kind : Int) (hk : One.isK kind = true) {p : List UInt8} (h : One.val kind p ≠ 0) : okF kind (One.val kind p) = true := by
 have hb := One.val_bounds kind p
 have h3 : kind = 1 ∨ kind = 2 ∨ kind = 3 := by unfold One.isK at hk; simp at hk; omega
 rcases h3 with rfl | rfl | rfl
 ·unfold okF
  rw [wr_val1 h]
  simp [h]
 ·unfold okF
  rw [wr_val2 h]
  simp [h]
 ·rw [ok3 hb.1 hb.2]
  have e : One.val 3 (Shw.wr 3 (One.val 3 p)) = One.val 3 p := by
   show Num.numN (Lib.itoa _) 65535 = _
   exact Dec.numN_itoa _ 65535 hb.1 hb.2
  rw [e]
  simp [h]
theorem ok_read {kind x : Int} (h : okF kind x = true) : One.val kind (Shw.wr kind x) = x := by
 unfold okF at h
 simp at h
 exact h.2
theorem join_flat : ∀ (xs : List (List UInt8)), Lib.join xs [] = xs.flatten
 | [] => rfl
 | x :: r => by
  rw [Lib.join_cons]
  simp [Lib.joinTail]
theorem cuts_flat {w : Nat} (hw : 0 < w) : ∀ {xs : List (List UInt8)}, xs ≠ [] → (∀ x ∈ xs, x.length = w) → cuts w xs.flatten = xs
 | [], h, _ => absurd rfl h
 | [x], _, h => by
  have := h x (by simp)
  simp only [List.flatten_cons, List.flatten_nil, List.append_nil]
  exact cuts_short (by omega)
 | x :: y :: r, _, h => by
  have hx := h x (by simp)
  have hy := h y (by simp)
  have ih := cuts_flat hw (xs := y :: r) (by simp) (fun z hz => h z (by simp [hz]))
  rw [List.flatten_cons, cuts_long hw (by simp; omega), ← hx, List.take_left, List.drop_left, hx, ih]
theorem split_join : ∀ {xs : List (List UInt8)}, xs ≠ [] → (∀ x ∈ xs, 44 ∉ x) → splitC (Lib.join xs [44]) = xs
 | [], h, _ => absurd rfl h
 | [x], _, h => by
  rw [Lib.join_one]
  exact splitC_none (h x (by simp))
 | x :: y :: r, _, h => by
  have ih := split_join (xs := y :: r) (by simp) (fun z hz => h z (by simp [hz]))
  have e : Lib.join (x :: y :: r) [44] = x ++ 44 :: Lib.join (y :: r) [44] := by
   rw [Lib.join_cons, Lib.join_cons]
   simp [Lib.joinTail]
  rw [e, splitC_hit (h x (by simp)), ih]
theorem no_comma {x : Int} (h0 : 0 ≤ x) : 44 ∉ Shw.wr 3 x := by
 show 44 ∉ Lib.itoa x
 unfold Lib.itoa
 rw [if_neg (by omega)]
 intro h
 have := List.all_eq_true.1 (Dec.all_dec x.toNat) 44 h
 exact absurd this (by decide)
theorem pieces_text (kind : Int) (hk : One.isK kind = true) {Z : List Int} (hne : Z ≠ []) (hb : ∀ x ∈ Z, 0 ≤ x ∧ x ≤ 65535) : pieces kind (text kind Z) = Z.map (Shw.wr kind) := by
 have h3 : kind = 1 ∨ kind = 2 ∨ kind = 3 := by unfold One.isK at hk; simp at hk; omega
 have hm : ∀ k : Int, Z.map (Shw.wr k) ≠ [] := fun k => by simpa using hne
 rcases h3 with rfl | rfl | rfl
 ·show cuts 1 (Lib.join (Z.map (Shw.wr 1)) []) = _
  rw [join_flat]
  exact cuts_flat (by omega) (hm 1) (fun x hx => by obtain ⟨y, _, rfl⟩ := List.mem_map.1 hx; rfl)
 ·show cuts 2 (Lib.join (Z.map (Shw.wr 2)) []) = _
  rw [join_flat]
  exact cuts_flat (by omega) (hm 2) (fun x hx => by obtain ⟨y, _, rfl⟩ := List.mem_map.1 hx; rfl)
 ·show splitC (Lib.join (Z.map (Shw.wr 3)) [44]) = _
  exact split_join (hm 3) (fun x hx => by obtain ⟨y, hy, rfl⟩ := List.mem_map.1 hx; exact no_comma (hb y hy).1)
theorem vals_text (kind : Int) (hk : One.isK kind = true) {Z : List Int} (hne : Z ≠ []) (hb : ∀ x ∈ Z, 0 ≤ x ∧ x ≤ 65535) (hok : ∀ x ∈ Z, okF kind x = true) : vals kind (text kind Z) = Z := by
 unfold vals
 rw [pieces_text kind hk hne hb, List.map_map]
 have : ∀ x ∈ Z, (One.val kind ∘ Shw.wr kind) x = id x := fun x hx => ok_read (hok x hx)
 rw [List.map_congr_left this]
 simp
theorem pieces_ne (kind : Int) (l : List UInt8) : pieces kind l ≠ [] := by
 have hc : ∀ w, cuts w l ≠ [] := fun w h => by
  unfold cuts at h
  cases hn : l.length with
  | zero => rw [hn] at h; cases h
  | succ n => rw [hn, cutL] at h; split at h <;> cases h
 unfold pieces
 split
 ·exact hc 1
 ·split
  ·exact hc 2
  ·cases l with
   | nil => simp [splitC]
   | cons c t =>
    unfold splitC
    split
    ·simp
    ·split <;> simp
theorem readE_zero {V : List Int} (h : readE V = 0) : 0 ∉ V ∧ V.length ≤ 64 := by
 unfold readE at h
 split at h
 ·cases h
 ·rename_i h1
  split at h
  ·cases h
  ·exact ⟨h1, by omega⟩
theorem back (kind : Int) (l : List UInt8) (h : rE kind l = 0) : ∃ Z : List Int, rS kind l = Z ∧ setOf Z = Z ∧ (∀ x ∈ Z, 0 ≤ x ∧ x ≤ 65535) ∧ Z.length ≤ 64 ∧ showE kind Z = 0 ∧ showT kind Z = text kind Z ∧ rE kind (text kind Z) = 0 ∧ rS kind (text kind Z) = Z := by
 have hk : One.isK kind = true := by
  cases hk : One.isK kind
  ·unfold rE at h; rw [hk] at h; cases h
  ·rfl
 have e1 : ∀ m, rE kind m = readE (vals kind m) := fun m => by unfold rE; rw [hk]; rfl
 have h0 := h
 rw [e1] at h0
 obtain ⟨hz, hl⟩ := readE_zero h0
 have hzl := (setOf_set (vals kind l)).len
 have hb := set_bounds (vals_bounds kind l)
 have hok : ∀ x ∈ setOf (vals kind l), okF kind x = true := fun x hx => by
  have hx2 := mem_setOf.1 hx
  obtain ⟨p, _, rfl⟩ := List.mem_map.1 hx2
  exact ok_val kind hk (fun e => hz (by rw [← e]; exact hx2))
 have hne : setOf (vals kind l) ≠ [] := fun e => by
  have hv : vals kind l ≠ [] := by
   unfold vals
   simpa using pieces_ne kind l
  cases hv2 : vals kind l with
  | nil => exact hv hv2
  | cons x t =>
   have : x ∈ setOf (vals kind l) := mem_setOf.2 (by rw [hv2]; simp)
   rw [e] at this
   cases this
 have hset : setOf (setOf (vals kind l)) = setOf (vals kind l) := setOf_congr fun _ => mem_setOf
 have hvt := vals_text kind hk hne hb hok
 have hsE : showE kind (setOf (vals kind l)) = 0 := by unfold showE; rw [if_pos hk, all_ok hok, if_pos rfl, if_neg (by omega)]
 have hrt : rE kind (text kind (setOf (vals kind l))) = 0 := by
  rw [e1, hvt, readE, if_neg (fun h => hz (mem_setOf.1 h)), if_neg (by omega)]
 refine ⟨setOf (vals kind l), by unfold rS; rw [if_pos h], hset, hb, by omega, hsE, by unfold showT; rw [if_pos hsE], hrt, ?_⟩
 unfold rS
 rw [if_pos hrt, hvt, hset]
end So
open Go.RowKit
namespace Af
open RowB
theorem btr2 {a b c : World} (h : Below a.heap.size a b) (k : Below b.heap.size b c) : Below a.heap.size a c := h.trans (k.mono h.size)

def wF : Nat → List (List Int) → List Int → Option Nat
 | _, [], _ => none
 | i, a :: t, S => if a = S then some i else wF (i + 1) t S
def wR : Option Nat → Value
 | some i => .tuple #[.string ⟨(Lib.itoa ((i : Int) + 1)).toArray⟩, .int .i64 0]
 | none => .tuple #[.string ⟨#[]⟩, .int .i64 31]
def wV (F : Fil) (L : List Int) : Value :=
 if F.aliases = [] then .tuple #[.string (Cut.mk (Shw.showT F.kind (So.setOf L))), .int .i64 (Shw.showE F.kind (So.setOf L))]
 else wR (wF 0 F.aliases (So.setOf L))
theorem wV_form (F : Fil) (L : List Int) : ∃ s c, wV F L = .tuple #[.string s, .int .i64 c] := by
 unfold wV
 split
 ·exact ⟨_, _, rfl⟩
 ·cases wF 0 F.aliases (So.setOf L) <;> exact ⟨_, _, rfl⟩
theorem wF_step {A : List (List Int)} {k : Nat} {a : List Int} (h : A[k]? = some a) (S : List Int) : wF k (A.drop k) S = if a = S then some k else wF (k + 1) (A.drop (k + 1)) S := by
 obtain ⟨hk, e⟩ := List.getElem?_eq_some_iff.1 h
 rw [List.drop_eq_getElem_cons hk, e]; rfl
theorem seq_any {n B : Nat} {u v : Value} {S a : List Int} {W : World} (hu : So.FRow n W u S) (hv : FNx B W v a) (hS : S.length ≤ 1099511627776) (ha : a.length ≤ 1099511627776) :
  Calls Tryz.prog 47 #[u, v] W fun e w' => e = .returned (.bool (decide (S = a))) ∧ Below W.heap.size W w' := by
 rcases hv with ⟨rfl, rfl⟩ | hv
 ·obtain ⟨g, cap, rfl, _, _, _, hm, hH⟩ := hu.cells
  by_cases h0 : S = []
  ·subst h0
   rw [decide_eq_true rfl]
   clear hu hH ha hS
   rw [show ([] : List Int).length = 0 from rfl]
   go_enter Tryz.func47, Tryz.ntmps47
   go_wp2
   go_loopw [13] (fun i wr => i = .int .i64 0 ∧ wr = W) (fun _ _ => 0)
   case atStart => exact ⟨rfl, rfl⟩
   case round =>
    obtain ⟨rfl, rfl⟩ := hrel
    go_wp2
    go_ret
    exact ⟨rfl, Below.refl _ _⟩
  ·rw [decide_eq_false h0]
   have hl : ¬ (S.length : Int) = 0 := by
    intro e
    exact h0 (List.eq_nil_of_length_eq_zero (by omega))
   clear hu hH ha hS
   generalize S.length = m at *
   go_enter Tryz.func47, Tryz.ntmps47
   go_wp2
   go_ret
   exact ⟨rfl, Below.refl _ _⟩
 ·obtain ⟨g, cap, rfl, _, _, _, hm, hH⟩ := hu.cells
  obtain ⟨g2, cap2, rfl, _, _, _, hm2, hH2⟩ := hv.cells
  refine (Tryz.flag_Equal g 0 S.length cap g2 0 a.length cap2 S a W (Nat.le_refl _) (Nat.le_refl _) (by omega) (by omega) (So.holds_list hH) (So.holds_list hH2)).mono ?_
  rintro e w' ⟨rfl, q, rfl⟩
  rw [List.take_length, List.take_length, So.allEq_dec]
  exact ⟨rfl, So.drew_below W q _⟩
theorem write_any {B : Nat} {F : Fil} {P : Pts} {w : World} (h : FAt B w F P) (v : Value) (L : List Int) (hA : So.FArg w v L) (hb : ∀ x ∈ L, 0 ≤ x ∧ x ≤ 65535) (hn : L.length ≤ 1048576) (hP : So.Pow w) :
  Calls Tryz.prog 21 #[.pointer (some ⟨P.fb, 0, none⟩), v] w fun e w' => e = .returned (wV F L) ∧ Below w.heap.size w w' := by
 have HA := hide (hasAli h)
 have HP := hide hP
 by_cases ha : F.aliases = []
 ·rw [decide_eq_false (by simp [ha])] at HA
  obtain ⟨d0, -, d10, -, -, -, dz⟩ := h.cells
  have HS := hide (So.show_any F.kind v L w hA hb hn hP)
  have e1 : wV F L = .tuple #[.string (Cut.mk (Shw.showT F.kind (So.setOf L))), .int .i64 (Shw.showE F.kind (So.setOf L))] := by unfold wV; rw [if_pos ha]
  rw [e1]
  obtain ⟨ao, cap, rfl, -⟩ := hA
  clear hP hb hn h d10 ha e1
  generalize Cut.mk (Shw.showT F.kind (So.setOf L)) = T at *
  generalize Shw.showE F.kind (So.setOf L) = C at *
  go_enter Tryz.func21, Tryz.ntmps21
  go_wp2_with (first | (go_at_call 40; refine (unhide HA).mono ?_; rintro e w2 ⟨rfl, rfl⟩) | (go_at_call 46; refine (unhide HS).mono ?_; rintro e w3 ⟨rfl, b3⟩; have HB3 := hide b3; clear b3))
  go_ret2
  exact ⟨rfl, unhide HB3⟩
 ·rw [decide_eq_true ha] at HA
  have hpos : 0 < F.aliases.length := List.length_pos_iff.2 ha
  have h1024 := h.ok.ali
  have HO := hide (So.of_set v L w hA (by omega))
  have hSl : (So.setOf L).length ≤ 1099511627776 := by have := (So.setOf_set L).len; omega
  have HH := hide h
  have e1 : wV F L = wR (wF 0 F.aliases (So.setOf L)) := by unfold wV; rw [if_neg ha]
  have HE := hide e1
  obtain ⟨ao, cap, rfl, -⟩ := hA
  clear hP hb hn h ha e1
  generalize hS : So.setOf L = S at *
  clear hS
  generalize hNl : F.aliases.length = N at *
  have HN := hide hNl
  clear hNl
  generalize wV F L = R at *
  go_enter Tryz.func21, Tryz.ntmps21
  go_wp2_with fail
  refine (unhide HA).mono ?_
  rintro e w2 ⟨rfl, hw2⟩
  obtain rfl := hw2.symm
  go_wp2_with fail
  refine (unhide HO).mono ?_
  rintro e w3 ⟨u, rfl, f3, b3⟩
  have hF3 := (unhide HH).below b3
  obtain ⟨d0, -, d10, -, -, -, dz⟩ := hF3.cells
  obtain ⟨g, cap2, e0, hgB, hg, hcap, hmx, -, hcl⟩ := own_at hF3.alis (by rw [unhide HN]; exact hpos)
  rw [e0, unhide HN] at d10
  have HF3 := hide hF3
  have HU := hide f3
  have HB3 := hide b3
  have HP3 := hide (Tab.pow10_below (unhide HP) b3)
  have HCL := hide hcl
  obtain ⟨gu, cu, rfl, -⟩ := f3.cells
  clear hF3 f3 b3 hcl e0 hgB hcap hmx
  go_wp2
  go_loopw [31] (fun s31 wr => ∃ k : Nat, s31 = .int .i64 (k : Int) ∧ k ≤ N ∧ Hid (wF 0 F.aliases S = wF k (F.aliases.drop k) S) ∧ Hid (Below w3.heap.size w3 wr)) (fun s31 _ => N - (intOf s31).toNat)
  case atStart => exact ⟨0, rfl, Nat.zero_le _, rfl, Below.refl _ _⟩
  case round =>
   obtain ⟨k, rfl, hk, HW, HB⟩ := hrel
   by_cases hlt : k < N
   ·have hltz : (k : Int) < (N : Int) := by omega
    obtain ⟨a, hka⟩ : ∃ a, F.aliases[k]? = some a := ⟨_, List.getElem?_eq_getElem (by rw [unhide HN]; exact hlt)⟩
    obtain ⟨va, hkv⟩ : ∃ v, P.av[k]? = some v := ⟨_, List.getElem?_eq_getElem (by rw [(unhide HF3).aliF.1, unhide HN]; exact hlt)⟩
    have hfn := fnx_kept ((unhide HF3).aliF.2 _ _ _ hkv hka) (below_kept (unhide HB))
    have hcv : wr.cell? ⟨g, k, none⟩ = some va := ((unhide HB).cell (p := ⟨g, k, none⟩) hg).trans (((unhide HCL) k (by rw [unhide HN]; omega)).trans hkv)
    have hal := ((unhide HF3).ok.aliS a (List.mem_of_getElem? hka)).2
    have HEQ := hide (seq_any ((unhide HU).below (unhide HB)) hfn hSl (by omega))
    have hst := (unhide HW).trans (wF_step hka S)
    have HP4 := hide (Tab.pow10_below (unhide HP3) (unhide HB))
    obtain ⟨a1, c1, rfl, -⟩ := hfn.arg
    by_cases hq : S = a
    ·rw [decide_eq_true hq] at HEQ
     rw [if_pos hq.symm] at hst
     have hR := unhide HE
     rw [hst] at hR
     have hR2 : R = .tuple #[.string ⟨(Lib.itoa ((k : Int) + 1)).toArray⟩, .int .i64 0] := hR
     clear hR
     subst hR2
     clear HE hfn hal hst hka hkv hq
     go_wp2_with fail
     refine (unhide HEQ).mono ?_
     rintro e w4 ⟨rfl, b4⟩
     have HB4 := hide b4
     have HD := hide (Tab.decimal_any ((k : Int) + 1) (by omega) (by omega) w4 (Tab.pow10_below (unhide HP4) b4))
     clear b4
     go_wp2_with fail
     refine (unhide HD).mono ?_
     rintro e w5 ⟨rfl, b5⟩
     have HB5 := hide b5
     clear b5
     go_wp2_with fail
     go_ret2
     exact ⟨rfl, btr2 (btr2 (btr2 (unhide HB3) (unhide HB)) (unhide HB4)) (unhide HB5)⟩
    ·rw [decide_eq_false hq] at HEQ
     rw [if_neg (fun e => hq e.symm)] at hst
     have HW2 := hide hst
     clear hfn hal hst hka hkv hq
     go_wp2_with fail
     refine (unhide HEQ).mono ?_
     rintro e w4 ⟨rfl, b4⟩
     have HB4 := hide ((unhide HB).trans (b4.mono (unhide HB).size))
     clear b4
     go_wp2_with fail
     go_roundw
     case rel => exact ⟨k + 1, by simp, by omega, HW2, HB4⟩
     case measure => simp only [intOf]; omega
   ·have hltz : ¬ (k : Int) < (N : Int) := by omega
    have hR := unhide HE
    rw [unhide HW, List.drop_of_length_le (by rw [unhide HN]; omega)] at hR
    have hR2 : R = .tuple #[.string ⟨#[]⟩, .int .i64 31] := hR
    clear hR HE HW
    subst hR2
    go_wp2
    go_ret2
    exact ⟨rfl, btr2 (unhide HB3) (unhide HB)⟩
end Af
end Go.Proofs.YtmhegbeemgagkaaGreatDoor
