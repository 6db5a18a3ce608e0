/- Layer 7: the walk of HeapWords. -/
import Derived.Test.YtddfljlecnllaaaSk
import Derived.Test.YtddfljlecnllaaaKv
namespace Go.Proofs.Ytddfljlecnllaaa
open Go.RowKit
namespace Hpt
open Hp
abbrev lessW : Value := .func (.func 40) #[] #[]
theorem word_empty (y : It) : word_ y ⟨#[]⟩ = false := by
  unfold word_
  have e : (⟨#[]⟩ : ByteArray).toList = [] := by rw [ByteArray.toList_eq]
  rw [e]
  cases y.toList <;> simp [Op.bytesLess]
/-- the heap and the list of what is in it, with n texts left, none of them below the last that came out -/
structure Ws (w : World) (hb p N : Nat) (va : Value) (n : Nat) (lst : It) (wr : World) : Prop where
  st : ∃ I A G, HAt wr hb lessW word_ I p G ∧ I.length = n ∧ A.length = N ∧ wr.ownsRow 0 9 1 va N (rowS A) ∧ (A.take n).Perm I ∧ (∀ y ∈ I, word_ y lst = false) ∧ (∀ g, va.ownBlock = some g → ¬ G g) ∧ ∀ b, G b → w.heap.size ≤ b
  new : ∀ g, va.ownBlock = some g → w.heap.size ≤ g
  old : Below w.heap.size w wr
theorem Ws.below {w wr W : World} {hb p N n : Nat} {va : Value} {lst : It} (h : Ws w hb p N va n lst wr) (k : Below wr.heap.size wr W) : Ws w hb p N va n lst W := by
  obtain ⟨⟨I, A, G, h1, h2, h3, h4, h5⟩, h6, h7⟩ := h
  exact ⟨⟨I, A, G, h1.below k, h2, h3, own_kept h4 fun g hg => k.block g (h4.lt g hg).2, h5⟩, h6, h7.trans (k.mono h7.size)⟩
/-- one text was taken: the least -/
theorem Ws.next {w wr w1 w2 : World} {hb p N l g cap : Nat} {x : It} {I J A B : List It} {G : Nat → Prop} (hnew : w.heap.size ≤ g) (hold : Below w.heap.size w wr) (hI : I.length = l + 1) (hp : pop word_ I = some (x, J)) (hr : Res G wr hb lessW word_ J p w1) (hAp : (A.take (l + 1)).Perm I) (hgG : ¬ G g) (hgl : g < wr.heap.size) (hG : ∀ b, G b → w.heap.size ≤ b)
    (hB : B.length = N) (hrow : w2.ownsRow 0 9 1 (.slice (some ⟨g, 0, none⟩) N cap) N (rowS B)) (hBp : (B.take l ++ [x]).Perm (A.take (l + 1))) (hc : Chg (fun b => b = g) w1 w2) : Ws w hb p N (.slice (some ⟨g, 0, none⟩) N cap) l x w2 := by
  obtain ⟨u, v, e1, e2, e3, e4⟩ := pop_split word_ord hp
  have hs := hr.2.size
  have hgU : ¬ Up G wr w1 g := fun e => e.elim hgG (fun e => by omega)
  have hat := hr.1
  have s0 := hold.size
  refine ⟨⟨J, B, Up G wr w1, hat.kept (fun b hb => hc.block b (hat.lt b hb) (fun e => by subst e; exact hgU hb)) (fun _ h => h) (fun b hb => Nat.lt_of_lt_of_le (hat.lt b hb) hc.size), ?_, hB, hrow, ?_, fun y hy => ?_, fun g' hg' => ?_, fun b hb => hb.elim (hG b) (fun h => by omega)⟩, fun g' hg' => ?_, ?_⟩
  · rw [e2]; rw [e1] at hI; simp at hI ⊢; omega
  · have q : (B.take l ++ [x]).Perm (J ++ [x]) := by
      refine (hBp.trans hAp).trans ?_
      rw [e1, e2]
      exact (List.perm_middle.trans (List.perm_append_singleton x (u ++ v)).symm)
    exact (List.perm_append_right_iff [x]).1 q
  · rw [e2] at hy
    rcases List.mem_append.1 hy with hy | hy
    · exact word_ord.asym _ _ (e3 y hy)
    · exact e4 y hy
  · have : g = g' := by injection hg'
    subst this; exact hgU
  · have : g = g' := by injection hg'
    subst this; exact hnew
  · exact hold.trans ((hr.2.below s0 hG).trans (hc.below (Nat.le_trans s0 hs) fun b hb => by subst hb; exact hnew))
set_option maxRecDepth 100000 in
set_option maxHeartbeats 4000000 in
theorem words_walk {w : World} {v1 v2 : Value} {X Y : List It} (h1 : Its w v1 X (fun b => w.heap.size ≤ b)) (h2 : Its w v2 Y (fun b => w.heap.size ≤ b)) (hz : X.length + Y.length ≤ 1048576) :
    Calls Try.prog 8 #[v1, v2] w fun e w' => e = .returned (.bool true) ∧ Below w.heap.size w w' := by
  have H1 := hide h1
  have H2 := hide h2
  obtain ⟨a1, c1, rfl, -⟩ := h1
  obtain ⟨a2, c2, rfl, -⟩ := h2
  have hXl : X.length ≤ 1048576 := by omega
  have hYl : Y.length ≤ 1048576 := by omega
  obtain ⟨ac, cc, W1, hap, row1, new1, b1⟩ := copy_words (unhide H1) (by omega) 56
  have HAP := hide hap
  have B1 := hide b1
  have HWO := hide (words_any (its_rowS (F := fun b => W1.heap.size ≤ b) row1 (fun g hg e => by have := (row1.lt g hg).2; omega)) (by omega))
  clear hap row1 new1 b1
  go_enter Try.func8, Try.ntmps8
  go_wp2_with (at_builtin; refine wpList_append_run rfl _ _ 56 56 rfl _ _ rfl rfl (.slice ac X.length cc) W1 (unhide HAP) ?_)
  refine (unhide HWO).mono ?_
  rintro e w2 ⟨rfl, t2, b2⟩
  have A2 := hide t2
  have B2 : Hid (Below w.heap.size w w2) := (unhide B1).trans (b2.mono (unhide B1).size)
  have hs2 := b2.size
  clear t2 b2 HWO HAP
  go_wp2_with fail
  refine (wakes_any w2).mono ?_
  rintro e w3 ⟨rfl, b3⟩
  have B3 : Hid (Below w.heap.size w w3) := (unhide B2).trans (b3.mono (unhide B2).size)
  have hs3 := b3.size
  obtain ⟨a4, c4, W4, hap, row4, new4, b4⟩ := copy_words ((unhide H2).chg (Chg.of_below (unhide B3))) (by omega) 56
  have HAP := hide hap
  have HPU := hide (push_any lessV_word (((unhide A2).below b3).below b4) (its_rowS row4 (fun g hg e => by have := new4 g hg; omega)) (by omega) (by omega))
  have B4 : Hid (Below w.heap.size w W4) := (unhide B3).trans (b4.mono (unhide B3).size)
  clear hap row4 new4 b4 b3 A2 B2 B3
  go_wp2_with (at_builtin; refine wpList_append_run rfl _ _ 56 56 rfl _ _ rfl rfl (.slice a4 Y.length c4) W4 (unhide HAP) ?_)
  refine (unhide HPU).mono ?_
  rintro e w5 ⟨rfl, r5⟩
  have hs1 := (unhide B1).size
  have B5 : Hid (Below w.heap.size w w5) := (unhide B4).trans (r5.2.below (unhide B4).size fun b hb => by omega)
  obtain ⟨a6, c6, W6, hap6, row6, new6, b6⟩ := copy_words ((unhide H1).chg (Chg.of_below (unhide B5))) (by omega) 56
  obtain ⟨va, W7, hap7, row7, hg7, hbk7⟩ := push_words row6 ((unhide H2).chg (Chg.of_below ((unhide B5).trans (b6.mono (unhide B5).size)))) (by omega) 56
  obtain ⟨a7, c7, rfl⟩ := own_slice row7
  obtain ⟨N, hN⟩ : ∃ N, (X ++ Y).length = N := ⟨_, rfl⟩
  have hNl : N = X.length + Y.length := by rw [← hN]; simp
  have hNz : N ≤ 1048576 := by omega
  clear hNl
  rw [hN] at row7 hap7 hbk7
  have hB67 : Below w5.heap.size W6 W7 := (Below.refl _ W6).grown hg7 b6.size new6
  have hB57 : Below w5.heap.size w5 W7 := b6.trans hB67
  have hbn : ∀ g, (Value.slice a7 N c7).ownBlock = some g → w5.heap.size ≤ g := fun g hg => by
    rcases hbk7 with q | q
    · exact new6 g (q ▸ hg)
    · rw [q] at hg; injection hg with hg; have := b6.size; omega
  have HWS : Hid (Ws w W1.heap.size (X.length + Y.length) N (.slice a7 N c7) N ⟨#[]⟩ W7) := by
    refine ⟨⟨X ++ Y, X ++ Y, _, r5.1.below hB57, hN, hN, row7, ?_, fun y _ => word_empty y, fun g hg e => ?_, fun b hb => ?_⟩, fun g hg => Nat.le_trans (unhide B5).size (hbn g hg), (unhide B5).trans (hB57.mono (unhide B5).size)⟩
    · rw [← hN, List.take_length]
    · have := r5.1.lt g e; have := hbn g hg; omega
    · rcases hb with hb | hb
      · omega
      · exact Nat.le_trans (unhide B4).size hb.1
  have HAP6 := hide hap6
  have HAP7 := hide hap7
  clear r5 hap6 hap7 row6 row7 hg7 hbk7 new6 b6 hbn hB57 hB67 HPU HAP B4 B1 H1 H2 B5 hN hs1
  generalize W1.heap.size = hb at *
  generalize X.length + Y.length = p at *
  clear hs2
  go_wp2_with (first | (at_builtin; refine wpList_append_run rfl _ _ 56 56 rfl _ _ rfl rfl (.slice a6 X.length c6) W6 (unhide HAP6) ?_) | (at_builtin; refine wpList_append_run rfl _ _ 56 56 rfl _ _ rfl rfl (.slice a7 N c7) W7 (unhide HAP7) ?_))
  clear HAP6 HAP7
  go_loopw [7, 8] (fun s7 s8 wr => ∃ (n : Nat) (lst : ByteArray), s7 = .string lst ∧ s8 = .int .i64 n ∧ n ≤ N ∧ Hid (Ws w hb p N (.slice a7 N c7) n lst wr)) (fun _ s8 _ => (intOf s8).toNat)
  case atStart => exact ⟨N, ⟨#[]⟩, rfl, rfl, Nat.le_refl _, HWS⟩
  case round =>
    obtain ⟨n, lst, rfl, rfl, hn, HW⟩ := hrel
    by_cases h0 : n = 0
    · subst h0
      obtain ⟨I, A, G, i1, i2, -⟩ := (unhide HW).st
      have hI : I = [] := List.eq_nil_of_length_eq_zero i2
      subst hI
      have HPE := hide (pop_end i1)
      have HLN := hide (len_any i1)
      have BO := hide (unhide HW).old
      simp only [List.length_nil] at HLN
      clear i1 i2 HW
      go_wp2_with fail
      refine (unhide HPE).mono ?_
      rintro e w8 ⟨rfl, hw8⟩
      have hw8' := hw8.symm
      subst hw8'
      clear hw8
      go_wp2_with (go_at_call 25; refine (unhide HLN).mono ?_; rintro e w9 ⟨rfl, hw9⟩; have hw10 := hw9.symm; subst hw10; clear hw9)
      go_ret
      exact ⟨by first | rfl | simp, unhide BO⟩
    · obtain ⟨l, rfl⟩ : ∃ l, n = l + 1 := ⟨n - 1, by omega⟩
      obtain ⟨I, A, G, i1, i2, i3, i4, i5, i6, i7, i8⟩ := (unhide HW).st
      obtain ⟨x, J, hp⟩ := pop_ex (lt := word_) (l := I) (by omega)
      obtain ⟨g, rfl⟩ : ∃ g, a7 = some ⟨g, 0, none⟩ := by
        rcases i4.2 with ⟨e1, e2⟩ | ⟨g, c, cur, e1, _⟩
        · omega
        · injection e1 with e1 _ _; exact ⟨g, e1⟩
      have hcap : N ≤ c7 := by
        rcases i4.2 with ⟨e1, e2⟩ | ⟨g', c, cur, e1, _, _, hn', _⟩
        · omega
        · injection e1 with _ _ e1; rw [e1]; exact hn'
      have hxI : x ∈ I := by obtain ⟨u, v, e1, _⟩ := pop_split word_ord hp; rw [e1]; simp
      have hlt : Op.bytesLess x.toList lst.toList = false := i6 x hxI
      have HLN := hide (len_any i1)
      rw [i2] at HLN
      have HTO := hide (i1.top lessV_word hp)
      have HPO := hide (pop_some lessV_word i1 (by omega) hp)
      have HTK : Hid (∀ w1, Res G wr hb lessW word_ J p w1 → Calls Try.prog 28 #[.slice (some ⟨g, 0, none⟩) (l + 1) c7, .string x] w1 fun e w' => e = .returned (.bool true) ∧ Ws w hb p N (.slice (some ⟨g, 0, none⟩) N c7) l x w') := fun w1 hr => by
        have row' := own_kept i4 (fun g' hg' => hr.2.block g' (i4.lt g' hg').2 (i7 g' hg'))
        refine (take_any row' i3 (by omega) (by omega) (i5.mem_iff.2 hxI)).mono ?_
        rintro e w' ⟨e1, ⟨B, e2, e3, e4⟩, e5⟩
        exact ⟨e1, Ws.next ((unhide HW).new g rfl) (unhide HW).old i2 hp hr i5 (i7 g rfl) (i4.lt g rfl).2 i8 e2 e3 e4 e5⟩
      clear i1 i2 i3 i4 i5 i6 i7 i8 hp hxI HW
      have hl1 : (l : Int) + 1 > 0 := by omega
      have hlc : l + 1 ≤ c7 := by omega
      have hlcz : (l : Int) + 1 ≤ (c7 : Int) := by omega
      have hl00 : 0 ≤ (l : Int) + 1 := by omega
      have hxx : (x.toList == x.toList) = true := by simp
      go_wp2_with (go_at_call 25; refine (unhide HLN).mono ?_; rintro e w9 ⟨rfl, hw9⟩; have hw10 := hw9.symm; subst hw10; clear hw9)
      refine (unhide HTO).mono ?_
      rintro e w8 ⟨rfl, hw8⟩
      have hw8' := hw8.symm
      subst hw8'
      clear hw8 HTO HLN
      go_wp2_with fail
      refine (unhide HPO).mono ?_
      rintro e w9 ⟨rfl, r9⟩
      have HTA := hide (unhide HTK w9 r9)
      clear r9 HTK HPO
      go_wp2_with fail
      refine (unhide HTA).mono ?_
      rintro e w10 ⟨rfl, h10⟩
      have H10 := hide h10
      clear h10 HTA
      go_wp2
      exact ⟨⟨l, x, rfl, by go_num, by omega, H10⟩, by simp [intOf]⟩
end Hpt
end Go.Proofs.Ytddfljlecnllaaa
