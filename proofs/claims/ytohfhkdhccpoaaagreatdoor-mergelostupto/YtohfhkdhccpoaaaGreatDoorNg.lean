/- Layer 10: the document's Finish (with what it answers), Add of a word that is too long, Sort. -/
import Derived.Test.YtohfhkdhccpoaaaGreatDoorNf
namespace Go.Proofs.YtohfhkdhccpoaaaGreatDoor
open Go.RowKit Go.Shelf
namespace Rs
open Sm (Tx ofS)
theorem dres_mk {F F1 S : Nat → Prop} {w w1 w2 : World} {sb : Nat} {m : Sto} {rv : Value} {sl : Nat → Value} (hF : ∀ b, F b → b < w.heap.size) (b1 : Below w.heap.size w w1) (c : Chg F1 w1 w2) (h1 : ∀ b, F1 b → F b ∨ w.heap.size ≤ b) (hd : DIn w2 sb m S rv sl) (hS : ∀ b, S b → Up F1 w1 w2 b) : DRes F w sb m w2 := by
  have s1 := b1.size
  have s2 := c.size
  refine ⟨⟨rv, sl, hd.kept (fun _ _ => rfl) (fun b q => ?_) (fun b q => ?_)⟩, ⟨c.os.trans b1.os, c.tape.trans b1.tape, c.output.trans b1.output, by omega, fun k hk hn => ?_⟩⟩
  · have hl := hd.lt b q
    rcases hS b q with z | z
    · rcases h1 b z with y | y
      · exact .inl y
      · exact .inr ⟨y, hl⟩
    · exact .inr ⟨by omega, hl⟩
  · rcases q with q | q
    · have := hF b q; omega
    · exact q.2
  · rw [c.block k (by omega) (fun q => by
      rcases h1 k q with y | y
      · exact hn y
      · omega), b1.block k hk]
theorem dres_comp {F S : Nat → Prop} {w w3 w4 : World} {sb : Nat} {m : Sto} (hF : ∀ b, F b → b < w.heap.size) (hS : ∀ b, S b → Up F w w3 b) (c : Chg F w w3) (r : DRes S w3 sb m w4) : DRes F w sb m w4 := by
  obtain ⟨⟨rv, sl, hd⟩, c4⟩ := r
  have s1 := c.size
  have s2 := c4.size
  refine ⟨⟨rv, sl, hd.kept (fun _ _ => rfl) (fun b q => ?_) (fun b q => ?_)⟩, ⟨c4.os.trans c.os, c4.tape.trans c.tape, c4.output.trans c.output, by omega, fun k hk hn => ?_⟩⟩
  · rcases q with q | q
    · rcases hS b q with y | y
      · exact .inl y
      · exact .inr ⟨y.1, by omega⟩
    · exact .inr ⟨by omega, q.2⟩
  · rcases q with q | q
    · have := hF b q; omega
    · exact q.2
  · rw [c4.block k (by omega) (fun q => by
      rcases hS k q with y | y
      · exact hn y
      · omega), c.block k hk hn]
/-- the store and the list that Finish answers -/
def FD (F : Nat → Prop) (W : World) (sb : Nat) (m : Sto) (ks : List Nat) (l : Value) (w' : World) : Prop := Chg F W w' ∧ ∃ S rv sl, DIn w' sb m S rv sl ∧ (∀ b, S b → Up F W w' b) ∧ Nums w' l (zs ks) ∧ Off S l
theorem fd_of {F F1 : Nat → Prop} {W W1 : World} {sb gb : Nat} {m : Sto} {f : For} {S : Nat → Prop} {hv mv : Value} (hc : Chg F W W1) (hgF : F gb) (h : GIn W1 sb gb m f F1 S hv mv) (h1 : ∀ b, F1 b → Up F W W1 b) : FD F W sb m f.made mv (W1.setCell ⟨gb, 3, none⟩ (.int .i64 13)) := by
  obtain ⟨rv, sl, hd⟩ := h.sto
  have hne : ∀ b, S b → b ≠ gb := fun b q e => h.ngb (e ▸ q)
  refine ⟨hc.setCell (p := ⟨gb, 3, none⟩) (.inl hgF) _, S, rv, sl, hd.kept (fun b q => Below.heap_setCell _ _ _ _ (hne b q)) (fun _ x => x) (fun b q => by rw [World.size_setCell]; exact hd.lt b q), fun b q => ?_, ?_, fun g off n c e q => ?_⟩
  · rcases h1 b (h.sub b q) with z | z
    · exact .inl z
    · exact .inr ⟨z.1, by rw [World.size_setCell]; exact z.2⟩
  · have h0 : (W1.setCell ⟨gb, 3, none⟩ (.int .i64 13)).ownsRow 0 3 1 mv f.made.length (nts f.made) := own_kept h.mad fun g hg => Below.heap_setCell _ _ _ _ fun e => by
      obtain ⟨c, fz, hk⟩ := Lib.ownsRow_kind h.mad g hg
      have hb := h.blk
      unfold GBk at hb
      rw [show g = gb from e, hb] at hk
      injection hk with hk
      injection hk with _ hk _
      exact absurd hk (by decide)
    exact nums_own h0
  · subst e
    rcases h.mad.2 with ⟨e1, _⟩ | ⟨g', c', cur, e1, _⟩
    · cases e1
    · injection e1 with e1 _ _
      injection e1 with e1
      injection e1 with e1 _ _
      exact (h.mF g (by rw [e1]; rfl)).2 q
set_option maxRecDepth 100000 in
set_option maxHeartbeats 2000000 in
theorem finish_doc0 {W : World} {sb gb : Nat} {m : Sto} {f : For} {F S : Nat → Prop} {hv mv : Value} (h : GIn W sb gb m f F S hv mv) (ok : f.Ok m) (hful : f.buf.length < f.size) (m' : Sto) (f' : For) (HR : fins m f = (0, m', f')) :
    Calls Tryz.prog 51 #[.pointer (some ⟨sb, 0, none⟩), .pointer (some ⟨gb, 0, none⟩)] W fun e w' => ∃ l, e = .returned (.tuple #[l, .int .i64 0]) ∧ FD F W sb m' f'.made l w' := by
  obtain ⟨c0, c1, c2, c3, cf, hgl⟩ := gcells h.blk
  rw [ok.live] at c3
  have hml : f.made.length ≤ 16777216 := by
    obtain ⟨_, _, hd⟩ := h.sto
    exact Nat.le_trans ok.made hd.ok.made
  have hs2 := ok.s2
  obtain ⟨a1, cc1, rfl⟩ := h.hel.slice
  unfold fins at HR
  by_cases hb : f.buf = []
  · rw [if_pos hb] at HR
    injection HR with i1 i2
    injection i2 with i2 i3
    subst i2 i3
    obtain ⟨a2, cc2, rfl⟩ := own_nums h.mad
    have HF := hide (fd_of (Chg.refl F W) h.own h fun b q => .inl q)
    rw [hb] at c0
    simp only [List.length_nil] at c0
    clear h i1
    go_enter Tryz.func51, Tryz.ntmps51
    go_wp2
    go_ret2
    exact ⟨_, rfl, unhide HF⟩
  · rw [if_neg hb] at HR
    have hb0 : 0 < f.buf.length := by
      rcases Nat.eq_zero_or_pos f.buf.length with e | e
      · exact absurd (List.eq_nil_of_length_eq_zero e) hb
      · exact e
    obtain ⟨q, hq⟩ : ∃ q, f.buf.length = q := ⟨_, rfl⟩
    have HW : Hid (Calls Tryz.prog 75 #[.pointer (some ⟨sb, 0, none⟩), .pointer (some ⟨gb, 0, none⟩)] W fun e w1 => e = .returned (.int .i64 0) ∧ ∃ hv2 a2 k2 c2 s2 d2, GBk w1 gb hv2 (.slice a2 k2 c2) s2 d2 ∧ FD F W sb m' f'.made (.slice a2 k2 c2) (w1.setCell ⟨gb, 3, none⟩ (.int .i64 13))) := by
      refine (write_doc h hml (by omega) ok.short 0 m' f' HR).mono ?_
      rintro e w1 ⟨rfl, hch, ⟨_, S2, hv2, mv2, u2⟩ | ⟨u3, _⟩⟩
      · obtain ⟨a2, cc2, rfl⟩ := own_nums u2.mad
        exact ⟨rfl, hv2, a2, _, cc2, _, _, u2.blk, fd_of hch h.own u2 fun b q => q⟩
      · exact absurd rfl u3
    rw [hq] at c0 hb0
    have hbz : 0 < (q : Int) := by omega
    clear h HR ok hq hful
    go_enter Tryz.func51, Tryz.ntmps51
    go_wp2_with (go_at_call 75; refine (unhide HW).mono ?_; rintro e w1 ⟨rfl, hv2, a2, k2, cc2, s2, d2, hbk, hfd⟩; obtain ⟨y0, y1, y2, y3, yf, hyl⟩ := gcells hbk; have HF := hide hfd; clear hbk hfd)
    go_ret2
    exact ⟨_, rfl, unhide HF⟩
set_option maxRecDepth 100000 in
set_option maxHeartbeats 2000000 in
theorem finish_docf {W : World} {sb gb : Nat} {m : Sto} {f : For} {F S : Nat → Prop} {hv mv : Value} (h : GIn W sb gb m f F S hv mv) (ok : f.Ok m) (hful : f.buf.length < f.size) (c : Nat) (m' : Sto) (f' : For) (HR : fins m f = (c, m', f')) (hc : c ≠ 0) :
    Calls Tryz.prog 51 #[.pointer (some ⟨sb, 0, none⟩), .pointer (some ⟨gb, 0, none⟩)] W fun e w' => ∃ a k d, e = .returned (.tuple #[.slice a k d, .int .i64 c]) ∧ GRes F W sb gb c m' f' w' := by
  obtain ⟨c0, c1, c2, c3, cf, hgl⟩ := gcells h.blk
  rw [ok.live] at c3
  have hml : f.made.length ≤ 16777216 := by
    obtain ⟨_, _, hd⟩ := h.sto
    exact Nat.le_trans ok.made hd.ok.made
  have hs2 := ok.s2
  obtain ⟨a1, cc1, rfl⟩ := h.hel.slice
  unfold fins at HR
  by_cases hb : f.buf = []
  · rw [if_pos hb] at HR
    injection HR with i1 i2
    exact absurd i1.symm hc
  · rw [if_neg hb] at HR
    have hb0 : 0 < f.buf.length := by
      rcases Nat.eq_zero_or_pos f.buf.length with e | e
      · exact absurd (List.eq_nil_of_length_eq_zero e) hb
      · exact e
    obtain ⟨q, hq⟩ : ∃ q, f.buf.length = q := ⟨_, rfl⟩
    have HW := hide (write_doc h hml (by omega) ok.short c m' f' HR)
    rw [hq] at c0 hb0
    have hbz : 0 < (q : Int) := by omega
    have q5 : ((c : Int) == 0) = false := by simp; omega
    clear h HR ok hq hful
    go_enter Tryz.func51, Tryz.ntmps51
    go_wp2_with (go_at_call 75; refine (unhide HW).mono ?_; rintro e w1 ⟨rfl, hch⟩; have HC := hide hch; clear hch)
    go_ret2
    exact ⟨_, _, _, rfl, unhide HC⟩
set_option maxRecDepth 100000 in
set_option maxHeartbeats 2000000 in
theorem add_doclong {W : World} {s hv mv v : Value} {gb sz : Nat} {X : List Tx} (h : GBk W gb hv mv sz 0) (hT : Um.Txs W v X) (hn : X.length ≤ 1073741824) (hl : X.any long = true) :
    Calls Tryz.prog 50 #[s, .pointer (some ⟨gb, 0, none⟩), v] W fun e w' => e = .returned (.int .i64 10) ∧ w' = W := by
  obtain ⟨c0, c1, c2, c3, cf, hgl⟩ := gcells h
  obtain ⟨ao, cap, rfl, hcap, hnn, hat⟩ := hT
  have HAT := hide hat
  have HL := hide hl
  obtain ⟨N, hN⟩ : ∃ N, X.length = N := ⟨_, rfl⟩
  have HN := hide hN
  rw [hN] at hn ⊢
  clear hat hnn hl h hN hcap
  go_enter Tryz.func50, Tryz.ntmps50
  go_wp2
  go_loopw [7] (fun s7 wr => ∃ k : Nat, s7 = .int .i64 k ∧ k ≤ N ∧ wr = W ∧ Hid ((X.take k).any long = false)) (fun s7 _ => N - (intOf s7).toNat)
  case atStart => exact ⟨0, rfl, Nat.zero_le _, rfl, rfl⟩
  case round =>
    obtain ⟨k, rfl, hk, rfl, HT⟩ := hrel
    by_cases hlt : k < N
    · have hltz : (k : Int) < (N : Int) := by omega
      have hk0 : 0 ≤ (k : Int) := by omega
      obtain ⟨g, off, rfl, hg, hc⟩ := unhide HAT (by rw [unhide HN]; omega)
      obtain ⟨x, hx⟩ : ∃ x, X[k]? = some x := ⟨_, List.getElem?_eq_getElem (by rw [unhide HN]; exact hlt)⟩
      have hcx := hc k x hx
      by_cases hs : 255 < x.size
      · have hsz : (255 : Int) < (x.size : Int) := by omega
        clear hc hx
        go_wp2
        go_ret
        exact ⟨rfl, rfl⟩
      · have hsz : ¬ (255 : Int) < (x.size : Int) := by omega
        have HT2 : Hid ((X.take (k + 1)).any long = false) := long_take (unhide HT) hx (by unfold long; simp; omega)
        clear hc hx
        go_wp2
        go_roundw
        case rel => exact ⟨k + 1, by go_num, by omega, trivial, HT2⟩
        case measure => simp [intOf]; omega
    · exfalso
      have h1 := unhide HT
      have h2 := unhide HL
      rw [List.take_of_length_le (by rw [unhide HN]; omega)] at h1
      rw [h1] at h2
      cases h2
end Rs
end Go.Proofs.YtohfhkdhccpoaaaGreatDoor
