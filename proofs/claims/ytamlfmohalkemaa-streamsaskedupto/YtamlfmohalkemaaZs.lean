/- Layer 8: the order of cursors in a union's heap, and what it rests upon. -/
import Derived.Test.YtamlfmohalkemaaZl
import Derived.Test.YtamlfmohalkemaaZh
import Derived.Test.YtamlfmohalkemaaCk
import Derived.Deep.QuietTactic
namespace Go.Proofs.Ytamlfmohalkemaa
open Go.RowKit Go.Shelf
namespace Sm
open Hpc (Cu Cx Les LessV)

def hd (x : Cu) : Tx := x.L.headD ByteArray.empty
def clt (a b : Cu) : Bool := lt (hd a) (hd b)
theorem clt_ord : Hp.Ord clt := ⟨fun a b h => lt_asym h, fun a b c h => by
  show lt (hd a) (hd c) = true ∨ lt (hd c) (hd b) = true
  cases k : lt (hd a) (hd c) with
  | true => exact .inl rfl
  | false => exact .inr (le_lt k h)⟩
/-- the cursors over rows in blocks R, as they lay in w₀ -/
structure Zc (R : Nat → Prop) (w₀ : World) (x : Cu) : Prop where
  ne : x.L ≠ []
  len : x.n = x.L.length
  cap : x.n ≤ x.c
  rs : Rs x.L
  row : ∃ g off, x.ao = some ⟨g, off, none⟩ ∧ R g ∧ ∀ (j : Nat) t, x.L[j]? = some t → w₀.cell? ⟨g, off + j, none⟩ = some (.string t)
def uC (R : Nat → Prop) (w₀ : World) (hR : ∀ b, R b → b < w₀.heap.size) : Cx where
  Z := Zc R w₀
  K := fun W => ∀ b, R b → W.heap[b]? = w₀.heap[b]?
  N := fun b => ¬ R b
  D := w₀.heap.size
  new := fun b hb h => by have := hR b h; omega
  keeps := fun W W' h _ hk b hb => by
    have h1 := h b hb
    have hlt : b < W.heap.size := lt_of_block h1 (hR b hb)
    exact (hk b hlt (fun q => q hb)).trans h1
theorem Zc.head {R : Nat → Prop} {w₀ : World} {x : Cu} (h : Zc R w₀ x) : x.L = hd x :: x.L.tail := by
  cases e : x.L with
  | nil => exact absurd e h.ne
  | cons a t => simp [hd, e]
theorem Zc.cell {R : Nat → Prop} {w₀ W : World} {x : Cu} (h : Zc R w₀ x) (hK : ∀ b, R b → W.heap[b]? = w₀.heap[b]?) : ∃ g off, x.ao = some ⟨g, off, none⟩ ∧ W.cell? ⟨g, off, none⟩ = some (.string (hd x)) := by
  obtain ⟨g, off, e, hg, hc⟩ := h.row
  refine ⟨g, off, e, ?_⟩
  have := hc 0 (hd x) (by rw [h.head]; rfl)
  rw [World.cell?_of_block (w := w₀) (hK g hg)]
  exact this
set_option maxRecDepth 100000 in
theorem les_ahead (R : Nat → Prop) (w₀ : World) (hR : ∀ b, R b → b < w₀.heap.size) : Les (uC R w₀ hR) 41 clt := by
  refine ⟨clt_ord, fun W => by kernel_rfl, fun x y W => by kernel_rfl, fun a b W za zb hK => ?_⟩
  have za' : Zc R w₀ a := za
  have zb' : Zc R w₀ b := zb
  have hK' : ∀ b, R b → W.heap[b]? = w₀.heap[b]? := hK
  obtain ⟨ga, oa, ea, ca⟩ := za'.cell hK'
  obtain ⟨gb, ob, eb, cb⟩ := zb'.cell hK'
  have na : 0 < a.n := by rw [za'.len]; exact List.length_pos_iff.2 za'.ne
  have nb : 0 < b.n := by rw [zb'.len]; exact List.length_pos_iff.2 zb'.ne
  rw [ea, eb]
  have e1 : Op.bytesLess (hd a).toList (hd b).toList = clt a b := rfl
  have naz : (0 : Int) < (a.n : Int) := by omega
  have nbz : (0 : Int) < (b.n : Int) := by omega
  generalize clt a b = r at *
  generalize hd a = x at *
  generalize hd b = y at *
  generalize a.n = n at *
  generalize b.n = m at *
  generalize a.c = c at *
  generalize b.c = d at *
  clear za zb za' zb' hK hK' ea eb
  go_enter Try.func41, Try.ntmps41
  go_wp2
  go_quiet (fail)
  go_wp2
  go_ret
  exact ⟨rfl, below_drewN _ _ _⟩
theorem lessV_ahead (R : Nat → Prop) (w₀ : World) (hR : ∀ b, R b → b < w₀.heap.size) : LessV (uC R w₀ hR) (.func (.func 41) #[] #[]) clt := ⟨_, rfl, les_ahead R w₀ hR⟩
/-- the first text cut off -/
def ctl (x : Cu) (ao : Option Addr) : Cu := ⟨ao, x.n - 1, x.c - 1, x.L.tail⟩
theorem Zc.cut {R : Nat → Prop} {w₀ : World} {x : Cu} (h : Zc R w₀ x) {g off : Nat} (e : x.ao = some ⟨g, off, none⟩) (h2 : 2 ≤ x.n) : Zc R w₀ (ctl x (some ⟨g, off + 1, none⟩)) := by
  obtain ⟨g', off', e', hg, hc⟩ := h.row
  rw [e] at e'
  injection e' with e'
  injection e' with e1 e2 e3
  subst e1 e2
  have hl := h.len
  have hh := h.head
  have hr := h.rs
  have hcp := h.cap
  refine ⟨?_, ?_, ?_, ?_, g, off + 1, rfl, hg, fun j t hj => ?_⟩
  · show x.L.tail ≠ []
    intro e
    rw [hh, e] at hl
    simp at hl
    omega
  · show x.n - 1 = x.L.tail.length
    simp; omega
  · show x.n - 1 ≤ x.c - 1
    omega
  · show Rs x.L.tail
    rw [hh] at hr
    exact (rs_cons.1 hr).2
  · have : x.L[j + 1]? = some t := by rw [hh]; exact hj
    rw [show off + 1 + j = off + (j + 1) by omega]
    exact hc _ _ this
end Sm
end Go.Proofs.Ytamlfmohalkemaa
