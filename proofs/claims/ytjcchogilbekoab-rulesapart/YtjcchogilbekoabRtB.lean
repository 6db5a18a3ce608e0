/- What the laws of layer 4 lean on: patterns in memory; their wakes. -/
import Derived.Test.YtjcchogilbekoabRaW
namespace Go.Proofs.Ytjcchogilbekoab
open Go.RowKit
namespace Pt
open Cd

def rdP (l : List UInt8) : List (UInt8 → Bool) := (rd l).1.map adm
theorem rdP_len (l : List UInt8) : (rdP l).length ≤ 16 := by rw [rdP, List.length_map]; exact rd_len l
attribute [local go_sem ↓] load_as
attribute [local go_sem] ldP_new ldP_drew
theorem keep_pat {W W' : World} {g : Nat} {X : Array Value} {t : TypeId} (h : W.heap[g]? = some (.cells X t (0, 0))) (hb : Below W.heap.size W W') : W'.heap[g]? = some (.cells X t (0, 0)) := (hb.block g (Array.getElem?_eq_some_iff.1 h).1).trans h
theorem store_new (W : World) (X : Array Value) (hX : Sz65 X) (h1 : X.all (·.oneCell') = true) : (storeCells ⟨W.heap.size, 0, none⟩ X.toList 0).run Try.prog (W.alloc (.cells (patC []) 48)) = .ok () (W.alloc (.cells X 48)) := by
  have := store_pat _ _ _ _ _ (heap_alloc_last W (.cells (patC []) 48)) (patC_size [] (by decide)) hX h1
  rw [setRow_last] at this
  exact this
theorem sz_pat (l : List UInt8) : Sz65 (patC (rdP l)) := patC_size _ (rdP_len l)
theorem wk_len : (rdP [91, 94, 97, 101, 105, 111, 117, 93, 121]).length = 2 := by decide
theorem wk_yes : endsB (rdP [91, 94, 97, 101, 105, 111, 117, 93, 121]) [102, 108, 121] = true := by decide
theorem wk_no : endsB (rdP [91, 94, 97, 101, 105, 111, 117, 93, 121]) [100, 97, 121] = false := by decide
theorem wk_ok : (rd [91, 94, 97, 101, 105, 111, 117, 93, 121]).2 = 0 := by decide
end Pt
end Go.Proofs.Ytjcchogilbekoab
