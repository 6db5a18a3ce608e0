/- What it is that a list of lists of texts that came in lies in memory, and how big it is; no walk. -/
import Derived.Test.YtaaonaaciomijabDoorRows
import Derived.Test.YtaaonaaciomijabDoorShoW
namespace Go.Proofs.YtaaonaaciomijabDoor
open Go.RowKit
namespace ArgR
open ArgB ShM SzW
section
variable {H : Type} {enc : TypeId × Value → H} {P : Program} {w : World}

/-- A list that came in as one cell, opened: what it holds, and what its datum is. -/
theorem open_cell {α : Type} (ev : α → Value) (dat : α → DataW H) {t e : TypeId} (ht : P.underlying t = some (.slice e)) (hc : P.cellsOf e = 1)
    (hel : ∀ (n : Nat) (u : Value) (d : DataW H) (p : List MemPlace), DataW.trod enc P w 0 (fun _ => true) true n e [u] = some (d, p) → ∃ x : α, u = ev x ∧ d = dat x)
    {v : Value} {fuel : Nat} {d : DataW H} {p : List MemPlace} (hf : DataW.trod enc P w 0 (fun _ => true) true fuel t [v] = some (d, p)) :
    ∃ L S : List α, ArgOf ev w v L ∧ Kind v ∧ ((d = .nil ∧ L = []) ∨ d = .slice (L.map dat) (S.map dat)) := by
  rcases Go.Deep.open_slice1 ht hc hf with ⟨hcs, hx⟩ | ⟨x, len', cap', m, n, V, D, Pl, hcs, _, hl, hm, hmm, hx, hV⟩
  · simp at hcs
    subst hcs
    simp only [Prod.mk.injEq] at hx
    exact ⟨[], [], arg_nil, .inl rfl, .inl ⟨hx.1, rfl⟩⟩
  · have hv : v = .slice (some x) len' cap' := by simpa using hcs
    have hk : DataW.Trod enc P w 0 (fun _ => true) true t (.slice (some x) len' cap') d p := ⟨fuel, by rw [hv] at hf; exact hf⟩
    obtain ⟨L, S, h1, h2⟩ := open_arg ev dat ht hc hel hk
    exact ⟨L, S, by rw [hv]; exact h1, .inr ⟨_, _, _, hv⟩, h2⟩

/-- one row with what it holds -/
structure One (w : World) where
  v : Value
  l : List ByteArray
  s : List ByteArray
  nil : Bool
  arg : ArgOf Value.string w v l
  kind : Kind v
def datR {w : World} (x : One w) : DataW H := if x.nil then .nil else .slice (x.l.map datS) (x.s.map datS)
theorem el_row {t e : TypeId} (ht : P.underlying t = some (.slice e)) (hc : P.cellsOf e = 1) (he : P.underlying e = some .string) (n : Nat) (u : Value) (d : DataW H) (p : List MemPlace)
    (h : DataW.trod enc P w 0 (fun _ => true) true n t [u] = some (d, p)) : ∃ x : One w, u = x.v ∧ d = datR x ∧ (x.nil = true → x.l = []) := by
  obtain ⟨L, S, h1, h2, ⟨rfl, h3⟩ | rfl⟩ := open_cell Value.string datS ht hc (el_string he) h
  · exact ⟨⟨u, L, S, true, h1, h2⟩, rfl, rfl, fun _ => h3⟩
  · exact ⟨⟨u, L, S, false, h1, h2⟩, rfl, rfl, fun h => by cases h⟩
/-- one row, with what its datum tells -/
def Row (w : World) : Type := { x : One w // x.nil = true → x.l = [] }
theorem open_rows {t e s : TypeId} (h0 : P.underlying t = some (.slice e)) (h1 : P.cellsOf e = 1) (h2 : P.underlying e = some (.slice s)) (h3 : P.cellsOf s = 1) (h4 : P.underlying s = some .string)
    {a : Option Addr} {len cap : Nat} {d : DataW H} {p : List MemPlace} (h : DataW.Trod enc P w 0 (fun _ => true) true t (.slice a len cap) d p) :
    ∃ L S : List (Row w), IsRows w (.slice a len cap) (L.map fun x => x.1.l) ∧ ((d = .nil ∧ L = []) ∨ d = .slice (L.map fun x => datR x.1) (S.map fun x => datR x.1)) := by
  obtain ⟨L, S, hA, hD⟩ := open_arg (fun x : Row w => x.1.v) (fun x => datR x.1) h0 h1 (fun n u d p hh => by
    obtain ⟨x, hx, hd, hn⟩ := el_row h2 h3 h4 n u d p hh
    exact ⟨⟨x, hn⟩, hx, hd⟩) h
  refine ⟨L, S, ⟨L.map fun x => x.1.v, ?_, by simp, fun i u r hu hr => ?_, fun u hu => ?_⟩, hD⟩
  · obtain ⟨ao, c, e1, e2, e3, e4⟩ := hA
    refine ⟨ao, c, by simpa using e1, by simpa using e2, by simpa using e3, fun h0 => ?_⟩
    obtain ⟨g, off, e5, hg, hc⟩ := e4 (by simpa using h0)
    refine ⟨g, off, e5, hg, fun j x hx => ?_⟩
    simp only [List.getElem?_map, Option.map_eq_some_iff] at hx
    obtain ⟨y, hy, rfl⟩ := hx
    exact hc j y hy
  · simp only [List.getElem?_map, Option.map_eq_some_iff] at hu hr
    obtain ⟨y, hy, rfl⟩ := hu
    obtain ⟨z, hz, rfl⟩ := hr
    rw [hy] at hz
    cases hz
    exact y.1.arg
  · obtain ⟨y, _, rfl⟩ := List.mem_map.1 hu
    exact y.1.kind
/-- how big the rows are -/
theorem bulk_strs (L : List ByteArray) : rt L = Rows.uptoBulkAll (H := H) (L.map datS) := by
  induction L with
  | nil => rfl
  | cons x t ih =>
    have e : x.data.toList.length = x.size := by simp
    simp only [List.map_cons, Rows.uptoBulkAll, datS, Rows.uptoBulk, ← ih]
    simp only [rt, List.map_cons, List.sum_cons]
    omega
theorem bulk_row (x : Row w) : rt x.1.l + 1 ≤ Rows.uptoBulk (H := H) (datR x.1) := by
  unfold datR
  split
  · rename_i hn
    rw [x.2 hn]
    simp [rt, Rows.uptoBulk]
  · rw [bulk_strs (H := H)]
    simp only [Rows.uptoBulk]
    omega
theorem bulk_rows (L : List (Row w)) : tot (L.map fun x => x.1.l) + L.length ≤ Rows.uptoBulkAll (H := H) (L.map fun x => datR x.1) := by
  induction L with
  | nil => simp [tot]
  | cons x t ih =>
    have := bulk_row (H := H) x
    simp only [List.map_cons, Rows.uptoBulkAll, List.length_cons]
    simp only [tot, List.map_cons, List.sum_cons] at ih ⊢
    omega
theorem bulk_arg {d : DataW H} {L S : List (Row w)} (hd : (d = .nil ∧ L = []) ∨ d = .slice (L.map fun x => datR x.1) (S.map fun x => datR x.1)) (hb : Rows.uptoBulk d ≤ 1048576) :
    tot (L.map fun x => x.1.l) + (L.map fun x => x.1.l).length ≤ 1048576 := by
  rcases hd with ⟨_, rfl⟩ | rfl
  · simp [tot]
  · have := bulk_rows (H := H) L
    simp only [Rows.uptoBulk] at hb
    rw [List.length_map]
    omega
end
theorem le_rt : ∀ {r : List ByteArray} {f : ByteArray}, f ∈ r → f.size + 1 ≤ rt r
  | g :: t, f, h => by
    simp only [rt, List.map_cons, List.sum_cons]
    rcases List.mem_cons.1 h with rfl | h
    · omega
    · have := le_rt h
      simp only [rt] at this
      omega
theorem len_rt : ∀ (r : List ByteArray), r.length ≤ rt r
  | [] => Nat.zero_le _
  | g :: t => by
    have := len_rt t
    simp only [rt, List.map_cons, List.sum_cons, List.length_cons] at this ⊢
    omega
theorem le_tot : ∀ {R : List (List ByteArray)} {r : List ByteArray}, r ∈ R → rt r ≤ tot R
  | g :: t, r, h => by
    simp only [tot, List.map_cons, List.sum_cons]
    rcases List.mem_cons.1 h with rfl | h
    · omega
    · have := le_tot h
      simp only [tot] at this
      omega
end ArgR
end Go.Proofs.YtaaonaaciomijabDoor
