/- Layer 5: holds. -/
import Derived.Test.YtgmgnhkphlegpaaDoorPlA
import Derived.Test.YtgmgnhkphlegpaaDoorRk
namespace Go.Proofs.YtgmgnhkphlegpaaDoor
open Go.RowKit
namespace Rs
/-- the book in memory -/
def Book (w : World) (v : Value) (bk : List (List UInt8 × Bool)) : Prop :=
  ∃ bo cap, v = .slice bo bk.length cap ∧ (0 < bk.length → ∃ g, bo = some ⟨g, 0, none⟩ ∧ g < w.heap.size ∧ ∀ (j : Nat) t b, bk[j]? = some (t, b) → w.cell? ⟨g, j * 2, none⟩ = some (.string (strB t)) ∧ w.cell? ⟨g, j * 2 + 1, none⟩ = some (.bool b))
/-- the book tells of the store -/
structure Tells (m : Sto) (bk : List (List UInt8 × Bool)) : Prop where
  len : bk.length = m.made
  yes : ∀ (j : Nat) t, bk[j]? = some (t, true) → ∃ r, look m.runs ((j : Int) + 1) = some r ∧ r.txt = t
  no : ∀ (j : Nat) t, bk[j]? = some (t, false) → look m.runs ((j : Int) + 1) = none
structure Part (l : List Run) (k a : Nat) (used : Nat) : Prop where
  le : a ≤ l.length
  lo : ∀ r ∈ l.take a, r.num ≤ k
  hi : ∀ r ∈ l.drop a, k < r.num
  sum : used = tot (l.take a)
theorem Part.zero {m : Sto} (ok : m.Ok) : Part m.runs 0 0 0 := ⟨Nat.zero_le _, fun r hr => by simp at hr, fun r hr => by have := ok.nums r (by simpa using hr); omega, by simp [tot]⟩
theorem Part.skip {m : Sto} {k a u : Nat} (h : Part m.runs k a u) (hl : look m.runs ((k : Int) + 1) = none) (hs : m.runs.Pairwise fun a b => a.num < b.num) : Part m.runs (k + 1) a u := by
  refine ⟨h.le, fun r hr => Nat.le_succ_of_le (h.lo r hr), fun r hr => ?_, h.sum⟩
  have h1 := h.hi r hr
  have h2 : r.num ≠ k + 1 := fun e => by
    have h3 := look_of hs (List.mem_of_mem_drop hr)
    rw [e] at h3
    rw [show ((k + 1 : Nat) : Int) = (k : Int) + 1 by omega] at h3
    rw [h3] at hl
    cases hl
  omega
theorem Part.at {m : Sto} {k a u : Nat} {r : Run} (h : Part m.runs k a u) (hl : look m.runs ((k : Int) + 1) = some r) (hs : m.runs.Pairwise fun a b => a.num < b.num) : m.runs[a]? = some r ∧ a < m.runs.length ∧ Part m.runs (k + 1) (a + 1) (u + r.txt.length) := by
  obtain ⟨hm, hn⟩ := look_mem hl
  have hsum := h.sum
  obtain ⟨x, t, e⟩ := List.append_of_mem hm
  have hle := h.le
  have hlo := h.lo
  have hhi := h.hi
  rw [e] at hs hle hlo hhi hsum
  obtain ⟨s1, s2, s3⟩ := List.pairwise_append.1 hs
  obtain ⟨s4, s5⟩ := List.pairwise_cons.1 s2
  have hx : x.length = a := by
    rcases Nat.lt_trichotomy x.length a with hc | hc | hc
    · exfalso
      have := hlo r (List.mem_of_getElem? (i := x.length) (by rw [List.getElem?_take, if_pos hc]; simp))
      omega
    · exact hc
    · exfalso
      have hy : x[a] ∈ (x ++ r :: t).drop a := by
        rw [List.drop_append_of_le_length (by omega), List.drop_eq_getElem_cons hc]
        exact List.mem_append_left _ (List.mem_cons_self ..)
      have h1 := hhi _ hy
      have h2 := s3 _ (List.getElem_mem hc) r (List.mem_cons_self ..)
      omega
  subst hx
  have et : (x ++ r :: t).take (x.length + 1) = x ++ [r] := by rw [List.take_append, List.take_of_length_le (by omega)]; simp
  have et0 : (x ++ r :: t).take x.length = x := by simp
  have ed : (x ++ r :: t).drop (x.length + 1) = t := by simp [List.drop_append]
  rw [e]
  rw [et0] at hsum hlo
  refine ⟨by simp, by simp, by simp, fun y hy => ?_, fun y hy => ?_, ?_⟩
  · rw [et] at hy
    rcases List.mem_append.1 hy with hy | hy
    · exact Nat.le_succ_of_le (hlo y hy)
    · have : y = r := by simpa using hy
      subst this
      omega
  · rw [ed] at hy
    have := s4 y hy
    omega
  · rw [et, tot_app, hsum]
    simp [tot]
theorem Part.end {m : Sto} {a u : Nat} (h : Part m.runs m.made a u) (ok : m.Ok) : a = m.runs.length ∧ u = tot m.runs := by
  have h0 : m.runs.drop a = [] := by
    rcases hd : m.runs.drop a with _ | ⟨r, t⟩
    · rfl
    · have h1 := h.hi r (by rw [hd]; exact List.mem_cons_self ..)
      have h2 := ok.nums r (List.mem_of_mem_drop (by rw [hd]; exact List.mem_cons_self ..))
      omega
  have h1 := List.drop_eq_nil_iff.1 h0
  have h2 := h.le
  have h3 : a = m.runs.length := by omega
  refine ⟨h3, ?_⟩
  rw [h.sum, h3, List.take_length]
/-- the texts' sum stays small -/
theorem Part.small {m : Sto} {k a u : Nat} (h : Part m.runs k a u) : u ≤ tot m.runs := by
  have e := tot_app (m.runs.take a) (m.runs.drop a)
  rw [List.take_append_drop] at e
  rw [h.sum]; omega
theorem nums_get {l : List Run} {a : Nat} {r : Run} (h : l[a]? = some r) : (nums l)[a]? = some (r.num : Int) := by simp [nums, h]
theorem ne_err (W : World) (a : Addr) : (binOp .neq 56 (.iface 112 (.pointer (some a))) (.iface 112 (.pointer (some a)))).run Tryd.prog W = .ok (.bool false) W := by
  obtain ⟨i, hi, hc⟩ := Option.map_eq_some_iff.1 (show (Tryd.prog.info? 112).map (·.comparable) = some true by kernel_rfl)
  obtain ⟨j, hj, _⟩ := Option.map_eq_some_iff.1 (show (Tryd.prog.info? 128).map (·.size) = some 1 by kernel_rfl)
  simp only [binOp]
  simp [Op.equal, Op.maxDepth, run_equalIn_iface_ptr_same W 9998 a Tryd.underlying56 Tryd.underlying112 hi hc hj]
set_option maxRecDepth 100000 in
set_option maxHeartbeats 2000000 in
theorem holds_law {w : World} {v : Value} {c : Int} {sb : Nat} {m : Sto} {F : Nat → Prop} {E : Nat → Addr} {B : Nat} {bk : List (List UInt8 × Bool)} (h : At w sb m F) (V : Env w E B) (hF : ∀ b, F b → B ≤ b) (hB : B ≤ w.heap.size) (hbk : Book w v bk) (ht : Tells m bk) (hc : (m.cap : Int) ≤ max 0 c) :
    Calls Tryd.prog 16 #[.pointer (some ⟨sb, 0, none⟩), v, .int .i64 c] w fun e w' => e = .returned (.bool true) ∧ Below w.heap.size w w' := by
  have hlen : (nums m.runs).length ≤ 16777216 := by have := h.ok.len; have := h.ok.made; simp only [nums, List.length_map]; omega
  have hbl : bk.length ≤ 16777216 := by have := h.ok.made; have := ht.len; omega
  have HL : Hid (Calls Tryd.prog 18 #[.pointer (some ⟨sb, 0, none⟩)] w fun e w' => ∃ a c, e = .returned (.slice a (nums m.runs).length c) ∧ Ints w' (.slice a (nums m.runs).length c) (nums m.runs) ∧ Below w.heap.size w w') := (live_any h).mono fun e w' hh => by
    obtain ⟨v, rfl, ho, hb⟩ := hh
    obtain ⟨a, c, rfl⟩ := own_slice ho
    exact ⟨a, c, rfl, ints_own ho hlen, hb⟩
  have HSZ : Hid (∀ W k r, Below w.heap.size w W → 0 ≤ k → k ≤ 16777216 → look m.runs k = some r → Calls Tryd.prog 26 #[.pointer (some ⟨sb, 0, none⟩), .int .i64 k] W fun e w' => e = .returned (.tuple #[.int .i64 r.txt.length, .nilIface]) ∧ Below W.heap.size W w') := fun W k r hb h0 h1 hl => by
    have := size_any (k := k) (at_below h hb) ((V.below (hb.mono hB)).gs hF) (by omega) (by omega)
    rw [show siz m k = ((r.txt.length : Int), 0) by unfold siz; rw [hl]] at this
    exact this
  have HRD : Hid (∀ W k r, Below w.heap.size w W → 0 ≤ k → k ≤ 16777216 → look m.runs k = some r → r.txt.length ≤ 67108864 → Calls Tryd.prog 25 #[.pointer (some ⟨sb, 0, none⟩), .int .i64 k, .int .i64 0, .int .i64 r.txt.length] W fun e w' => e = .returned (if r.shut then .tuple #[.string (strB r.txt), .nilIface] else .tuple #[.string (strB []), er E 5]) ∧ Below W.heap.size W w') := fun W k r hb h0 h1 hl hz => by
    have := read_any (k := k) (a := 0) (n := r.txt.length) (at_below h hb) (V.below (hb.mono hB)) hF (by omega) (by omega) (by omega) (by omega)
    unfold rea at this
    rw [hl] at this
    have hn0 : ¬ (r.txt.length : Int) < 0 := by omega
    cases hs : r.shut
    · simpa [hs, errV] using this
    · simpa [hs, errV, hn0] using this
  have HU : Hid (∀ W, Below w.heap.size w W → Calls Tryd.prog 19 #[.pointer (some ⟨sb, 0, none⟩)] W fun e w' => e = .returned (.int .i64 (tot m.runs)) ∧ w' = W) := fun W hb => used_any (at_below h hb)
  have HPK : Hid (∀ W, Below w.heap.size w W → Calls Tryd.prog 20 #[.pointer (some ⟨sb, 0, none⟩)] W fun e w' => e = .returned (.int .i64 m.peak) ∧ w' = W) := fun W hb => peak_any (at_below h hb)
  have HOP : Hid (∀ W, Below w.heap.size w W → W.cell? ⟨1, 0, none⟩ = some (er E 5)) := fun W hb => (V.below (hb.mono hB)).op
  have hng : 1 < w.heap.size := by have := V.nb; omega
  have HOK := hide h.ok
  have HTL := hide ht
  obtain ⟨bo, bc, rfl, hbc⟩ := hbk
  have HBK := hide hbc
  obtain ⟨M, hM⟩ : ∃ M, M = bk.length := ⟨_, rfl⟩
  have HM := hide hM
  rw [← hM] at hbl ⊢
  obtain ⟨Ln, hLn⟩ : ∃ Ln, Ln = (nums m.runs).length := ⟨_, rfl⟩
  have HLn := hide hLn
  rw [← hLn] at HL hlen
  clear hbc hM ht h V hLn
  go_enter Tryd.func16, Tryd.ntmps16
  go_wp2_with (first | (go_at_call 18; refine (unhide HL).mono ?_; rintro e w1 ⟨la, lc, rfl, hi1, hb1⟩; have HI := hide hi1; have HB1 := hide hb1; clear hi1 hb1))
  go_loopw [7, 8, 19] (fun u a i wr => ∃ k av uv : Nat, k ≤ M ∧ i = .int .i64 k ∧ a = .int .i64 av ∧ u = .int .i64 uv ∧ Hid (Part m.runs k av uv) ∧ Hid (Below w1.heap.size w1 wr)) (fun _ _ i _ => M - (intOf i).toNat)
  case atStart => exact ⟨0, 0, 0, Nat.zero_le _, rfl, rfl, rfl, hide (Part.zero (unhide HOK)), hide (Below.refl _ _)⟩
  case round =>
    obtain ⟨k, av, uv, hk, rfl, rfl, rfl, HP, HB⟩ := hrel
    by_cases hlt : k < M
    · have hltz : (k : Int) < (M : Int) := by omega
      have hk0 : 0 ≤ (k : Int) := by omega
      have hbw : Below w.heap.size w wr := (unhide HB1).trans ((unhide HB).mono (unhide HB1).size)
      obtain ⟨⟨t, b⟩, hp⟩ : ∃ p, bk[k]? = some p := ⟨_, List.getElem?_eq_getElem (by rw [← unhide HM]; exact hlt)⟩
      obtain ⟨g, rfl, hg, hcl⟩ := unhide HBK (by rw [← unhide HM]; omega)
      obtain ⟨e0, e1⟩ := hcl k t b hp
      have d0 := (hbw.cell (p := ⟨g, k * 2, none⟩) hg).trans e0
      have d1 := (hbw.cell (p := ⟨g, k * 2 + 1, none⟩) hg).trans e1
      have hgw : g < wr.heap.size := Nat.lt_of_lt_of_le hg hbw.size
      clear hcl e0 e1
      cases b
      · have HPS := hide ((unhide HP).skip ((unhide HTL).no k t hp) (unhide HOK).sorted)
        clear hp hbw
        go_wp2
        refine ⟨⟨k + 1, av, uv, by omega, by go_num, rfl, rfl, HPS, hide ?_⟩, by simp [intOf]; omega⟩
        exact (unhide HB).alloc (unhide HB).size _
      · obtain ⟨r, hr, rfl⟩ := (unhide HTL).yes k t hp
        obtain ⟨hra, hav, hpn⟩ := (unhide HP).at hr (unhide HOK).sorted
        have hrn := (look_mem hr).2
        have hsm : (uv : Int) + r.txt.length ≤ 67108864 := by have := hpn.small; have := (unhide HOK).used; have := (unhide HOK).cap; omega
        have hkm : (k : Int) + 1 ≤ 16777216 := by omega
        have HPN := hide hpn
        have HZ : Hid (∀ W, Below w1.heap.size w1 W → Calls Tryd.prog 26 #[.pointer (some ⟨sb, 0, none⟩), .int .i64 ((k : Int) + 1)] W fun e w' => e = .returned (.tuple #[.int .i64 r.txt.length, .nilIface]) ∧ Below W.heap.size W w') := fun W hb => unhide HSZ W _ r ((unhide HB1).trans (hb.mono (unhide HB1).size)) (by omega) hkm hr
        have HR : Hid (∀ W, Below w1.heap.size w1 W → Calls Tryd.prog 25 #[.pointer (some ⟨sb, 0, none⟩), .int .i64 ((k : Int) + 1), .int .i64 0, .int .i64 r.txt.length] W fun e w' => e = .returned (if r.shut then .tuple #[.string (strB r.txt), .nilIface] else .tuple #[.string (strB []), er E 5]) ∧ Below W.heap.size W w') := fun W hb => unhide HRD W _ r ((unhide HB1).trans (hb.mono (unhide HB1).size)) (by omega) hkm hr (by omega)
        obtain ⟨la', lc', el, -, hli⟩ := unhide HI
        obtain ⟨rfl, rfl⟩ : la = la' ∧ lc = lc' := by injection el with e1 _ e2; exact ⟨e1, e2⟩
        obtain ⟨gl, ol, rfl, hgl, hlc⟩ := hli (by simp only [nums, List.length_map]; omega)
        have hlv : wr.cell? ⟨gl, ol + av, none⟩ = some (.int .i64 ((k : Int) + 1)) := ((unhide HB).cell (p := ⟨gl, ol + av, none⟩) hgl).trans (by rw [hlc av _ (nums_get hra), hrn])
        have hglw : gl < wr.heap.size := Nat.lt_of_lt_of_le hgl (unhide HB).size
        have havz : (av : Int) < (Ln : Int) := by have := unhide HLn; simp only [nums, List.length_map] at this; omega
        have hav0 : 0 ≤ (av : Int) := by omega
        have htsz : (strB r.txt).size = r.txt.length := by simp [strB, ByteArray.size]
        have hu0 : 0 ≤ (uv : Int) := by omega
        have ht0 : 0 ≤ (r.txt.length : Int) := by omega
        obtain ⟨sh, hsh⟩ : ∃ sh, sh = r.shut := ⟨_, rfl⟩
        rw [← hsh] at HR
        have hszw : w1.heap.size ≤ wr.heap.size := (unhide HB).size
        clear hp hbw hlc hli el hra hav hpn hrn hsh hr HSZ HRD HL HTL HI HBK HP
        have hub : uv + r.txt.length ≤ 67108864 := by omega
        clear hsm hkm hc
        generalize strB r.txt = tx at *
        generalize r.txt.length = tl at *
        subst htsz
        have hnge : ¬ (Ln : Int) ≤ (av : Int) := by omega
        cases sh
        · simp only [Bool.false_eq_true, if_false] at HR
          have hne5 : ∀ W, (binOp .neq 56 (er E 5) (er E 5)).run Tryd.prog W = .ok (.bool false) W := fun W => ne_err W (E 5)
          have hnn5 : ∀ W, (binOp .neq 56 (er E 5) .nilIface).run Tryd.prog W = .ok (.bool true) W := fun W => run_neq_iface_nil W 56 (by kernel_rfl) _ _
          have hen5 : ∀ W, (binOp .eql 56 (er E 5) .nilIface).run Tryd.prog W = .ok (.bool false) W := fun W => run_eql_iface_nil W 56 (by kernel_rfl) _ _
          go_wp2_with (first | (go_at_call 26; refine (unhide HZ _ ((unhide HB).alloc hszw _)).mono ?_; rintro e w3 ⟨rfl, hb3⟩; have h30 : w3.cell? ⟨wr.heap.size, 0, none⟩ = some (.string tx) := ((hb3.cell (p := ⟨wr.heap.size, 0, none⟩) (by simp)).trans (by go_simp)); have hl3 : w3.cell? ⟨gl, ol + av, none⟩ = some (.int .i64 ((k : Int) + 1)) := ((hb3.cell (p := ⟨gl, ol + av, none⟩) (by simp; omega)).trans ((Below.cell (B := wr.heap.size) ((Below.refl _ wr).alloc (Nat.le_refl _) _) (p := ⟨gl, ol + av, none⟩) hglw).trans hlv)); have hz3 : wr.heap.size < w3.heap.size := (by have := hb3.size; simp at this; omega); have HB3 : Hid (Below w1.heap.size w1 w3) := (((unhide HB).alloc hszw _).trans (hb3.mono (by simp; omega))); clear hb3) | (go_at_call 25; refine (unhide HR _ (unhide HB3)).mono ?_; rintro e w4 ⟨rfl, hb4⟩; have h40 : w4.cell? ⟨wr.heap.size, 0, none⟩ = some (.string tx) := ((hb4.cell (p := ⟨wr.heap.size, 0, none⟩) hz3).trans h30); have hz4 : wr.heap.size < w4.heap.size := (by have := hb4.size; omega); have HB4 : Hid (Below w1.heap.size w1 w4) := ((unhide HB3).trans (hb4.mono (unhide HB3).size)); have hop4 := unhide HOP w4 ((unhide HB1).trans ((unhide HB4).mono (unhide HB1).size)); clear hb4))
          refine ⟨⟨k + 1, av + 1, uv + tx.size, by omega, by go_num, by go_num, by go_num, HPN, HB4⟩, by simp [intOf]; omega⟩
        · simp only [if_true] at HR
          go_wp2_with (first | (go_at_call 26; refine (unhide HZ _ ((unhide HB).alloc hszw _)).mono ?_; rintro e w3 ⟨rfl, hb3⟩; have h30 : w3.cell? ⟨wr.heap.size, 0, none⟩ = some (.string tx) := ((hb3.cell (p := ⟨wr.heap.size, 0, none⟩) (by simp)).trans (by go_simp)); have hl3 : w3.cell? ⟨gl, ol + av, none⟩ = some (.int .i64 ((k : Int) + 1)) := ((hb3.cell (p := ⟨gl, ol + av, none⟩) (by simp; omega)).trans ((Below.cell (B := wr.heap.size) ((Below.refl _ wr).alloc (Nat.le_refl _) _) (p := ⟨gl, ol + av, none⟩) hglw).trans hlv)); have hz3 : wr.heap.size < w3.heap.size := (by have := hb3.size; simp at this; omega); have HB3 : Hid (Below w1.heap.size w1 w3) := (((unhide HB).alloc hszw _).trans (hb3.mono (by simp; omega))); clear hb3) | (go_at_call 25; refine (unhide HR _ (unhide HB3)).mono ?_; rintro e w4 ⟨rfl, hb4⟩; have h40 : w4.cell? ⟨wr.heap.size, 0, none⟩ = some (.string tx) := ((hb4.cell (p := ⟨wr.heap.size, 0, none⟩) hz3).trans h30); have hz4 : wr.heap.size < w4.heap.size := (by have := hb4.size; omega); have HB4 : Hid (Below w1.heap.size w1 w4) := ((unhide HB3).trans (hb4.mono (unhide HB3).size)); have hop4 := unhide HOP w4 ((unhide HB1).trans ((unhide HB4).mono (unhide HB1).size)); clear hb4))
          refine ⟨⟨k + 1, av + 1, uv + tx.size, by omega, by go_num, by go_num, by go_num, HPN, HB4⟩, by simp [intOf]; omega⟩
    · have hltz : ¬ (k : Int) < (M : Int) := by omega
      have hke : k = m.made := by have := (unhide HTL).len; have := unhide HM; omega
      subst hke
      obtain ⟨ha, hu⟩ := (unhide HP).end (unhide HOK)
      have hal : (av : Int) = (Ln : Int) := by have := unhide HLn; simp only [nums, List.length_map] at this; omega
      have hbw : Below w.heap.size w wr := (unhide HB1).trans ((unhide HB).mono (unhide HB1).size)
      have HBW := hide hbw
      have hle : (uv : Int) ≤ max 0 c := by have := (unhide HOK).used; omega
      have hpk : (uv : Int) ≤ (m.peak : Int) := by have := (unhide HOK).peak; omega
      have hut : (tot m.runs : Int) = (uv : Int) := by omega
      rw [hal]
      rw [hut] at HU
      clear hu ha hal hbw hut
      go_wp2_with (first | (go_at_call 19; refine (unhide HU _ (unhide HBW)).mono ?_; rintro e w5 ⟨rfl, rfl⟩) | (go_at_call 20; refine (unhide HPK _ (unhide HBW)).mono ?_; rintro e w6 ⟨rfl, rfl⟩))
      go_ret
      exact ⟨rfl, unhide HBW⟩
end Rs
end Go.Proofs.YtgmgnhkphlegpaaDoor
