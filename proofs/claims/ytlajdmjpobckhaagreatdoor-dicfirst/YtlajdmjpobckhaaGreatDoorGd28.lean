/- Plain: the first fault of a dictionary hangs on the rows ahead of it alone. -/
import Derived.Test.YtlajdmjpobckhaaGreatDoorGd27
import Derived.Test.YtlajdmjpobckhaaGreatDoorGd15
import Derived.Laws.IdiomStrings
import Derived.Laws.BytesArg
import Derived.Test.YtlajdmjpobckhaaGreatDoorGd00
namespace Go.Proofs.YtlajdmjpobckhaaGreatDoor
namespace Af
theorem ents_loc {F : Fil} {n : Nat} : ∀ (R : RowL) (E : List Ent) (er : Er), ents F n R E = .error er → ∃ A B, A ≠ [] ∧ R = A ++ B ∧ lastL 0 A = er.1 ∧ ∀ T, ents F n (A ++ T) E = .error er
  | [], E, er, h => by cases h
  | (l, row) :: t, E, er, h => by
    by_cases hf : E.length = n
    · rw [ents_full hf] at h
      injection h with h
      subst h
      exact ⟨[(l, row)], t, by simp, rfl, rfl, fun T => ents_full hf⟩
    · cases hx : entRow F row with
      | error c =>
        rw [ents_bad hf hx] at h
        injection h with h
        subst h
        exact ⟨[(l, row)], t, by simp, rfl, rfl, fun T => ents_bad hf hx⟩
      | ok x =>
        rw [ents_more hf hx] at h
        obtain ⟨A, B, a0, a1, a2, a3⟩ := ents_loc t (E ++ [x]) er h
        refine ⟨(l, row) :: A, B, by simp, by rw [a1]; rfl, ?_, fun T => ?_⟩
        · cases A with
          | nil => exact absurd rfl a0
          | cons p q => exact a2
        · rw [List.cons_append, ents_more hf hx]
          exact a3 T
theorem dicE {F : Fil} {s : Bs} (hs : ¬ 65536 < s.length) {e : Er} (h : dicR F s = .error e) : e = ((Ln.linesOf s).length + 1, 116) ∨ ∃ A B : RowL, A ≠ [] ∧ rowsN 1 (Ln.linesOf s) = A ++ B ∧ lastL 0 A = e.1 ∧ ∀ (s' : Bs) (T : RowL), ¬ 65536 < s'.length → Rw.rowsOf s' = A ++ T → dicR F s' = .error e := by
  cases hr : Rw.rowsOf s with
  | nil =>
    rw [dicR_nil hs hr] at h
    injection h with h
    exact .inl h.symm
  | cons p t =>
    obtain ⟨l, row⟩ := p
    have hr' : rowsN 1 (Ln.linesOf s) = (l, row) :: t := hr
    rw [dicR_cons hs hr] at h
    cases hc : cntX l row with
    | error e' =>
      rw [hc] at h
      injection h with h
      subst h
      have hl : e'.1 = l := by
        rw [cntX_eq] at hc
        split at hc
        · cases hc
        · injection hc with hc; rw [← hc]
      refine .inr ⟨[(l, row)], t, by simp, hr', hl.symm, fun s' T hs' hr2 => ?_⟩
      rw [dicR_cons hs' hr2, hc]
    | ok n =>
      rw [hc] at h
      simp only at h
      cases he : ents F n t [] with
      | error e' =>
        rw [he] at h
        injection h with h
        subst h
        obtain ⟨A, B, a0, a1, a2, a3⟩ := ents_loc t [] e' he
        refine .inr ⟨(l, row) :: A, B, by simp, by rw [hr', a1]; rfl, ?_, fun s' T hs' hr2 => ?_⟩
        · cases A with
          | nil => exact absurd rfl a0
          | cons p q => exact a2
        · rw [dicR_cons hs' hr2, hc]
          simp only
          have a4 : ents F n (A.append T) [] = .error e' := a3 T
          rw [a4]
      | ok E =>
        rw [he] at h
        simp only at h
        split at h
        · injection h with h
          exact .inl h.symm
        · cases h
theorem dfirst_law {F : Fil} {s : Bs} (hs : ¬ 65536 < s.length) {k c : Nat} (h : dicR F s = .error (k, c)) :
    (k = (Ln.linesOf s).length + 1 ∧ c = 116) ∨ (1 ≤ k ∧ k ≤ (Ln.linesOf s).length ∧
      (∀ Y, ¬ 65536 < (joinL ((Ln.linesOf s).take k) ++ Y).length → Lib.hasPrefix (joinL ((Ln.linesOf s).take k)) Ln.mark = false → dicR F (joinL ((Ln.linesOf s).take k) ++ Y) = .error (k, c)) ∧
      (¬ 65536 < (joinL ((Ln.linesOf s).take (k - 1))).length → Lib.hasPrefix (joinL ((Ln.linesOf s).take (k - 1))) Ln.mark = false → ∀ e, dicR F (joinL ((Ln.linesOf s).take (k - 1))) = .error e → e = (k, 116))) := by
  rcases dicE hs h with z | ⟨A, B, hA, a1, a2, a3⟩
  · injection z with z1 z2
    exact .inl ⟨z1, z2⟩
  · have a2 : lastL 0 A = k := a2
    obtain ⟨k1, k2, k3⟩ := cut_rows a1 hA a2
    refine .inr ⟨k1, k2, fun Y hY hm => ?_, fun hb hm e he => ?_⟩
    · have hne : (Ln.linesOf s).take k ≠ [] := by
        intro q
        have := congrArg List.length q
        rw [List.length_take, List.length_nil] at this
        omega
      have hln := linesOf_join (Y := Y) (mark_head hne hm Y) (fun x hx => linesOf_no s x (List.mem_of_mem_take hx))
      refine a3 _ (rowsN (1 + k) (Ln.ln Y)) hY ?_
      rw [rowsOf_eq, hln, rowsN_append, k3, List.length_take, Nat.min_eq_left k2]
    · have hln : Ln.linesOf (joinL ((Ln.linesOf s).take (k - 1))) = (Ln.linesOf s).take (k - 1) := by
        have := linesOf_join (L := (Ln.linesOf s).take (k - 1)) (Y := []) (by rw [List.append_nil]; exact hm) (fun x hx => linesOf_no s x (List.mem_of_mem_take hx))
        rw [List.append_nil] at this
        rw [this]
        exact List.append_nil _
      have hk1 : ((Ln.linesOf s).take (k - 1)).length = k - 1 := by simp; omega
      rcases dicE hb he with z | ⟨A', B', hA', b1, b2, b3⟩
      · rw [hln, hk1] at z
        rw [z]
        have : k - 1 + 1 = k := by omega
        rw [this]
      · obtain ⟨j1, j2, -⟩ := cut_rows b1 hA' b2
        rw [hln] at b1 j2
        rw [hk1] at j2
        exfalso
        have hrows : Rw.rowsOf s = A' ++ (B' ++ rowsN (1 + (k - 1)) ((Ln.linesOf s).drop (k - 1))) := by
          have := rowsN_append ((Ln.linesOf s).take (k - 1)) ((Ln.linesOf s).drop (k - 1)) 1
          rw [List.take_append_drop, b1, hk1, List.append_assoc] at this
          exact this
        have q := b3 s _ hs hrows
        rw [h] at q
        injection q with q
        rw [← q] at j2
        simp only at j2
        omega
end Af
end Go.Proofs.YtlajdmjpobckhaaGreatDoor
/- The law of layer 12 wakes. -/
namespace Go.Proofs.YtlajdmjpobckhaaGreatDoor
open Go.RowKit
namespace Af
open RowB
theorem wk_ents {n : Nat} {W : World} {v : Value} {fv : List Value} (h : EntR n W [⟨[102, 108, 121], [65]⟩, ⟨[105, 110, 47, 111, 117, 116], []⟩] v fv 2) : ∃ g cap g1 c1, v = .slice (some ⟨g, 0, none⟩) 2 cap ∧ g < W.heap.size ∧ W.cell? ⟨g, 0, none⟩ = some (.string ⟨#[102, 108, 121]⟩) ∧ W.cell? ⟨g, 1, none⟩ = some (.slice (some ⟨g1, 0, none⟩) 1 c1) ∧ W.cell? ⟨g, 2, none⟩ = some (.string ⟨#[105, 110, 47, 111, 117, 116]⟩) ∧ W.cell? ⟨g1, 0, none⟩ = some (.int .u16 65) ∧ g1 < W.heap.size := by
  obtain ⟨h1, h2, h3⟩ := h
  obtain ⟨g, cap, rfl, -, hg, -, -, -, hcl⟩ := own_at h1 (by decide)
  match fv, h2 with
  | [u0, u1], _ =>
    have f0 := h3 0 u0 _ rfl rfl
    rcases f0 with ⟨-, q⟩ | f0
    · cases q
    · obtain ⟨g1, c1, e1, -, hg1, -, -, hc⟩ := So.FRow.cells f0
      subst e1
      refine ⟨g, cap, g1, c1, rfl, hg, hcl 0 (by decide), hcl 1 (by decide), hcl 2 (by decide), ?_, hg1⟩
      have := hc 0 (by simp)
      simp [So.encF] at this
      exact this.1
set_option maxRecDepth 100000 in
set_option maxHeartbeats 4000000 in
theorem wakes12_any (w : World) (hM : Mx w.heap.size w) : Calls Tryz.prog 9 #[] w fun e w' => e = .returned (.bool true) ∧ Below w.heap.size w w' := by
  have HR : Hid (Calls Tryz.prog 12 #[.string ⟨#[83, 70, 88, 32, 65, 32, 89, 32, 48, 10]⟩] w fun e w' => Below w.heap.size w w' ∧ ∃ f, e = .returned (.tuple #[.pointer (some ⟨f, 0, none⟩), .agg #[.int .i64 0, .int .i64 0, .int .i64 0]]) ∧ Hid (∀ W, Below w'.heap.size w' W → Calls Tryz.prog 13 #[.pointer (some ⟨f, 0, none⟩), .string ⟨#[50, 10, 102, 108, 121, 47, 65, 10, 105, 110, 92, 47, 111, 117, 116, 10]⟩] W fun e W' => Below W.heap.size W W' ∧ ∃ wb, e = .returned (.tuple #[.pointer (some ⟨wb, 0, none⟩), .agg #[.int .i64 0, .int .i64 0, .int .i64 0]]) ∧ Hid (∀ V, Below W'.heap.size W' V → Calls Tryz.prog 21 #[.pointer (some ⟨wb, 0, none⟩)] V (fun e V' => e = .returned (.int .i64 2) ∧ V' = V) ∧ Calls Tryz.prog 15 #[.pointer (some ⟨wb, 0, none⟩)] V fun e V' => Below V.heap.size V V' ∧ ∃ g cap g1 c1, e = .returned (.slice (some ⟨g, 0, none⟩) 2 cap) ∧ g < V'.heap.size ∧ V'.cell? ⟨g, 0, none⟩ = some (.string ⟨#[102, 108, 121]⟩) ∧ V'.cell? ⟨g, 1, none⟩ = some (.slice (some ⟨g1, 0, none⟩) 1 c1) ∧ V'.cell? ⟨g, 2, none⟩ = some (.string ⟨#[105, 110, 47, 111, 117, 116]⟩) ∧ V'.cell? ⟨g1, 0, none⟩ = some (.int .u16 65) ∧ g1 < V'.heap.size))) := by
    refine (Read_any _ w hM).mono ?_
    rintro e w' ⟨b, h⟩
    have hk : affR (⟨#[83, 70, 88, 32, 65, 32, 89, 32, 48, 10]⟩ : ByteArray).data.toList = .ok wkF2 := wk_aff2
    rw [hk] at h
    obtain ⟨B, P, hB, rfl, hF⟩ := h
    refine ⟨b, _, rfl, fun W bW => ?_⟩
    have hFB : B ≤ w'.heap.size := Nat.le_of_lt (Nat.lt_of_le_of_lt hF.fbB (lt_some hF.fil))
    have hMB : Mx B W := by
      obtain ⟨m1, m2⟩ := (hM.low b).low (bW.mono b.size)
      exact ⟨Nat.lt_of_lt_of_le m1 hB, m2⟩
    have hd := dic_of wk_aff2 (hF.below bW) hMB (Nat.le_trans hFB bW.size) ⟨#[50, 10, 102, 108, 121, 47, 65, 10, 105, 110, 92, 47, 111, 117, 116, 10]⟩
    have hk2 : dicR wkF2 (⟨#[50, 10, 102, 108, 121, 47, 65, 10, 105, 110, 92, 47, 111, 117, 116, 10]⟩ : ByteArray).data.toList = .ok [⟨[102, 108, 121], [65]⟩, ⟨[105, 110, 47, 111, 117, 116], []⟩] := wk_dic
    rw [hk2] at hd
    refine hd.mono ?_
    rintro e W' ⟨b2, n0, wb, Q, -, rfl, hW⟩
    refine ⟨b2, wb, rfl, fun V bV => ⟨len_any (hW.below bV), (entries_any (hW.below bV) (dicR_len (affR_sets wk_aff2) wk_dic)).mono ?_⟩⟩
    rintro e V' ⟨b3, v, fv, rfl, hE⟩
    obtain ⟨g, cap, g1, c1, rfl, k1, k2, k3, k4, k5, k6⟩ := wk_ents hE
    exact ⟨b3, g, cap, g1, c1, rfl, k1, k2, k3, k4, k5, k6⟩
  clear hM
  go_enter Tryz.func9, Tryz.ntmps9
  go_wp2_with (first
    | (go_at_call 12; refine (unhide HR).mono ?_; rintro e w1 ⟨b1, f, rfl, HA⟩; have HB1 := hide b1; clear b1)
    | (go_at_call 13; refine (unhide HA _ (by (repeat (first | exact Below.refl _ _ | refine Below.drew ?_ | refine Below.alloc ?_ (by first | (simp; done) | (simp; omega)) _ | refine Below.setCell ?_ (by first | (simp; done) | (simp; omega)) _)))).mono ?_; rintro e w2 ⟨b2, wb, rfl, HD⟩; have HB2 := hide ((unhide HB1).trans ((((Below.refl _ _).alloc (Nat.le_refl _) _).trans (b2.mono (by simp))).mono (unhide HB1).size)); clear b2)
    | (go_at_call 21; refine (unhide HD _ (by (repeat (first | exact Below.refl _ _ | refine Below.drew ?_ | refine Below.alloc ?_ (by first | (simp; done) | (simp; omega)) _ | refine Below.setCell ?_ (by first | (simp; done) | (simp; omega)) _)))).1.mono ?_; rintro e w3 ⟨rfl, hw3⟩; obtain rfl := hw3.symm)
    | (go_at_call 15; refine (unhide HD _ (by (repeat (first | exact Below.refl _ _ | refine Below.drew ?_ | refine Below.alloc ?_ (by first | (simp; done) | (simp; omega)) _ | refine Below.setCell ?_ (by first | (simp; done) | (simp; omega)) _)))).2.mono ?_; rintro e w4 ⟨b4, g, cap, g1, c1, rfl, k1, k2, k3, k4, k5, k6⟩; have HB4 := hide ((unhide HB2).trans ((((Below.refl _ _).alloc (Nat.le_refl _) _).trans (b4.mono (by simp))).mono (unhide HB2).size)); clear b4))
  go_ret
  exact ⟨rfl, unhide HB4⟩
end Af
end Go.Proofs.YtlajdmjpobckhaaGreatDoor
/- Small laws on lists of bytes that a call owns; no walk. -/
namespace Go.Proofs.YtlajdmjpobckhaaGreatDoor
open Go.RowKit
namespace Byt
open FldW

def bytes (l : List UInt8) : List Value := l.map fun b => Value.int .u8 (b.toNat : Int)
theorem bytes_length (l : List UInt8) : (bytes l).length = l.length := by simp [bytes]
theorem bytes_snoc (l : List UInt8) (c : UInt8) : bytes (l ++ [c]) = bytes l ++ [.int .u8 (c.toNat : Int)] := by simp [bytes]
theorem info5 : (Tryz.prog.info? 5).map (fun i => (i.zero, i.size, i.bytes)) = some (some (.int .u8 0), 1, 1) := by kernel_rfl

theorem add_zero_off (g j : Nat) : (⟨g, 0, none⟩ : Addr).add j = ⟨g, j, none⟩ := by
  unfold Addr.add
  split
  · rename_i h; subst h; rfl
  · simp
theorem owns_cells {w : World} {B : Nat} {v : Value} {L : List UInt8} (h : w.ownsRow B 5 1 v L.length (bytes L)) (h0 : 0 < L.length) :
    ∃ g cap, v = .slice (some ⟨g, 0, none⟩) L.length cap ∧ g < w.heap.size ∧ ∀ j x, L[j]? = some x → w.cell? ⟨g, j, none⟩ = some (.int .u8 (x.toNat : Int)) := by
  have hc := h
  obtain ⟨hl, ⟨rfl, h1⟩ | ⟨g, cap, cur, rfl, hg, hh, hc1, hm, hsz, htk⟩⟩ := h
  · omega
  · refine ⟨g, cap, rfl, (Array.getElem?_eq_some_iff.1 hh).1, fun j x hj => ?_⟩
    have := hc.cells (g := g) rfl j (.int .u8 (x.toNat : Int)) (by simp [bytes, hj])
    rwa [add_zero_off] at this
theorem conv_owns {w : World} {B : Nat} {v : Value} {L : List UInt8} (h : w.ownsRow B 5 1 v L.length (bytes L)) :
    (convert 81 9 v).run Tryz.prog w = .ok (.string ⟨L.toArray⟩) w := by
  by_cases h0 : 0 < L.length
  · obtain ⟨g, cap, rfl, _, hcell⟩ := owns_cells h h0
    exact run_convert_bytes_back w 81 9 5 ⟨g, 0, none⟩ cap L Tryz.underlying81 Tryz.underlying5 Tryz.underlying9 (fun j hj => by rw [add_zero_off]; exact hcell j _ (List.getElem?_eq_getElem hj))
  · have : L = [] := List.eq_nil_of_length_eq_zero (by omega)
    subst this
    obtain ⟨hl, ⟨rfl, h1⟩ | ⟨g, cap, cur, rfl, hg, hh, hc1, hm, hsz, htk⟩⟩ := h
    · exact run_convert_bytes_nil w 81 5 Tryz.underlying81 Tryz.underlying5 0 0 9 Tryz.underlying9
    · exact run_convert_bytes_back w 81 9 5 ⟨g, 0, none⟩ cap [] Tryz.underlying81 Tryz.underlying5 Tryz.underlying9 (fun j hj => absurd hj (by simp))

theorem owns_ne {w : World} {B1 B2 : Nat} {e1 e2 : TypeId} {z1 z2 : Nat} {v1 v2 : Value} {n1 n2 : Nat} {x1 x2 : List Value} (h1 : w.ownsRow B1 e1 z1 v1 n1 x1) (h2 : w.ownsRow B2 e2 z2 v2 n2 x2) (he : e1 ≠ e2) : v1.ownBlock = none ∨ v1.ownBlock ≠ v2.ownBlock := by
  obtain ⟨_, ⟨rfl, _⟩ | ⟨g, cap, cur, rfl, hg, hh, _⟩⟩ := h1
  · exact .inl rfl
  · right
    obtain ⟨_, ⟨rfl, _⟩ | ⟨g', cap', cur', rfl, hg', hh', _⟩⟩ := h2
    · intro e; cases e
    · intro e
      obtain rfl : g = g' := by simpa [Value.ownBlock] using e
      rw [hh] at hh'
      have := Option.some.inj hh'
      injection this with _ h2 _
      exact he h2
end Byt
end Go.Proofs.YtlajdmjpobckhaaGreatDoor
/- Contract: the document's Lines answers the lines of the text; nothing old in memory turns. -/
namespace Go.Proofs.YtlajdmjpobckhaaGreatDoor
open Go.RowKit
namespace LnR
open FldW Byt

set_option maxHeartbeats 1000000 in
theorem marked_any (s : ByteArray) (w : World) (hs : s.size ≤ maxLen) : Calls Tryz.prog 20 #[.string s] w fun e w' => e = .returned (.bool (Lib.hasPrefix s.data.toList Ln.mark)) ∧ w' = w := by
  unfold maxLen at hs
  cases hp : Lib.hasPrefix s.data.toList Ln.mark with
  | true =>
    obtain ⟨h3, h0, h1, h2⟩ := Ln.mark_true s hp
    have g0 : ((s[0].toNat : Int) == 239) = true := Ln.byte_eq _ 239 h0
    have g1 : ((s[1].toNat : Int) == 187) = true := Ln.byte_eq _ 187 h1
    have g2 : ((s[2].toNat : Int) == 191) = true := Ln.byte_eq _ 191 h2
    have h4 : (3 : Int) ≤ (s.size : Int) := by omega
    clear hp h0 h1 h2
    go_enter Tryz.func20, Tryz.ntmps20
    go_wp2
    go_ret
    exact ⟨rfl, rfl⟩
  | false =>
    rcases Ln.mark_false s hp with h3 | ⟨h3, h0 | ⟨h0, h1⟩ | ⟨h0, h1, h2⟩⟩
    · have h4 : ¬ (3 : Int) ≤ (s.size : Int) := by omega
      clear hp
      go_enter Tryz.func20, Tryz.ntmps20
      go_wp2
      go_ret
      exact ⟨rfl, rfl⟩
    · have g0 : ((s[0].toNat : Int) == 239) = false := Ln.byte_ne _ 239 h0
      have h4 : (3 : Int) ≤ (s.size : Int) := by omega
      clear hp h0
      go_enter Tryz.func20, Tryz.ntmps20
      go_wp2
      go_ret
      exact ⟨rfl, rfl⟩
    · have g0 : ((s[0].toNat : Int) == 239) = true := Ln.byte_eq _ 239 h0
      have g1 : ((s[1].toNat : Int) == 187) = false := Ln.byte_ne _ 187 h1
      have h4 : (3 : Int) ≤ (s.size : Int) := by omega
      clear hp h0 h1
      go_enter Tryz.func20, Tryz.ntmps20
      go_wp2
      go_ret
      exact ⟨rfl, rfl⟩
    · have g0 : ((s[0].toNat : Int) == 239) = true := Ln.byte_eq _ 239 h0
      have g1 : ((s[1].toNat : Int) == 187) = true := Ln.byte_eq _ 187 h1
      have g2 : ((s[2].toNat : Int) == 191) = false := Ln.byte_ne _ 191 h2
      have h4 : (3 : Int) ≤ (s.size : Int) := by omega
      clear hp h0 h1 h2
      go_enter Tryz.func20, Tryz.ntmps20
      go_wp2
      go_ret
      exact ⟨rfl, rfl⟩

set_option maxHeartbeats 1000000 in
theorem ended_any (L : List UInt8) (B : Nat) (v : Value) (w : World) (hl : L.length ≤ 65536) (h : w.ownsRow B 5 1 v L.length (Byt.bytes L)) :
    Calls Tryz.prog 61 #[v] w fun e w' => e = .returned (.string (Fld.str (Ln.ended L))) ∧ w' = w := by
  by_cases h0 : 0 < L.length
  · obtain ⟨a, c, hL, ha, hlast⟩ := Ln.snoc_of h0
    obtain ⟨g, cap, rfl, hg, hcell⟩ := owns_cells h h0
    have hcv := conv_owns h
    have hcl := hcell _ _ hlast
    have hcap : L.length ≤ cap := by
      obtain ⟨_, ⟨e, _⟩ | ⟨g', cap', cur, e, _, _, hc1, _⟩⟩ := h
      · cases e
      · injection e with _ _ e3
        omega
    obtain ⟨m, hm⟩ : ∃ m, L.length = m + 1 := ⟨L.length - 1, by omega⟩
    have ham : a.length = m := by omega
    rw [hm] at hcv hcap
    rw [show L.length - 1 = m from by omega] at hcl
    rw [hm] at hl ⊢
    have hcv2 : (convert 81 9 (.slice (some ⟨g, 0, none⟩) m cap)).run Tryz.prog w = .ok (.string ⟨a.toArray⟩) w := by
      have := run_convert_bytes_back w 81 9 5 ⟨g, 0, none⟩ cap a Tryz.underlying81 Tryz.underlying5 Tryz.underlying9 (fun j hj => by
          rw [add_zero_off]
          exact hcell j _ (by rw [hL, List.getElem?_append_left hj]; exact List.getElem?_eq_getElem hj))
      rwa [ham] at this
    by_cases hc : c = 13
    · rw [Ln.ended_yes hL hc]
      have hcb : ((c.toNat : Int) == 13) = true := Ln.byte_eq _ 13 hc
      clear hcell h hL hlast hc ha ham hm h0 hcv
      go_enter Tryz.func61, Tryz.ntmps61
      go_wp2
      go_ret
      exact ⟨rfl, rfl⟩
    · rw [Ln.ended_no hL hc]
      have hcb : ((c.toNat : Int) == 13) = false := Ln.byte_ne _ 13 hc
      clear hcell h hL hlast hc ha ham hm h0 hcv2
      go_enter Tryz.func61, Tryz.ntmps61
      go_wp2
      go_ret
      exact ⟨rfl, rfl⟩
  · have hL : L = [] := List.eq_nil_of_length_eq_zero (by omega)
    subst hL
    have hcv := conv_owns h
    clear h0 hl
    rw [List.length_nil] at h
    obtain ⟨_, ⟨rfl, _⟩ | ⟨g', cap', cur, rfl, _, hh, hc1, hc2⟩⟩ := h
    · go_enter Tryz.func61, Tryz.ntmps61
      go_wp2
      go_ret
      exact ⟨rfl, rfl⟩
    clear hh hc1 hc2
    all_goals
      go_enter Tryz.func61, Tryz.ntmps61
      go_wp2
      go_ret
      exact ⟨rfl, rfl⟩

set_option maxRecDepth 100000 in
set_option maxHeartbeats 2000000 in
theorem lines_any (s : ByteArray) (hs : s.size ≤ 65536) (w : World) :
    Calls Tryz.prog 40 #[.string s] w fun e w' => ∃ v, e = .returned v ∧ w'.ownsRow w.heap.size 9 1 v (Ln.linesOf s.data.toList).length (vals (Ln.linesOf s.data.toList)) ∧ Below w.heap.size w w' := by
  obtain ⟨i5, hi5, hz50, hz51, hz52⟩ := info_parts info5
  obtain ⟨i9, hi9, hz90, hz91, hz92⟩ := info_parts info9
  have hmk := marked_any s w (by unfold maxLen; omega)
  have HMK := hide hmk
  clear hmk
  have HU : Hid (∃ T : ByteArray, T.size ≤ 65536 ∧ Ln.linesOf s.data.toList = Ln.ln T.data.toList ∧ (Lib.hasPrefix s.data.toList Ln.mark = true → 3 ≤ s.size ∧ s.extract 3 s.size = T) ∧ (Lib.hasPrefix s.data.toList Ln.mark = false → s = T)) := by
    cases hp : Lib.hasPrefix s.data.toList Ln.mark with
    | true => exact ⟨s.extract 3 s.size, by simp; omega, by unfold Ln.linesOf; rw [Ln.unmark_yes s hp], fun _ => ⟨(Ln.mark_true s hp).1, rfl⟩, fun h => by cases h⟩
    | false => exact ⟨s, hs, by unfold Ln.linesOf; rw [Ln.unmark_no s hp], fun h => (by cases h), fun _ => rfl⟩
  obtain ⟨T, hT, hLT, hT1, hT2⟩ := unhide HU
  clear HU
  rw [hLT]
  clear hLT
  generalize hp : Lib.hasPrefix s.data.toList Ln.mark = p at *
  clear hp
  cases p
  all_goals
    first
    | (obtain rfl := (hT2 rfl).symm; clear hT1 hT2)
    | (obtain ⟨h3, hTe⟩ := hT1 rfl; clear hT1 hT2)
    go_enter Tryz.func40, Tryz.ntmps40
    go_wp2_with (go_at_call 20; refine (unhide HMK).mono ?_; rintro e w' ⟨rfl, hw⟩; obtain rfl := hw.symm)
    go_loopw [3, 4, 5, 6] (fun out line opn i wr => ∃ k : Nat, k ≤ T.size ∧ i = .int .i64 k ∧ opn = .bool (!(Ln.at_ T k).2.isEmpty) ∧ wr.ownsRow w.heap.size 9 1 out (Ln.at_ T k).1.length (vals (Ln.at_ T k).1) ∧ wr.ownsRow w.heap.size 5 1 line (Ln.at_ T k).2.length (Byt.bytes (Ln.at_ T k).2) ∧ Below w.heap.size w wr) (fun _ _ _ i _ => T.size - (intOf i).toNat)
    case atStart => exact ⟨0, Nat.zero_le _, rfl, rfl, World.ownsRow_nil _ _ _ _, World.ownsRow_made w #[] 0 (Nat.le_refl _) (by simp) rfl, (Below.refl _ _).alloc (Nat.le_refl _) _⟩
    case round =>
      obtain ⟨k, hk, rfl, rfl, hO, hC, hB⟩ := hrel
      have hlen := Ln.at_len T k hk
      have HFE := hide (Ln.feed_at T k)
      have HPL := hide (Ln.plain_at T k)
      have HFU := hide (Ln.at_full T k)
      generalize hD : (Ln.at_ T k).1 = D at *
      generalize hCC : (Ln.at_ T k).2 = C at *
      have HDC : Hid (Ln.at_ T k = (D, C)) := by show Ln.at_ T k = (D, C); rw [← hD, ← hCC]
      clear hD hCC
      by_cases hlt : k < T.size
      · by_cases hc : T[k] = 10
        · have hcb : ((T[k].toNat : Int) != 10) = false := by rw [bne, show ((T[k].toNat : Int) == 10) = true from Ln.byte_eq _ 10 hc]; rfl
          have HN := hide (unhide HFE hlt hc)
          have hend := fun wq hq => ended_any C w.heap.size u4 wq (by omega) hq
          have HEN := hide hend
          clear hend hc HFE HPL HFU
          go_wp2_with (first | (go_at_call 61; refine (unhide HEN _ hC).mono ?_; rintro e w' ⟨rfl, hw⟩; obtain rfl := hw.symm) | (at_builtin; refine wpList_append_own _ rfl _ _ 22 rfl w.heap.size 9 i9 (.string ByteArray.empty) 1 16 Tryz.underlying22 hi9 hz90 hz91 hz92 rfl (by decide) _ _ _ rfl (hO.alloc _) ⟨wr.heap.size, 0, none⟩ 1 1 [.string (Fld.str (Ln.ended C))] rfl rfl (cell_one_new _ _ _) (fun x hx => by simp at hx; subst hx; rfl) (by unfold maxLen; omega) (by omega) (by have := hB.size; simp; omega) ?_; intro v' w1 hown' hgrow hnil; clear hnil))
          have HB1 := hide (below_push hO hB hgrow)
          have HO1 : Hid (w1.ownsRow w.heap.size 9 1 v' (Ln.at_ T (k + 1)).1.length (vals (Ln.at_ T (k + 1)).1)) := by
            show w1.ownsRow w.heap.size 9 1 v' (Ln.at_ T (k + 1)).1.length (vals (Ln.at_ T (k + 1)).1)
            rw [unhide HN, vals_snoc, List.length_append]
            exact hown'
          have HE1 : Hid ((Ln.at_ T (k + 1)).2 = []) := by show (Ln.at_ T (k + 1)).2 = []; rw [unhide HN]
          clear hown' hgrow hO hC hB HEN
          go_wp2
          go_roundw
          case rel => exact ⟨k + 1, by omega, by go_num, by rw [unhide HE1]; rfl, (unhide HO1).alloc _, by rw [unhide HE1]; exact World.ownsRow_made w1 #[] 0 (unhide HB1).size (by simp) rfl, (unhide HB1).alloc (unhide HB1).size _⟩
          case measure => simp [intOf]; omega
        · have hcb : ((T[k].toNat : Int) != 10) = true := by rw [bne, show ((T[k].toNat : Int) == 10) = false from Ln.byte_ne _ 10 hc]; rfl
          have HN := hide (unhide HPL hlt hc)
          clear hc HFE HPL HFU
          go_wp2_with (at_builtin; refine wpList_append_own _ rfl _ _ 81 rfl w.heap.size 5 i5 (.int .u8 0) 1 1 Tryz.underlying81 hi5 hz50 hz51 hz52 rfl (by decide) _ _ _ rfl (hC.alloc _) ⟨wr.heap.size, 0, none⟩ 1 1 [.int .u8 (T[k].toNat : Int)] rfl rfl (cell_one_new _ _ _) (fun x hx => by simp at hx; subst hx; rfl) (by unfold maxLen; omega) (by omega) (by have := hB.size; simp; omega) ?_; intro v' w1 hown' hgrow hnil; clear hnil)
          have HB1 := hide (below_push hC hB hgrow)
          have HO1 : Hid (w1.ownsRow w.heap.size 9 1 u3 (Ln.at_ T (k + 1)).1.length (vals (Ln.at_ T (k + 1)).1)) := by
            show w1.ownsRow w.heap.size 9 1 u3 (Ln.at_ T (k + 1)).1.length (vals (Ln.at_ T (k + 1)).1)
            rw [unhide HN]
            exact (hO.alloc _).kept hgrow (owns_ne hO hC (by decide))
          have HC1 : Hid (w1.ownsRow w.heap.size 5 1 v' (Ln.at_ T (k + 1)).2.length (Byt.bytes (Ln.at_ T (k + 1)).2)) := by
            show w1.ownsRow w.heap.size 5 1 v' (Ln.at_ T (k + 1)).2.length (Byt.bytes (Ln.at_ T (k + 1)).2)
            rw [unhide HN, bytes_snoc, List.length_append]
            exact hown'
          have HE1 : Hid ((!(Ln.at_ T (k + 1)).2.isEmpty) = true) := by show (!(Ln.at_ T (k + 1)).2.isEmpty) = true; rw [unhide HN]; simp
          clear hown' hgrow hO hC hB
          go_wp2
          go_roundw
          case rel => exact ⟨k + 1, by omega, by go_num, by rw [unhide HE1], unhide HO1, unhide HC1, unhide HB1⟩
          case measure => simp [intOf]; omega
      · have HF := hide (unhide HFU (by omega))
        have hnl : ¬ ((k : Int) < (T.size : Int)) := by omega
        clear HFU HFE HPL
        cases hCe : C.isEmpty with
        | true =>
          have HFI : Hid (Ln.ln T.data.toList = D) := by
            show Ln.ln T.data.toList = D
            rw [unhide HF, unhide HDC]
            unfold Ln.fin
            rw [if_pos hCe]
          clear HF HDC
          go_wp2
          go_ret
          exact ⟨_, rfl, by rw [unhide HFI]; exact hO, hB⟩
        | false =>
          have HFI : Hid (Ln.ln T.data.toList = D ++ [Ln.ended C]) := by
            show Ln.ln T.data.toList = D ++ [Ln.ended C]
            rw [unhide HF, unhide HDC]
            unfold Ln.fin
            simp only [hCe]
            rfl
          have hend := fun wq hq => ended_any C w.heap.size u4 wq (by omega) hq
          have HEN := hide hend
          clear hend HF HDC
          go_wp2_with (first | (go_at_call 61; refine (unhide HEN _ hC).mono ?_; rintro e w' ⟨rfl, hw⟩; obtain rfl := hw.symm) | (at_builtin; refine wpList_append_own _ rfl _ _ 22 rfl w.heap.size 9 i9 (.string ByteArray.empty) 1 16 Tryz.underlying22 hi9 hz90 hz91 hz92 rfl (by decide) _ _ _ rfl (hO.alloc _) ⟨wr.heap.size, 0, none⟩ 1 1 [.string (Fld.str (Ln.ended C))] rfl rfl (cell_one_new _ _ _) (fun x hx => by simp at hx; subst hx; rfl) (by unfold maxLen; omega) (by omega) (by have := hB.size; simp; omega) ?_; intro v' w1 hown' hgrow hnil; clear hnil))
          have HB1 := hide (below_push hO hB hgrow)
          have HO1 : Hid (w1.ownsRow w.heap.size 9 1 v' (Ln.ln T.data.toList).length (vals (Ln.ln T.data.toList))) := by
            show w1.ownsRow w.heap.size 9 1 v' (Ln.ln T.data.toList).length (vals (Ln.ln T.data.toList))
            rw [unhide HFI, vals_snoc, List.length_append]
            exact hown'
          clear hown' hgrow hO hC hB HEN
          go_wp2
          go_ret
          exact ⟨_, rfl, unhide HO1, unhide HB1⟩

end LnR
end Go.Proofs.YtlajdmjpobckhaaGreatDoor
/- Layer 12: lines as a text again; the document's Split and Marked. -/
namespace Go.Proofs.YtlajdmjpobckhaaGreatDoor
open Go.RowKit
namespace Af
open RowB FldW
/-- texts that can be read -/
def StrAt (w : World) (ao : Option Addr) (L : List Bs) : Prop := L ≠ [] → ∃ g off, ao = some ⟨g, off, none⟩ ∧ g < w.heap.size ∧ ∀ j x, L[j]? = some x → w.cell? ⟨g, off + j, none⟩ = some (.string (Fld.str x))
theorem StrAt.below {w w' : World} {ao : Option Addr} {L : List Bs} (h : StrAt w ao L) (k : Below w.heap.size w w') : StrAt w' ao L := fun hn => by
  obtain ⟨g, off, rfl, hg, hc⟩ := h hn
  exact ⟨g, off, rfl, Nat.lt_of_lt_of_le hg k.size, fun j x hj => (k.cell (p := ⟨g, off + j, none⟩) hg).trans (hc j x hj)⟩
theorem StrAt.of_own {w : World} {B : Nat} {v : Value} {L : List Bs} (h : w.ownsRow B 9 1 v L.length (vals L)) : ∃ ao cap, v = .slice ao L.length cap ∧ L.length ≤ cap ∧ StrAt w ao L := by
  obtain ⟨ao, cap, rfl, hc, -⟩ := own_len h
  refine ⟨ao, cap, rfl, hc, fun hn => ?_⟩
  have h0 : 0 < L.length := by cases L with | nil => exact absurd rfl hn | cons _ _ => simp
  obtain ⟨g, cap', e, -, hg, -, -, -, hcl⟩ := own_at h h0
  injection e with e1 e2 e3
  subst e1
  refine ⟨g, 0, rfl, hg, fun j x hj => ?_⟩
  have hj2 := (List.getElem?_eq_some_iff.1 hj).1
  rw [Nat.zero_add, hcl j (by omega)]
  simp [vals, hj]
theorem StrAt.take {w : World} {ao : Option Addr} {L : List Bs} (h : StrAt w ao L) (k : Nat) : StrAt w ao (L.take k) := fun hn => by
  obtain ⟨g, off, e, hg, hc⟩ := h (fun q => hn (by rw [q]; simp))
  refine ⟨g, off, e, hg, fun j x hj => hc j x ?_⟩
  by_cases hjk : j < k
  · rwa [List.getElem?_take_of_lt hjk] at hj
  · rw [List.getElem?_eq_none (by simp; omega)] at hj; cases hj
theorem joinL_snoc {L : List Bs} {k : Nat} {x : Bs} (h : L[k]? = some x) : joinL (L.take (k + 1)) = joinL (L.take k) ++ (x ++ [13, 10]) := by
  rw [List.take_add_one, h, joinL_append]
  simp [joinL]
theorem joinL_le (L : List Bs) (k : Nat) : (joinL (L.take k)).length ≤ (joinL L).length := by
  have : joinL L = joinL (L.take k) ++ joinL (L.drop k) := by rw [← joinL_append, List.take_append_drop]
  rw [this, List.length_append]
  omega
theorem ln_sum : ∀ (n : Nat) (l : Bs), l.length ≤ n → ((Ln.ln l).map List.length).sum ≤ l.length
  | 0, l, h => by
    have : l = [] := List.eq_nil_of_length_eq_zero (by omega)
    subst this
    simp [Ln.ln_nil]
  | n + 1, l, h => by
    by_cases hl : l = []
    · subst hl; simp [Ln.ln_nil]
    · have h1 := Ln.aft_lt l hl
      have ih := ln_sum n (Ln.aft l) (by omega)
      have h2 : (Ln.bef l).length + (Ln.aft l).length ≤ l.length := by
        clear ih h1 hl h
        induction l with
        | nil => simp [Ln.bef, Ln.aft]
        | cons c t q =>
          unfold Ln.bef Ln.aft
          split
          · simp
          · simp; omega
      have h3 := Ln.ended_len (Ln.bef l)
      rw [Ln.ln_cons l hl]
      simp
      omega
theorem lines_sum (l : Bs) : ((Ln.linesOf l).map List.length).sum ≤ l.length := by
  have h1 := ln_sum _ (Ln.unmark l) (Nat.le_refl _)
  have h2 := Ln.unmark_le l
  unfold Ln.linesOf
  omega
theorem str_size (l : Bs) : (Fld.str l).size = l.length := by show l.toArray.size = _; simp
theorem str_add (a b : Bs) : Fld.str a ++ Fld.str b = Fld.str (a ++ b) := by
  apply ByteArray.ext
  simp [Fld.str]
set_option maxRecDepth 100000 in
set_option maxHeartbeats 1000000 in
theorem joined_any (ao : Option Addr) (cap n : Nat) (L : List Bs) (w : World) (hn : L.length = n) (hb : n ≤ 1000000) (hz : (joinL L).length ≤ 1000000) (h : StrAt w ao L) :
    Calls Tryz.prog 18 #[.slice ao n cap] w fun e w' => e = .returned (.string (Fld.str (joinL L))) ∧ w' = w := by
  have HN := hide hn
  have HZ := hide hz
  have HC := hide h
  clear hn hz h
  go_enter Tryz.func18, Tryz.ntmps18
  go_wp2
  go_loop [3, 8] (fun s i => ∃ k : Nat, i = .int .i64 k ∧ k ≤ n ∧ s = .string (Fld.str (joinL (L.take k)))) (fun _ i => n - (intOf i).toNat)
  case atStart => exact ⟨0, rfl, Nat.zero_le _, rfl⟩
  case round =>
    obtain ⟨k, rfl, hk, rfl⟩ := hrel
    by_cases hlt : k < n
    · obtain ⟨x, hx⟩ : ∃ x, L[k]? = some x := ⟨_, List.getElem?_eq_getElem (by rw [unhide HN]; exact hlt)⟩
      obtain ⟨g, off, rfl, hg, hc⟩ := unhide HC (by intro q; rw [q] at hx; cases hx)
      have hck := hc k x hx
      have e1 := joinL_snoc hx
      have hl1 := joinL_le L (k + 1)
      have hl0 : (joinL (L.take (k + 1))).length ≤ 1000000 := Nat.le_trans hl1 (unhide HZ)
      rw [e1, List.length_append] at hl0
      have ha1 : ∀ Wq : World, (Op.stringOp .add (Fld.str x) ⟨#[13, 10]⟩).run Tryz.prog Wq = .ok (.string (Fld.str (x ++ [13, 10]))) Wq := fun Wq => by
        rw [← str_add]
        exact run_string_add_sum _ _ _ (by rw [str_size]; have : (ByteArray.mk #[13, 10]).size = 2 := rfl; simp only [List.length_append] at hl0; omega)
      have ha2 : ∀ Wq : World, (Op.stringOp .add (Fld.str (joinL (L.take k))) (Fld.str (x ++ [13, 10]))).run Tryz.prog Wq = .ok (.string (Fld.str (joinL (L.take (k + 1))))) Wq := fun Wq => by
        rw [e1, show Fld.str (joinL (L.take k) ++ (x ++ [13, 10])) = Fld.str (joinL (L.take k)) ++ Fld.str (x ++ [13, 10]) from (str_add _ _).symm]
        exact run_string_add_sum _ _ _ (by rw [str_size, str_size]; omega)
      have hltz : (k : Int) < (n : Int) := by omega
      clear hc hx e1 hl1 hl0
      generalize Fld.str (joinL (L.take k)) = T at *
      generalize hT2 : Fld.str (joinL (L.take (k + 1))) = T2 at *
      have HT2 := hide hT2
      clear hT2
      generalize Fld.str (x ++ [13, 10]) = X2 at *
      generalize Fld.str x = X at *
      go_wp2
      go_round
      case rel => exact ⟨k + 1, by go_num, by omega, by rw [unhide HT2]⟩
      case measure => simp [intOf]; omega
    · obtain rfl : k = n := by omega
      have hltz : ¬ (k : Int) < (k : Int) := by omega
      have e : L.take k = L := by rw [← unhide HN]; exact List.take_length
      rw [e]
      go_wp2
      go_ret
      exact ⟨rfl, rfl⟩
end Af
end Go.Proofs.YtlajdmjpobckhaaGreatDoor
/- Contract: the document's Split answers the lines of the text, or that it is too long; nothing old in memory turns. -/
namespace Go.Proofs.YtlajdmjpobckhaaGreatDoor
open Go.RowKit
namespace LnR
open FldW Byt

set_option maxHeartbeats 400000 in
theorem ref_split_long (s : ByteArray) (w : World) (hs : 65536 < (s.size : Int)) :
    Calls Tryz.prog 19 #[.string s] w fun e w' => e = .returned (.tuple #[.slice none 0 0, .int .i64 10]) ∧ w' = w := by
  go_enter Tryz.func19, Tryz.ntmps19
  go_wp2
  go_ret2
  exact ⟨rfl, rfl⟩
set_option maxHeartbeats 400000 in
theorem ref_split_short (s : ByteArray) (w : World) (hs : s.size ≤ 65536) :
    Calls Tryz.prog 19 #[.string s] w fun e w' => ∃ v, e = .returned (.tuple #[v, .int .i64 0]) ∧ w'.ownsRow w.heap.size 9 1 v (Ln.linesOf s.data.toList).length (vals (Ln.linesOf s.data.toList)) ∧ Below w.heap.size w w' := by
  have hs2 : ¬ (65536 : Int) < (s.size : Int) := by omega
  have HL := hide (lines_any s hs w)
  go_enter Tryz.func19, Tryz.ntmps19
  go_wp2_with fail
  refine (unhide HL).mono ?_
  rintro e w' ⟨v, rfl, hO, hB⟩
  go_wp2
  go_ret2
  exact ⟨v, rfl, hO, hB⟩
end LnR
end Go.Proofs.YtlajdmjpobckhaaGreatDoor
