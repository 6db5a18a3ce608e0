/- Layer 15: Chain and Peel of any list of rules. -/
import Derived.Test.YtjcchogilbekoabTe4
namespace Go.Proofs.Ytjcchogilbekoab
open Go.RowKit Go.Shelf
namespace Rv

/-- how much the rules may add at most -/
def tw : List RuB → Nat
  | [] => 0
  | x :: t => x.st.size + x.ad.size + tw t
theorem tw_append : ∀ (A B : List RuB), tw (A ++ B) = tw A + tw B
  | [], B => by simp [tw]
  | x :: A, B => by rw [List.cons_append, tw, tw, tw_append A B]; omega
theorem tw_reverse : ∀ (A : List RuB), tw A.reverse = tw A
  | [] => rfl
  | x :: A => by rw [List.reverse_cons, tw_append, tw_reverse A, tw, tw, tw]; omega
theorem app_grow (x : RuB) {w m : List UInt8} (h : Ta.app x.r w = some m) : m.length ≤ w.length + (x.st.size + x.ad.size) := by
  have h1 := Ta.app_len h
  have h2 : x.r.add.length = x.ad.size := by show x.ad.data.toList.length = _; simp
  omega
theorem und_grow (x : RuB) {w m : List UInt8} (h : Ta.und x.r w = some m) : m.length ≤ w.length + (x.st.size + x.ad.size) := by
  have h1 := Ta.app_len (Ta.und_some.1 h)
  have h2 : x.r.strip.length = x.st.size := by show x.st.data.toList.length = _; simp
  omega
theorem fold_grow {f : Ta.Ru → List UInt8 → Option (List UInt8)} (hf : ∀ (x : RuB) {w m : List UInt8}, f x.r w = some m → m.length ≤ w.length + (x.st.size + x.ad.size)) :
    ∀ (A : List RuB) (w m : List UInt8), fold f w (A.map RuB.r) = some m → m.length ≤ w.length + tw A
  | [], w, m, h => by injection h with h; subst h; exact Nat.le_refl _
  | x :: A, w, m, h => by
    have h : (f x.r w).bind (fun y => fold f y (A.map RuB.r)) = some m := h
    obtain ⟨y, h1, h2⟩ := Option.bind_eq_some_iff.1 h
    have := hf x h1
    have := fold_grow hf A y m h2
    rw [tw]; omega
theorem rs_map (K : List (Nat × RuB)) : rs K = (K.map (·.2)).map RuB.r := by rw [rs, List.map_map]; rfl
theorem rs_en (L : List RuB) : rs (en 0 L) = L.map RuB.r := by rw [rs_map, en_snd]
theorem rs_rev (L : List RuB) : rs (en 0 L).reverse = (L.map RuB.r).reverse := by rw [rs_map, List.map_reverse, en_snd, List.map_reverse]
theorem fold_room {f : Ta.Ru → List UInt8 → Option (List UInt8)} (hf : ∀ (x : RuB) {w m : List UInt8}, f x.r w = some m → m.length ≤ w.length + (x.st.size + x.ad.size)) {K : List (Nat × RuB)} {s : ByteArray}
    (hz : s.size + tw (K.map (·.2)) ≤ 4611686018427387903) : ∀ pre x m, pre ++ [x] <+: K → fold f s.data.toList (rs pre) = some m → m.length + 2 * x.2.st.size + x.2.ad.size ≤ 9223372036854775807 := fun pre x m ⟨r, hr⟩ h => by
  rw [rs_map] at h
  have h1 := fold_grow hf _ _ _ h
  rw [← hr, List.map_append, List.map_append, tw_append, tw_append, List.map_singleton, tw, tw] at hz
  have h2 : s.data.toList.length = s.size := by simp
  omega

set_option maxRecDepth 100000 in
set_option maxHeartbeats 1000000 in
theorem chain_any {v : Value} {L : List RuB} (s : ByteArray) (w : World) (h : RulesAt w v L w.heap.size) (hz : L.length ≤ 8796093022208) (hs : s.size + tw L ≤ 4611686018427387903) :
    Calls Try.prog 6 #[.string s, v] w fun e w' => e = .returned (Pt.ansV (Ta.chain s.data.toList (L.map RuB.r))) ∧ Below w.heap.size w w' := by
  have HA := hide (all_any w h hz)
  have HR := hide (fold_room @app_grow (K := en 0 L) (s := s) (by rw [en_snd]; exact hs))
  have e0 : Ta.chain s.data.toList (L.map RuB.r) = fold Ta.app s.data.toList (rs (en 0 L)) := by rw [rs_en, fold_app]
  rw [e0]
  obtain ⟨ao, c, rfl, _⟩ := h
  clear hz hs e0
  generalize en 0 L = K at *
  cases hf : fold Ta.app s.data.toList (rs K) with
  | none =>
    have HF := hide hf
    clear hf
    go_enter Try.func6, Try.ntmps6
    go_wp2_with (first | (go_at_call 12; refine (unhide HA).mono ?_; rintro e w1 ⟨gf, lb, rfl, hw, hb1⟩; have HW := hide hw; have HB1 := hide hb1; clear hw hb1) | (go_at_call 11; refine (through_app (unhide HW) (Below.refl _ _) (Nat.le_refl _) s (fun pre x m a b => by have := unhide HR pre x m a b; omega)).mono ?_; rintro e w2 ⟨rfl, hb2⟩; rw [unhide HF]; simp only [Pt.ansV]; have HB2 := hide ((unhide HB1).trans (hb2.mono (unhide HB1).size)); clear hb2))
    go_ret2
    exact ⟨rfl, unhide HB2⟩
  | some y =>
    have HF := hide hf
    clear hf
    go_enter Try.func6, Try.ntmps6
    go_wp2_with (first | (go_at_call 12; refine (unhide HA).mono ?_; rintro e w1 ⟨gf, lb, rfl, hw, hb1⟩; have HW := hide hw; have HB1 := hide hb1; clear hw hb1) | (go_at_call 11; refine (through_app (unhide HW) (Below.refl _ _) (Nat.le_refl _) s (fun pre x m a b => by have := unhide HR pre x m a b; omega)).mono ?_; rintro e w2 ⟨rfl, hb2⟩; rw [unhide HF]; simp only [Pt.ansV]; have HB2 := hide ((unhide HB1).trans (hb2.mono (unhide HB1).size)); clear hb2))
    go_ret2
    exact ⟨rfl, unhide HB2⟩
end Rv
end Go.Proofs.Ytjcchogilbekoab
