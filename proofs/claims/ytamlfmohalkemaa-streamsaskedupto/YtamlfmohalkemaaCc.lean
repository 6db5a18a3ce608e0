/- Layer 8, a heap of cursors: rise. -/
import Derived.Test.YtamlfmohalkemaaCb
namespace Go.Proofs.Ytamlfmohalkemaa
open Go.RowKit
namespace Hpc
open Hp
variable {C : Cx}
theorem ahead_in {fv nv : Value} {lt : It → It → Bool} (L : LessV C fv lt) {w : World} {hb : Nat} {A : List Nd} {p : Nat} {F : Nat → Prop} (h : HIn C w hb fv A p F nv) (W : World) (hW : Below w.heap.size w W) (a b : Nd) (za : C.Z a.1) (zb : C.Z b.1) :
    Calls Try.prog 69 #[.pointer (some ⟨hb, 0, none⟩), .agg #[.slice a.1.ao a.1.n a.1.c, .int .i64 a.2], .agg #[.slice b.1.ao b.1.n b.1.c, .int .i64 b.2]] W fun e w' => e = .returned (.bool (ahd lt a b)) ∧ Below W.heap.size W w' := by
  have q := hcells (h.below hW).obj
  exact ahead_any L q.1 q.2.2.2.2 a b za zb (h.below hW).kw
set_option maxRecDepth 100000 in
set_option maxHeartbeats 2000000 in
theorem rise_any {fv nv : Value} {lt : It → It → Bool} (L : LessV C fv lt) {w : World} {hb : Nat} {A : List Nd} {p : Nat} {F : Nat → Prop} (h : HIn C w hb fv A p F nv) (hA : 0 < A.length) (hz : A.length ≤ 1099511627776) (hR : Rising lt (gd A) A.length (A.length - 1)) :
    Calls Try.prog 61 #[.pointer (some ⟨hb, 0, none⟩)] w fun e w' => e = .returned (.tuple #[]) ∧ ∃ B, HIn C w' hb fv B p F nv ∧ B.Perm A ∧ Shape lt (gd B) B.length ∧ Chg F w w' := by
  obtain ⟨ao, cap, rfl⟩ := own_slice h.row
  obtain ⟨g, rfl⟩ : ∃ g, ao = some ⟨g, 0, none⟩ := by
    rcases h.row.2 with ⟨e1, e2⟩ | ⟨g, c, cur, e1, _⟩
    · omega
    · injection e1 with e1 _ _; exact ⟨g, e1⟩
  obtain ⟨c0, c1, c2, cf, hl⟩ := hcells h.obj
  have HL := hide L
  have H0 := hide h
  have HO := hide L.ord
  have HR := hide hR
  clear L h hR c0 c2
  generalize hn : A.length = n at *
  have HN := hide hn
  clear hn
  go_enter Try.func61, Try.ntmps61
  go_wp2
  go_loopw [3] (fun s3 wr => ∃ (k : Nat) (B : List Nd), s3 = .int .i64 k ∧ k < n ∧ Hid (HIn C wr hb fv B p F (.slice (some ⟨g, 0, none⟩) n cap)) ∧ Hid (B.Perm A) ∧ Hid (Rising lt (gd B) n k) ∧ Hid (Chg F w wr)) (fun s3 _ => (intOf s3).toNat)
  case atStart => exact ⟨n - 1, A, by go_num, by omega, H0, .refl _, HR, Chg.refl _ _⟩
  case round =>
    obtain ⟨k, B, rfl, hk, HB, HP, HRk, HC⟩ := hrel
    have hBl : B.length = n := by rw [(unhide HP).length_eq, unhide HN]
    by_cases h0 : k = 0
    · subst h0
      have HS : Hid (Shape lt (gd B) B.length) := by rw [hBl]; exact (unhide HRk).done (.inl rfl)
      clear hBl
      go_wp2
      go_end0
      exact ⟨rfl, B, unhide HB, unhide HP, unhide HS, unhide HC⟩
    · have hkz : (k : Int) > 0 := by omega
      obtain ⟨q, hq⟩ : ∃ q : Nat, q = (k - 1) / 2 := ⟨_, rfl⟩
      have hqz : ((k : Int) - 1).tdiv 2 = (q : Int) := by
        rw [show (k : Int) - 1 = ((k - 1 : Nat) : Int) by omega, hq]
        rfl
      have hqk : q < k := by omega
      have hqn : q < n := by omega
      have hp : par k = q := hq.symm
      obtain ⟨G, hG⟩ : ∃ G : Nat → Nd, G = gd B := ⟨_, rfl⟩
      have HBn : Hid (HIn C wr hb fv B p F (.slice (some ⟨g, 0, none⟩) B.length cap)) := by rw [hBl]; exact HB
      obtain ⟨d0, d1, df⟩ := ncells (unhide HBn) hG
      rw [hBl] at d0 d1
      have HG := hide hG
      have HAH := hide (fun W hW => ahead_in (unhide HL) (unhide HB) W hW (G k) (G q) (hG ▸ (unhide HB).zg (by rw [hBl]; exact hk)) (hG ▸ (unhide HB).zg (by rw [hBl]; exact hqn)))
      have k0 := d0 k hk
      have k1 := d1 k hk
      have q0 := d0 q hqn
      have q1 := d1 q hqn
      have hkn : (k : Int) < (n : Int) := by omega
      have hqnz : (q : Int) < (n : Int) := by omega
      have hk0 : 0 ≤ (k : Int) := by omega
      have hq0 : 0 ≤ (q : Int) := by omega
      have HBL := hide hBl
      have HPK := hide hp
      have HQ := hide hq
      have hgl : g < wr.heap.size := (unhide HB).lt g ((unhide HB).rowF g rfl)
      clear hG hBl hp hq d0 d1 HBn
      go_wp2
      go_region_held3 (fun w' => w'.cell? ⟨g, k * 2, none⟩ = some (.slice (G k).1.ao (G k).1.n (G k).1.c) ∧ w'.cell? ⟨g, k * 2 + 1, none⟩ = some (.int .i64 (G k).2) ∧ w'.cell? ⟨g, q * 2, none⟩ = some (.slice (G q).1.ao (G q).1.n (G q).1.c) ∧ w'.cell? ⟨g, q * 2 + 1, none⟩ = some (.int .i64 (G q).2))
        (first | exact ⟨k0, k1, q0, q1⟩ | exact s3)
        (first | (go_at_call 69; refine (unhide HAH _ ((Below.refl _ _).drew)).mono ?_; rintro e w3 ⟨rfl, hb3⟩; have s3 := (⟨(hb3.cell (p := ⟨g, k * 2, none⟩) hgl).trans k0, (hb3.cell (p := ⟨g, k * 2 + 1, none⟩) hgl).trans k1, (hb3.cell (p := ⟨g, q * 2, none⟩) hgl).trans q0, (hb3.cell (p := ⟨g, q * 2 + 1, none⟩) hgl).trans q1⟩ : _ ∧ _ ∧ _ ∧ _); have HB3 : Hid (Below wr.heap.size wr w3) := (Below.refl _ _).drew.trans hb3; clear hb3))
      obtain ⟨y0, y1, z0, z1⟩ := s3
      have hgl3 : g < w3.heap.size := Nat.lt_of_lt_of_le hgl (unhide HB3).size
      have HI3 := hide ((unhide HB).below (unhide HB3))
      have HC3 : Hid (Chg F w w3) := (unhide HC).then (Chg.of_below (unhide HB3))
      have f3 : ∀ k, w3.frozen? ⟨g, k, none⟩ = false := fun k => ((unhide HB3).frozen (p := ⟨g, k, none⟩) hgl).trans (df k)
      clear k0 k1 q0 q1 df HAH HB3 HB HC
      cases hc : ahd lt (G k) (G q) with
      | false =>
        have HS : Hid (Shape lt (gd B) B.length) := by rw [unhide HBL]; exact (unhide HRk).done (.inr (by rw [← unhide HG, unhide HPK]; exact hc))
        clear hc
        go_wp2
        (try simp only [Exit.inBlock, Exit.then]); refine bodyPost_ret (results_none rfl _ _ _) rfl ?_
        exact ⟨rfl, B, unhide HI3, unhide HP, unhide HS, unhide HC3⟩
      | true =>
        have HS : Hid (Rising lt (gd (swl B k q)) n q) := by
          have e := (unhide HRk).step (unhide HO) (by omega) hk (by rw [← unhide HG, unhide HPK]; exact hc)
          rw [unhide HPK] at e
          rw [swl_gd (by rw [unhide HBL]; exact hk) (by rw [unhide HBL]; exact hqn)]
          exact e
        have HFI : Hid (HIn C (put3 (put3 w3 g k (G q)) g q (G k)).drew hb fv (swl B k q) p F (.slice (some ⟨g, 0, none⟩) n cap) ∧ Chg F w (put3 (put3 w3 g k (G q)) g q (G k)).drew) := by
          have e1 := HIn.put (unhide HI3) (unhide HBL).symm k (G q) ((unhide HG) ▸ (unhide HI3).zg (by rw [unhide HBL]; exact hqn))
          have e2 := HIn.put e1.1 (by simp [unhide HBL]) q (G k) ((unhide HG) ▸ (unhide HI3).zg (by rw [unhide HBL]; exact hk))
          have e3 : swl B k q = (B.set k (G q)).set q (G k) := by unfold swl; rw [unhide HG]
          rw [e3]
          exact ⟨e2.1.drew, (((unhide HC3).then e1.2).then e2.2).drew⟩
        unfold put3 at HFI
        clear hc
        go_wp2
        go_region
        all_goals go_wp2
        exact ⟨⟨q, swl B k q, rfl, hqn, hide (unhide HFI).1, hide ((swl_perm (by rw [unhide HBL]; exact hk) (by rw [unhide HBL]; exact hqn)).trans (unhide HP)), HS, hide (unhide HFI).2⟩, by simp [intOf]; omega⟩
end Hpc
end Go.Proofs.Ytamlfmohalkemaa
