/- Layer 8, a heap of cursors: sink. -/
import Derived.Test.YtamlfmohalkemaaCc
namespace Go.Proofs.Ytamlfmohalkemaa
open Go.RowKit
namespace Hpc
open Hp
variable {C : Cx}
/-- f is the first of place k and of the places below it that were looked at, ahead of place b -/
structure Fst (lt : It → It → Bool) (G : Nat → Nd) (n k f b : Nat) : Prop where
  at_ : f = k ∨ (0 < f ∧ f < b ∧ f < n ∧ par f = k ∧ ahd lt (G f) (G k) = true)
  min : ∀ c, c < b → c < n → 0 < c → par c = k → ahd lt (G c) (G f) = false
theorem Fst.start (lt : It → It → Bool) (G : Nat → Nd) (n k : Nat) : Fst lt G n k k (2 * k + 1) := ⟨.inl rfl, fun c hc _ h0 hp => by simp only [par] at hp; omega⟩
theorem Fst.yes {lt : It → It → Bool} (o : Ord lt) {G : Nat → Nd} {n k f b : Nat} (h : Fst lt G n k f b) (hb0 : 0 < b) (hbn : b < n) (hp : par b = k) (ha : ahd lt (G b) (G f) = true) : Fst lt G n k b (b + 1) := by
  refine ⟨.inr ⟨hb0, by omega, hbn, hp, ?_⟩, fun c hc hcn h0 hpc => ?_⟩
  · rcases h.at_ with e | ⟨_, _, _, _, e⟩
    · rw [← e]; exact ha
    · rcases ahd_cot o (G k) ha with x | x
      · exact x
      · rw [ahd_asym o e] at x; cases x
  · by_cases e : c = b
    · subst e; exact ahd_irr o _
    · exact ahd_ntr o (h.min c (by omega) hcn h0 hpc) (ahd_asym o ha)
theorem Fst.no {lt : It → It → Bool} {G : Nat → Nd} {n k f b : Nat} (h : Fst lt G n k f b) (ha : ahd lt (G b) (G f) = false) : Fst lt G n k f (b + 1) := by
  refine ⟨?_, fun c hc hcn h0 hpc => ?_⟩
  · rcases h.at_ with e | ⟨h1, h2, h3⟩
    · exact .inl e
    · exact .inr ⟨h1, by omega, h3⟩
  · by_cases e : c = b
    · subst e; exact ha
    · exact h.min c (by omega) hcn h0 hpc
theorem Fst.all {lt : It → It → Bool} {G : Nat → Nd} {n k f b : Nat} (h : Fst lt G n k f b) (hb : 2 * k + 2 < b ∨ n ≤ b) : ∀ c, c < n → 0 < c → par c = k → ahd lt (G c) (G f) = false := fun c hc h0 hp => h.min c (by simp only [par] at hp; omega) hc h0 hp
set_option maxRecDepth 100000 in
set_option maxHeartbeats 4000000 in
theorem sink_any {fv nv : Value} {lt : It → It → Bool} (L : LessV C fv lt) {w : World} {hb : Nat} {A : List Nd} {p : Nat} {F : Nat → Prop} (h : HIn C w hb fv A p F nv) (hz : A.length ≤ 1099511627776) (hS : Sinking lt (gd A) A.length 0) :
    Calls Try.prog 62 #[.pointer (some ⟨hb, 0, none⟩)] w fun e w' => e = .returned (.tuple #[]) ∧ ∃ B, HIn C w' hb fv B p F nv ∧ B.Perm A ∧ Shape lt (gd B) B.length ∧ Chg F w w' := by
  obtain ⟨ao, cap, rfl⟩ := own_slice h.row
  have HAO : Hid (0 < A.length → ∃ g, ao = some ⟨g, 0, none⟩) := fun h0 => by
    rcases h.row.2 with ⟨e1, e2⟩ | ⟨g, c, cur, e1, _⟩
    · omega
    · injection e1 with e1 _ _; exact ⟨g, e1⟩
  obtain ⟨c0, c1, c2, cf, hl⟩ := hcells h.obj
  have HL := hide L
  have H0 := hide h
  have HO := hide L.ord
  have HS0 := hide hS
  clear L h hS c0 c2
  generalize hn : A.length = n at *
  have HN := hide hn
  clear hn
  go_enter Try.func62, Try.ntmps62
  go_wp2
  go_loopw [3] (fun s3 wr => ∃ (k : Nat) (B : List Nd), s3 = .int .i64 k ∧ (k < n ∨ k = 0) ∧ Hid (HIn C wr hb fv B p F (.slice ao n cap)) ∧ Hid (B.Perm A) ∧ Hid (Sinking lt (gd B) n k) ∧ Hid (Chg F w wr)) (fun s3 _ => n - (intOf s3).toNat)
  case atStart => exact ⟨0, A, rfl, .inr rfl, H0, .refl _, HS0, Chg.refl _ _⟩
  case round =>
    obtain ⟨k, B, rfl, hk, HB, HP, HSk, HC⟩ := hrel
    have hBl : B.length = n := by rw [(unhide HP).length_eq, unhide HN]
    have HBL := hide hBl
    clear hBl
    have hkz : k ≤ 1099511627776 := by omega
    obtain ⟨G, hG⟩ : ∃ G : Nat → Nd, G = gd B := ⟨_, rfl⟩
    have HG := hide hG
    clear hG
    obtain ⟨V, hV⟩ : ∃ V, V = wr := ⟨_, rfl⟩
    subst hV
    go_wp2
    go_loopw [4, 5] (fun s4 s5 wr => ∃ (f b : Nat), s4 = .int .i64 f ∧ s5 = .int .i64 b ∧ 2 * k + 1 ≤ b ∧ b ≤ 2 * k + 3 ∧ Hid (Fst lt G n k f b) ∧ Hid (Below V.heap.size V wr)) (fun _ s5 _ => 2 * k + 3 - (intOf s5).toNat)
    case atStart => exact ⟨k, 2 * k + 1, rfl, by go_num, Nat.le_refl _, by omega, hide (Fst.start lt G n k), Below.refl _ _⟩
    case round =>
      obtain ⟨f, b, rfl, rfl, hb1, hb2, HF, HW⟩ := hrel
      by_cases hin : b ≤ 2 * k + 2 ∧ b < n
      · obtain ⟨hi1, hi2⟩ := hin
        have hi1z : (b : Int) ≤ 2 * (k : Int) + 2 := by omega
        have hi2z : (b : Int) < (n : Int) := by omega
        obtain ⟨g, rfl⟩ := unhide HAO (by omega)
        have hfn : f < n := by rcases (unhide HF).at_ with e | e <;> omega
        have HBn : Hid (HIn C wr hb fv B p F (.slice (some ⟨g, 0, none⟩) B.length cap)) := by rw [unhide HBL]; exact (unhide HB).below (unhide HW)
        obtain ⟨d0, d1, df⟩ := ncells (unhide HBn) (unhide HG)
        rw [unhide HBL] at d0 d1
        have HAH := hide (fun W hW => ahead_in (unhide HL) (unhide HBn) W hW (G b) (G f) ((unhide HG) ▸ (unhide HBn).zg (by rw [unhide HBL]; omega)) ((unhide HG) ▸ (unhide HBn).zg (by rw [unhide HBL]; exact hfn)))
        have k0 := d0 b hi2
        have k1 := d1 b hi2
        have q0 := d0 f hfn
        have q1 := d1 f hfn
        have hfz : (f : Int) < (n : Int) := by omega
        have hf0 : 0 ≤ (f : Int) := by omega
        have hb0 : 0 ≤ (b : Int) := by omega
        have hgl : g < wr.heap.size := (unhide HBn).lt g ((unhide HBn).rowF g rfl)
        have hpb : par b = k := by simp only [par]; omega
        have HPB := hide hpb
        clear d0 d1 HBn hpb
        go_wp2
        go_region_held3 (fun w' => w'.cell? ⟨g, b * 2, none⟩ = some (.slice (G b).1.ao (G b).1.n (G b).1.c) ∧ w'.cell? ⟨g, b * 2 + 1, none⟩ = some (.int .i64 (G b).2) ∧ w'.cell? ⟨g, f * 2, none⟩ = some (.slice (G f).1.ao (G f).1.n (G f).1.c) ∧ w'.cell? ⟨g, f * 2 + 1, none⟩ = some (.int .i64 (G f).2))
          (first | exact ⟨k0, k1, q0, q1⟩ | exact s3)
          (first | (go_at_call 69; refine (unhide HAH _ ((Below.refl _ _).drew)).mono ?_; rintro e w3 ⟨rfl, hb3⟩; have s3 := (⟨(hb3.cell (p := ⟨g, b * 2, none⟩) hgl).trans k0, (hb3.cell (p := ⟨g, b * 2 + 1, none⟩) hgl).trans k1, (hb3.cell (p := ⟨g, f * 2, none⟩) hgl).trans q0, (hb3.cell (p := ⟨g, f * 2 + 1, none⟩) hgl).trans q1⟩ : _ ∧ _ ∧ _ ∧ _); have HB3 : Hid (Below V.heap.size V w3) := (unhide HW).trans (((Below.refl _ _).drew.trans hb3).mono (unhide HW).size); clear hb3))
        clear s3
        cases hc : ahd lt (G b) (G f) with
        | false =>
          have HF2 := hide ((unhide HF).no hc)
          clear hc
          go_wp2
          go_roundw
          case rel => exact ⟨f, b + 1, rfl, by go_num, by omega, by omega, HF2, HB3⟩
          case measure => simp [intOf]; omega
        | true =>
          have HF2 := hide ((unhide HF).yes (unhide HO) (by omega) hi2 (unhide HPB) hc)
          clear hc
          go_wp2
          go_roundw
          case rel => exact ⟨b, b + 1, rfl, by go_num, by omega, by omega, HF2, HB3⟩
          case measure => simp [intOf]; omega
      · have hall := (unhide HF).all (by omega)
        have hat := (unhide HF).at_
        have HALL := hide hall
        have HAT := hide hat
        clear hall hat
        have HBW := hide ((unhide HB).below (unhide HW))
        have HCW : Hid (Chg F w wr) := (unhide HC).then (Chg.of_below (unhide HW))
        clear hb1 HF HW HB HC
        by_cases hA : b ≤ 2 * k + 2
        · have hz1 : (b : Int) ≤ 2 * (k : Int) + 2 := by omega
          have hz2 : ¬ (b : Int) < (n : Int) := by omega
          clear hin
          by_cases hfk : f = k
          · subst hfk
            have HSH : Hid (Shape lt (gd B) B.length) := by rw [unhide HBL]; exact (unhide HSk).done (by rw [← unhide HG]; exact unhide HALL)
            clear HALL HAT
            go_wp2
            (try simp only [Exit.inBlock, Exit.then]); refine bodyPost_ret (results_none rfl _ _ _) rfl ?_
            exact ⟨rfl, B, unhide HBW, unhide HP, unhide HSH, unhide HCW⟩
          · obtain ⟨hf0, hfb, hfn, hpf, hfa⟩ : 0 < f ∧ f < b ∧ f < n ∧ par f = k ∧ ahd lt (G f) (G k) = true := (unhide HAT).resolve_left hfk
            have hkf : k < f := by simp only [par] at hpf; omega
            have hkn : k < n := by omega
            obtain ⟨g, rfl⟩ := unhide HAO (by omega)
            have HBn : Hid (HIn C wr hb fv B p F (.slice (some ⟨g, 0, none⟩) B.length cap)) := by rw [unhide HBL]; exact unhide HBW
            obtain ⟨d0, d1, df⟩ := ncells (unhide HBn) (unhide HG)
            rw [unhide HBL] at d0 d1
            have k0 := d0 f hfn
            have k1 := d1 f hfn
            have q0 := d0 k hkn
            have q1 := d1 k hkn
            have hfz : (f : Int) < (n : Int) := by omega
            have hfz0 : 0 ≤ (f : Int) := by omega
            have hknz : (k : Int) < (n : Int) := by omega
            have hkz0 : 0 ≤ (k : Int) := by omega
            have hfe : ((f : Int) == (k : Int)) = false := by simp; omega
            have HS2 : Hid (Sinking lt (gd (swl B k f)) n f) := by
              have e := (unhide HSk).step (unhide HO) hf0 hfn hpf (by rw [← unhide HG]; exact hfa) (by rw [← unhide HG]; exact unhide HALL)
              rw [swl_gd (by rw [unhide HBL]; exact hkn) (by rw [unhide HBL]; exact hfn)]
              exact e
            have HFI : Hid (HIn C (put3 (put3 wr g k (G f)) g f (G k)).drew hb fv (swl B k f) p F (.slice (some ⟨g, 0, none⟩) n cap) ∧ Chg F w (put3 (put3 wr g k (G f)) g f (G k)).drew) := by
              have e1 := HIn.put (unhide HBW) (unhide HBL).symm k (G f) ((unhide HG) ▸ (unhide HBW).zg (by rw [unhide HBL]; exact hfn))
              have e2 := HIn.put e1.1 (by simp [unhide HBL]) f (G k) ((unhide HG) ▸ (unhide HBW).zg (by rw [unhide HBL]; exact hkn))
              have e3 : swl B k f = (B.set k (G f)).set f (G k) := by unfold swl; rw [unhide HG]
              rw [e3]
              exact ⟨e2.1.drew, (((unhide HCW).then e1.2).then e2.2).drew⟩
            unfold put3 at HFI
            clear d0 d1 HBn hfa hpf HALL HAT hfk
            go_wp2
            go_region
            all_goals go_wp2
            exact ⟨⟨f, swl B k f, rfl, .inl hfn, hide (unhide HFI).1, hide ((swl_perm (by rw [unhide HBL]; exact hkn) (by rw [unhide HBL]; exact hfn)).trans (unhide HP)), HS2, hide (unhide HFI).2⟩, by simp [intOf]; omega⟩
        · have hz1 : ¬ (b : Int) ≤ 2 * (k : Int) + 2 := by omega
          clear hin
          by_cases hfk : f = k
          · subst hfk
            have HSH : Hid (Shape lt (gd B) B.length) := by rw [unhide HBL]; exact (unhide HSk).done (by rw [← unhide HG]; exact unhide HALL)
            clear HALL HAT
            go_wp2
            (try simp only [Exit.inBlock, Exit.then]); refine bodyPost_ret (results_none rfl _ _ _) rfl ?_
            exact ⟨rfl, B, unhide HBW, unhide HP, unhide HSH, unhide HCW⟩
          · obtain ⟨hf0, hfb, hfn, hpf, hfa⟩ : 0 < f ∧ f < b ∧ f < n ∧ par f = k ∧ ahd lt (G f) (G k) = true := (unhide HAT).resolve_left hfk
            have hkf : k < f := by simp only [par] at hpf; omega
            have hkn : k < n := by omega
            obtain ⟨g, rfl⟩ := unhide HAO (by omega)
            have HBn : Hid (HIn C wr hb fv B p F (.slice (some ⟨g, 0, none⟩) B.length cap)) := by rw [unhide HBL]; exact unhide HBW
            obtain ⟨d0, d1, df⟩ := ncells (unhide HBn) (unhide HG)
            rw [unhide HBL] at d0 d1
            have k0 := d0 f hfn
            have k1 := d1 f hfn
            have q0 := d0 k hkn
            have q1 := d1 k hkn
            have hfz : (f : Int) < (n : Int) := by omega
            have hfz0 : 0 ≤ (f : Int) := by omega
            have hknz : (k : Int) < (n : Int) := by omega
            have hkz0 : 0 ≤ (k : Int) := by omega
            have hfe : ((f : Int) == (k : Int)) = false := by simp; omega
            have HS2 : Hid (Sinking lt (gd (swl B k f)) n f) := by
              have e := (unhide HSk).step (unhide HO) hf0 hfn hpf (by rw [← unhide HG]; exact hfa) (by rw [← unhide HG]; exact unhide HALL)
              rw [swl_gd (by rw [unhide HBL]; exact hkn) (by rw [unhide HBL]; exact hfn)]
              exact e
            have HFI : Hid (HIn C (put3 (put3 wr g k (G f)) g f (G k)).drew hb fv (swl B k f) p F (.slice (some ⟨g, 0, none⟩) n cap) ∧ Chg F w (put3 (put3 wr g k (G f)) g f (G k)).drew) := by
              have e1 := HIn.put (unhide HBW) (unhide HBL).symm k (G f) ((unhide HG) ▸ (unhide HBW).zg (by rw [unhide HBL]; exact hfn))
              have e2 := HIn.put e1.1 (by simp [unhide HBL]) f (G k) ((unhide HG) ▸ (unhide HBW).zg (by rw [unhide HBL]; exact hkn))
              have e3 : swl B k f = (B.set k (G f)).set f (G k) := by unfold swl; rw [unhide HG]
              rw [e3]
              exact ⟨e2.1.drew, (((unhide HCW).then e1.2).then e2.2).drew⟩
            unfold put3 at HFI
            clear d0 d1 HBn hfa hpf HALL HAT hfk
            go_wp2
            go_region
            all_goals go_wp2
            exact ⟨⟨f, swl B k f, rfl, .inl hfn, hide (unhide HFI).1, hide ((swl_perm (by rw [unhide HBL]; exact hkn) (by rw [unhide HBL]; exact hfn)).trans (unhide HP)), HS2, hide (unhide HFI).2⟩, by simp [intOf]; omega⟩
end Hpc
end Go.Proofs.Ytamlfmohalkemaa
