import Derived.Test.YtidhbhdcoanfcaaGreatDoorGq33
set_option maxHeartbeats 8000000
set_option maxRecDepth 100000
namespace Go.Proofs.YtidhbhdcoanfcaaGreatDoor
open Go.RowKit
namespace Af
open RowB
theorem own_low {W : World} {B C : Nat} {e : TypeId} {size n : Nat} {v : Value} {xs : List Value} (h : W.ownsRow B e size v n xs) (k : C ≤ B) : W.ownsRow C e size v n xs := by
 obtain ⟨hl, q | ⟨g, cap, cur, e1, hg, r⟩⟩ := h
 ·exact ⟨hl, .inl q⟩
 ·exact ⟨hl, .inr ⟨g, cap, cur, e1, Nat.le_trans k hg, r⟩⟩
theorem XS.turn {rs ab : Nat} {w W : World} {F : Fil} {vr va vc vu vr' va' vc' vu' : Value} (h : XS rs ab w W F vr va vc vu) (k : Nat) (v : Value) (e : (axL F vr va vc vu).set k v = axL F vr' va' vc' vu') : XS rs ab w (W.setCell ⟨ab, k, none⟩ v) F vr' va' vc' vu' ∧ Kq [TA] noM W (W.setCell ⟨ab, k, none⟩ v) := by
 have kq : Kq [TA] noM W (W.setCell ⟨ab, k, none⟩ v) := Kq.kp (kp_set _ _ _ _) h.hab (by simp)
 refine ⟨⟨h.low.setCell (p := ⟨ab, k, none⟩) h.hla v, (Below.heap_setCell _ _ _ _ (fun q => h.hne q.symm)).trans h.hrs, h.hle, ?_, h.hla, h.hne⟩, kq⟩
 rw [set_heap1 h.hab, ← e]
 simp
theorem AliR.put {n0 j : Nat} {W W' : World} {F : Fil} {g cap : Nat} {av : List Value} {u : Value} {a : List Int} (h : AliR n0 W F (.slice (some ⟨g, 0, none⟩) F.aliases.length cap) av j) (hr : F.aliases[j]? = some a) (hW : W' = W.setCell ⟨g, j, none⟩ u) (hu : FNx n0 W u a) : AliR n0 W' F (.slice (some ⟨g, 0, none⟩) F.aliases.length cap) (av.set j u) (j + 1) ∧ Kq [54] noM W W' ∧ n0 ≤ g := by
 subst hW
 obtain ⟨cur, hh, hg⟩ := own_blk h.1
 have k : Kq [54] noM W (W.setCell ⟨g, j, none⟩ u) := Kq.kp (kp_set _ _ _ _) hh (by simp)
 have hj := (List.getElem?_eq_some_iff.1 hr).1
 refine ⟨⟨own_set h.1 _ (by omega) u, by simpa using h.2.1, fun i v q h1 h2 => ?_⟩, k, hg⟩
 by_cases hi : i = j
 ·subst hi
  rw [List.getElem?_set_self (by rw [h.2.1]; exact hj)] at h1
  injection h1 with h1
  subst h1
  rw [hr] at h2
  injection h2 with h2
  subst h2
  rw [if_pos (by omega)]
  exact fnx_kq hu k (by decide)
 ·rw [List.getElem?_set_ne (fun e => hi e.symm)] at h1
  have := fnx_kq (h.2.2 i v q h1 h2) k (by decide)
  by_cases q1 : i < j
  ·rw [if_pos q1] at this
   rw [if_pos (by omega)]
   exact this
  ·rw [if_neg q1] at this
   rw [if_neg (by omega)]
   exact this
theorem rul_one {rs : List Rul} {nv : List Value} (h : ∀ v ∈ nv, v.oneCell' = true) : ∀ u ∈ (rs.zip nv).flatMap fun p => rulC p.1 p.2, u.oneCell' = true := by
 intro u hu
 obtain ⟨⟨r, v⟩, hp, hu⟩ := List.mem_flatMap.1 hu
 have hv := h v (List.of_mem_zip hp).2
 simp [rulC] at hu
 rcases hu with rfl | rfl | rfl | rfl | rfl | rfl | rfl <;> first | rfl | exact hv
theorem fnx_one {B : Nat} {W : World} {v : Value} {l : List Int} (h : FNx B W v l) : v.oneCell' = true := by
 rcases h with ⟨rfl, -⟩ | ⟨g, cap, cur, rfl, -⟩ <;> rfl
theorem rulR_one {n j : Nat} {W : World} {F : Fil} {v : Value} {nv : List Value} (h : RulR n W F v nv j) : ∀ u ∈ nv, u.oneCell' = true := by
 intro u hu
 obtain ⟨i, hi⟩ := List.getElem?_of_mem hu
 have hil := (List.getElem?_eq_some_iff.1 hi).1
 exact fnx_one (h.2.2 i u _ hi (List.getElem?_eq_getElem (by rw [← h.2.1]; exact hil)))
theorem aliR_one {n j : Nat} {W : World} {F : Fil} {v : Value} {av : List Value} (h : AliR n W F v av j) : ∀ u ∈ av, u.oneCell' = true := by
 intro u hu
 obtain ⟨i, hi⟩ := List.getElem?_of_mem hu
 have hil := (List.getElem?_eq_some_iff.1 hi).1
 exact fnx_one (h.2.2 i u _ hi (List.getElem?_eq_getElem (by rw [← h.2.1]; exact hil)))
noncomputable def ax12 : Code := dropSeq 7 (Tryz.f14.body.getD .skip)
theorem ax_12 {rs ab : Nat} {w W : World} {F : Fil} {vr va vc vu : Value} {av nv : List Value} (hX : XS rs ab w W F vr va vc vu) (h1 : RepR w.heap.size W F vr) (h2 : AliR w.heap.size W F va av F.aliases.length) (h3 : ClsR w.heap.size W F vc) (h4 : RulR 0 W F vu nv 0) (hS : Np Sd F) (hn : F.rules.length ≤ 1024) (u0 u1 u4 u5 u6 u7 u8 u9 u10 u11 u12 u13 u14 u15 u16 u17 u18 u19 u20 u21 u22 u23 u24 u25 u26 u27 u28 u29 u30 u31 u32 u33 u34 u35 u36 u37 u38 u39 u40 u41 u42 u43 u44 u45 u46 u47 u48 u49 u50 u51 u52 u53 u54 u55 u56 u57 u58 u59 u60 u61 u62 u63 : Value) :
  Code.wp Tryz.prog ax12 (bodyPost Tryz.prog Tryz.f14 (AxRes w F)) ⟨#[u0, u1, .pointer (some ⟨rs, 0, none⟩), .pointer (some ⟨ab, 0, none⟩), u4, u5, u6, u7, u8, u9, u10, u11, u12, u13, u14, u15, u16, u17, u18, u19, u20, u21, u22, u23, u24, u25, u26, u27, u28, u29, u30, u31, u32, u33, u34, u35, u36, u37, u38, u39, u40, u41, u42, u43, u44, u45, u46, u47, u48, u49, u50, u51, u52, u53, u54, u55, u56, u57, u58, u59, u60, u61, u62, u63], []⟩ W := by
 have hn0 := hX.low.size
 have HEND : Hid (∀ w3 u, w3.ownsRow W.heap.size 79 7 u F.rules.length ((F.rules.zip nv).flatMap fun p => rulC p.1 p.2) → Below W.heap.size W w3 → ∀ W', W' = w3.setCell ⟨ab, 12, none⟩ u → ∀ (u0 u1 u4 u5 u6 u7 u8 u9 u10 u11 u12 u13 u14 u15 u16 u17 u18 u19 u20 u21 u22 u23 u24 u25 u26 u27 u28 u29 u30 u31 u32 u33 u34 u35 u36 u37 u38 u39 u40 u41 u42 u43 u44 u45 u46 u47 u48 u49 u50 u51 u52 u53 u54 u55 u56 u57 u58 u59 u60 u61 u62 u63 : Value), Code.wp Tryz.prog ax13 (bodyPost Tryz.prog Tryz.f14 (AxRes w F)) ⟨#[u0, u1, .pointer (some ⟨rs, 0, none⟩), .pointer (some ⟨ab, 0, none⟩), u4, u5, u6, u7, u8, u9, u10, u11, u12, u13, u14, u15, u16, u17, u18, u19, u20, u21, u22, u23, u24, u25, u26, u27, u28, u29, u30, u31, u32, u33, u34, u35, u36, u37, u38, u39, u40, u41, u42, u43, u44, u45, u46, u47, u48, u49, u50, u51, u52, u53, u54, u55, u56, u57, u58, u59, u60, u61, u62, u63], []⟩ W') := by
  intro w3 u o3 b3 W' hW u0 u1 u4 u5 u6 u7 u8 u9 u10 u11 u12 u13 u14 u15 u16 u17 u18 u19 u20 u21 u22 u23 u24 u25 u26 u27 u28 u29 u30 u31 u32 u33 u34 u35 u36 u37 u38 u39 u40 u41 u42 u43 u44 u45 u46 u47 u48 u49 u50 u51 u52 u53 u54 u55 u56 u57 u58 u59 u60 u61 u62 u63
  subst hW
  have kq : Kq ([] : List TypeId) noM W w3 := Kq.below b3
  obtain ⟨hX', k2⟩ := (hX.kq kq (by simp) (b3.mono hn0)).turn (vr' := vr) (va' := va) (vc' := vc) (vu' := u) 12 u rfl
  have hr : RulR w.heap.size w3 F u nv 0 := ⟨own_low o3 hn0, h4.2.1, fun i v q q1 q2 => by
   have := fnx_kq (h4.2.2 i v q q1 q2) kq (by simp)
   rwa [if_neg (Nat.not_lt_zero _)] at this ⊢⟩
  exact ax_rules hX' ((h1.kq kq (by simp)).kq k2 (by decide)) ((h2.kq kq (by simp) (by simp)).kq k2 (by decide) (by decide)) ((h3.kq kq (by simp)).kq k2 (by decide)) (hr.kq k2 (by decide) (by decide)) hS u0 u1 u4 u5 u6 u7 u8 u9 u10 u11 u12 u13 u14 u15 u16 u17 u18 u19 u20 u21 u22 u23 u24 u25 u26 u27 u28 u29 u30 u31 u32 u33 u34 u35 u36 u37 u38 u39 u40 u41 u42 u43 u44 u45 u46 u47 u48 u49 u50 u51 u52 u53 u54 u55 u56 u57 u58 u59 u60 u61 u62 u63
 have HCODE : ax12 = Code.seq (match ax12 with | .seq a _ => a | c => c) ax13 := by kernel_rfl
 rw [HCODE]
 clear HCODE
 refine wp_seq_k (fun KE hKE => ?_)
 conv => arg 2; whnf
 have c12 : W.cell? ⟨ab, 12, none⟩ = some vu := by simp [World.cell?, hX.hab, axL]
 have habl := lt_some hX.hab
 have habB := hide hX.hab
 obtain ⟨au, cu, eu⟩ := own_slice h4.1
 have HCL := hide (clone_rul h4.1 (rul_one (rulR_one h4)) (by omega))
 have HAB : Hid (∀ w3, Below W.heap.size W w3 → w3.cell? ⟨ab, 12, none⟩ = some vu ∧ w3.frozen? ⟨ab, 12, none⟩ = false ∧ ab < w3.heap.size) := fun w3 b3 => by
  have := (below_kept b3 _ _ hX.hab).trans hX.hab
  exact ⟨by simp [World.cell?, this, axL], by simp [World.frozen?, this], lt_some this⟩
 have HKE := hide hKE
 subst eu
 clear hX h1 h2 h3 h4 hS hKE hn0 habB
 go_wp2_with (go_at_call 41; refine (unhide HCL).mono ?_; rintro e w3 ⟨u, rfl, o3, b3⟩; obtain ⟨x1, x2, x3⟩ := unhide HAB _ b3; have HNX := hide (unhide HEND _ _ o3 b3 _ rfl); obtain ⟨au3, cu3, rfl⟩ := own_slice o3; clear o3 b3)
 apply unhide HKE
 exact unhide HNX _ _ _ _ _ _ _ _ _ _ _ _ _ _ _ _ _ _ _ _ _ _ _ _ _ _ _ _ _ _ _ _ _ _ _ _ _ _ _ _ _ _ _ _ _ _ _ _ _ _ _ _ _ _ _ _ _ _ _ _ _ _
noncomputable def ax7 : Code := dropSeq 6 (Tryz.f14.body.getD .skip)
theorem ax_alis {rs ab : Nat} {w W : World} {F : Fil} {vr va vc vu : Value} {av nv : List Value} (hX : XS rs ab w W F vr va vc vu) (h1 : RepR w.heap.size W F vr) (h2 : AliR w.heap.size W F va av 0) (h3 : ClsR w.heap.size W F vc) (h4 : RulR 0 W F vu nv 0) (hS : Np Sd F) (hru : F.rules.length ≤ 1024) (u0 u1 u4 u5 u6 u7 u8 u9 u10 u11 u12 u13 u14 u15 u16 u17 u18 u19 u20 u21 u22 u23 u24 u25 u26 u27 u28 u29 u30 u31 u32 u33 u34 u35 u36 u37 u38 u39 u40 u41 u42 u43 u44 u45 u46 u47 u48 u49 u50 u51 u52 u53 u54 u55 u56 u57 u58 u59 u60 u61 u62 u63 : Value) :
  Code.wp Tryz.prog ax7 (bodyPost Tryz.prog Tryz.f14 (AxRes w F)) ⟨#[u0, u1, .pointer (some ⟨rs, 0, none⟩), .pointer (some ⟨ab, 0, none⟩), u4, u5, u6, u7, u8, u9, u10, u11, u12, u13, u14, u15, u16, u17, u18, u19, u20, u21, u22, u23, u24, u25, u26, u27, u28, u29, u30, u31, u32, u33, u34, u35, u36, u37, u38, u39, u40, u41, u42, u43, u44, u45, u46, u47, u48, u49, u50, u51, u52, u53, u54, u55, u56, u57, u58, u59, u60, u61, u62, u63], []⟩ W := by
 have HEND : Hid (∀ W av', XS rs ab w W F vr va vc vu → RepR w.heap.size W F vr → AliR w.heap.size W F va av' F.aliases.length → ClsR w.heap.size W F vc → RulR 0 W F vu nv 0 → ∀ (u0 u1 u4 u5 u6 u7 u8 u9 u10 u11 u12 u13 u14 u15 u16 u17 u18 u19 u20 u21 u22 u23 u24 u25 u26 u27 u28 u29 u30 u31 u32 u33 u34 u35 u36 u37 u38 u39 u40 u41 u42 u43 u44 u45 u46 u47 u48 u49 u50 u51 u52 u53 u54 u55 u56 u57 u58 u59 u60 u61 u62 u63 : Value), Code.wp Tryz.prog ax12 (bodyPost Tryz.prog Tryz.f14 (AxRes w F)) ⟨#[u0, u1, .pointer (some ⟨rs, 0, none⟩), .pointer (some ⟨ab, 0, none⟩), u4, u5, u6, u7, u8, u9, u10, u11, u12, u13, u14, u15, u16, u17, u18, u19, u20, u21, u22, u23, u24, u25, u26, u27, u28, u29, u30, u31, u32, u33, u34, u35, u36, u37, u38, u39, u40, u41, u42, u43, u44, u45, u46, u47, u48, u49, u50, u51, u52, u53, u54, u55, u56, u57, u58, u59, u60, u61, u62, u63], []⟩ W) :=
  fun W av' x a b c d u0 u1 u4 u5 u6 u7 u8 u9 u10 u11 u12 u13 u14 u15 u16 u17 u18 u19 u20 u21 u22 u23 u24 u25 u26 u27 u28 u29 u30 u31 u32 u33 u34 u35 u36 u37 u38 u39 u40 u41 u42 u43 u44 u45 u46 u47 u48 u49 u50 u51 u52 u53 u54 u55 u56 u57 u58 u59 u60 u61 u62 u63 => ax_12 x a b c d hS hru u0 u1 u4 u5 u6 u7 u8 u9 u10 u11 u12 u13 u14 u15 u16 u17 u18 u19 u20 u21 u22 u23 u24 u25 u26 u27 u28 u29 u30 u31 u32 u33 u34 u35 u36 u37 u38 u39 u40 u41 u42 u43 u44 u45 u46 u47 u48 u49 u50 u51 u52 u53 u54 u55 u56 u57 u58 u59 u60 u61 u62 u63
 have HCODE : ax7 = Code.seq (match ax7 with | .seq a _ => a | c => c) ax12 := by kernel_rfl
 rw [HCODE]
 clear HCODE
 refine wp_seq_k (fun KE hKE => ?_)
 conv => arg 2; whnf
 have c10 : W.cell? ⟨ab, 10, none⟩ = some va := by simp [World.cell?, hX.hab, axL]
 obtain ⟨au, cu, eu⟩ := own_slice h2.1
 obtain ⟨n, hn⟩ : ∃ n, F.aliases.length = n := ⟨_, rfl⟩
 have HN := hide hn
 rcases Nat.eq_zero_or_pos n with hz | hpos
 ·subst hz
  have hz0 : ¬ (0 : Int) < 0 := by omega
  have HGO := hide (unhide HEND W av hX h1 (by rw [hn]; exact h2) h3 h4)
  rw [hn] at eu
  subst eu
  have HKE := hide hKE
  clear hX h1 h2 h3 h4 hS HEND hKE
  go_wp2
  go_loopw [30] (fun s30 wr => s30 = .int .i64 0 ∧ wr = W) (fun _ _ => 0)
  case atStart => exact ⟨rfl, rfl⟩
  case round =>
   obtain ⟨rfl, rfl⟩ := hrel
   go_wp2
   apply unhide HKE
   exact unhide HGO _ _ _ _ _ _ _ _ _ _ _ _ _ _ _ _ _ _ _ _ _ _ _ _ _ _ _ _ _ _ _ _ _ _ _ _ _ _ _ _ _ _ _ _ _ _ _ _ _ _ _ _ _ _ _ _ _ _ _ _ _ _
 obtain ⟨gu, cu', e1, -, hgu, hcu1, hcu2, -, -⟩ := own_at h2.1 (by omega)
 rw [hn] at e1
 subst e1
 clear eu au cu
 have HKE := hide hKE
 have HSD := hide hS
 have HX0 := hide (And.intro hX (And.intro h1 (And.intro h2 (And.intro h3 h4))))
 unfold maxLen at hcu2
 rw [hn] at hcu1
 clear hX h1 h2 h3 h4 hS hKE hn
 go_wp2
 go_loopw [30] (fun s30 wr => ∃ j : Nat, s30 = .int .i64 j ∧ j ≤ n ∧ Hid (∃ av', XS rs ab w wr F vr (.slice (some ⟨gu, 0, none⟩) n cu') vc vu ∧ RepR w.heap.size wr F vr ∧ AliR w.heap.size wr F (.slice (some ⟨gu, 0, none⟩) n cu') av' j ∧ ClsR w.heap.size wr F vc ∧ RulR 0 wr F vu nv 0)) (fun s30 _ => n - (intOf s30).toNat)
 case atStart => exact ⟨0, rfl, Nat.zero_le _, ⟨av, unhide HX0⟩⟩
 case round =>
  obtain ⟨j, rfl, hj, HR⟩ := hrel
  clear c10 HX0 hgu
  by_cases hlt : j < n
  ·have hltz : (j : Int) < (n : Int) := by omega
   have hj0 : ¬ (j : Int) < 0 := by omega
   obtain ⟨av', hX, h1, h2, h3, h4⟩ := unhide HR
   have hjr : j < F.aliases.length := by rw [unhide HN]; exact hlt
   obtain ⟨r, hr⟩ : ∃ r, F.aliases[j]? = some r := ⟨_, List.getElem?_eq_getElem hjr⟩
   obtain ⟨v, hv⟩ : ∃ v, av'[j]? = some v := ⟨_, List.getElem?_eq_getElem (by rw [h2.2.1]; exact hjr)⟩
   have hfn := h2.2.2 j v r hv hr
   rw [if_neg (Nat.lt_irrefl j)] at hfn
   obtain ⟨g', c', e1, -, hgu, -, -, -, hcu⟩ := own_at h2.1 (by omega)
   injection e1 with e1 ea eb
   clear ea eb
   injection e1 with e1
   injection e1 with e1 ea eb
   clear ea eb
   subst e1
   have h41 := h2.1
   rw [unhide HN] at h41
   have q0 : wr.cell? ⟨gu, j, none⟩ = some v := (hcu _ (by omega)).trans hv
   obtain ⟨ao, m, c, rfl⟩ : ∃ a m c, v = .slice a m c := by
    rcases hfn with ⟨q, -⟩ | ⟨gq, cq, curq, q, -⟩
    ·exact ⟨_, _, _, q⟩
    ·exact ⟨_, _, _, q⟩
   have b1d : Below wr.heap.size wr wr.drew := (Below.refl _ wr).drew
   have c10 : wr.cell? ⟨ab, 10, none⟩ = some (.slice (some ⟨gu, 0, none⟩) n cu') := by simp [World.cell?, hX.hab, axL]
   have habl := lt_some hX.hab
   have hfd := fnx_kept hfn (below_kept b1d)
   have HCL := hide (clone_flg (w := wr.drew) (fnx_own hfd) (enc_one _) (by have := (unhide HSD).al r (List.mem_of_getElem? hr); unfold Sd at this; omega))
   have HST : Hid (∀ w3 u, w3.ownsRow wr.drew.heap.size 36 1 u r.length (r.map So.encF) → Below wr.drew.heap.size wr.drew w3 →
     ∀ W', W' = w3.setCell ⟨gu, j, none⟩ u → ∃ av'', XS rs ab w W' F vr (.slice (some ⟨gu, 0, none⟩) n cu') vc vu ∧ RepR w.heap.size W' F vr ∧ AliR w.heap.size W' F (.slice (some ⟨gu, 0, none⟩) n cu') av'' (j + 1) ∧ ClsR w.heap.size W' F vc ∧ RulR 0 W' F vu nv 0) := by
    intro w3 u o3 b3 W' hW
    have bb : Below wr.heap.size wr w3 := b1d.trans b3
    have hn0 := hX.low.size
    have kq : Kq ([] : List TypeId) noM wr w3 := Kq.below bb
    have h2' := h2.kq kq (by simp) (by simp)
    have hu : FNx w.heap.size w3 u r := (own_fnx o3).low hn0
    rw [← unhide HN] at h2'
    obtain ⟨r1, r2, r3⟩ := h2'.put hr hW hu
    rw [unhide HN] at r1
    have hX' := hX.kq kq (by simp) (bb.mono hn0)
    have l2 : Below w.heap.size w3 W' := by rw [hW]; exact (Below.refl _ _).setCell (p := ⟨gu, j, none⟩) r3 _
    exact ⟨_, hX'.kq r2 (by decide) l2, (h1.kq kq (by simp)).kq r2 (by decide), r1, (h3.kq kq (by simp)).kq r2 (by decide), (h4.kq kq (by simp) (by simp)).kq r2 (by decide) (by decide)⟩
   have HRW : Hid (∀ w3, Below wr.drew.heap.size wr.drew w3 → w3.cell? ⟨ab, 10, none⟩ = some (.slice (some ⟨gu, 0, none⟩) n cu') ∧ w3.cell? ⟨gu, j, none⟩ = some (.slice ao m c) ∧ w3.frozen? ⟨gu, j, none⟩ = false ∧ gu < w3.heap.size) := by
    intro w3 b3
    have bb : Below wr.heap.size wr w3 := b1d.trans b3
    obtain ⟨cur, hcur, -⟩ := own_blk h41
    have hcur3 := (below_kept bb _ _ hcur).trans hcur
    exact ⟨(bb.cell (p := ⟨ab, 10, none⟩) habl).trans c10, (bb.cell (p := ⟨gu, j, none⟩) hgu).trans q0, by simp [World.frozen?, hcur3], lt_some hcur3⟩
   clear HR hX h1 h2 h3 h4 h41 hv hr hfn hcu hfd b1d
   go_wp2
   rename_i K0 hK0
   have HK0 := hide hK0
   clear hK0
   refine Lst.region_last (ops1 := ?ops1) (o := ?op1) (S := fun w' => w'.cell? ⟨ab, 10, none⟩ = some (.slice (some ⟨gu, 0, none⟩) n cu')) (by kernel_rfl) ?hp1 ?hb1 ?hk1 (by exact c10) ?hn1
   case hp1 => (simp only [List.pop_toArray, List.dropLast_cons_cons, List.dropLast_singleton]; rfl)
   case hb1 => (simp only [List.back?_toArray, List.getLast?_cons_cons, List.getLast?_singleton]; rfl)
   case hk1 => kernel_rfl
   intro hHeld
   refine Lst.tk 0 ?_
   (try simp only [Act.put, List.setIfInBounds_toArray])
   refine Lst.tk 1 ?_
   (try simp only [Act.put])
   refine Lst.tk 2 ?_
   (try simp only [Act.put])
   refine Lst.tk 3 ?_
   (try simp only [Act.put])
   refine wpAnyH_ready (rs := [4]) (by kernel_rfl) (by simp) ?_
   refine AllReadyH.cons (by simp only [List.getElem?_toArray, List.getElem?_cons_succ, List.getElem?_cons_zero]; rfl) (fun K hK => ?_) AllReadyH.nil
   go_simp
   go_wp2_with (go_at_call 40; refine (unhide HCL).mono ?_; rintro e w3 ⟨u, rfl, o3, b3⟩; obtain ⟨x1, x2, x3, x4⟩ := unhide HRW _ b3; have HNX := hide (unhide HST _ _ o3 b3); obtain ⟨au, cu2, rfl⟩ := own_slice o3; clear o3 b3)
   refine hK.out _ _ (x1) (fun hh3 => ?_)
   clear hK K
   (try simp only [Act.put, List.setIfInBounds_toArray, List.set_cons_zero, List.set_cons_succ])
   refine Lst.tk 5 ?_
   (try simp only [Act.put, List.setIfInBounds_toArray])
   refine wpAnyH_done (by kernel_rfl) ?_ _
   show Oper.wp _ _ _ _ _ _
   go_simp
   apply unhide HK0
   go_wp2
   go_roundw
   case rel => exact ⟨j + 1, by go_num, by omega, unhide HNX _ rfl⟩
   case measure => simp [intOf]; omega
  ·obtain rfl : j = n := by omega
   have hltz : ¬ (j : Int) < (j : Int) := by omega
   obtain ⟨av', hX, h1, h2, h3, h4⟩ := unhide HR
   have HGO := hide (unhide HEND wr av' hX h1 (by rw [unhide HN]; exact h2) h3 h4)
   clear HR hX h1 h2 h3 h4 HEND HN
   go_wp2
   apply unhide HKE
   exact unhide HGO _ _ _ _ _ _ _ _ _ _ _ _ _ _ _ _ _ _ _ _ _ _ _ _ _ _ _ _ _ _ _ _ _ _ _ _ _ _ _ _ _ _ _ _ _ _ _ _ _ _ _ _ _ _ _ _ _ _ _ _ _ _
theorem rep_one (l : List (Bs × Bs)) : ∀ u ∈ l.flatMap repC, u.oneCell' = true := by
 intro u hu
 obtain ⟨r, -, hu⟩ := List.mem_flatMap.1 hu
 simp [repC] at hu
 rcases hu with rfl | rfl <;> rfl
theorem cls_one (l : List Cls) : ∀ u ∈ l.flatMap clsC, u.oneCell' = true := by
 intro u hu
 obtain ⟨r, -, hu⟩ := List.mem_flatMap.1 hu
 simp [clsC] at hu
 rcases hu with rfl | rfl | rfl | rfl | rfl <;> rfl
noncomputable def ax6 : Code := dropSeq 5 (Tryz.f14.body.getD .skip)
theorem ax6_go {rs ab : Nat} {w W : World} {F : Fil} {vr va vc vu : Value} {av nv : List Value} (hX : XS rs ab w W F vr va vc vu) (h1 : RepR w.heap.size W F vr) (h2 : AliR 0 W F va av 0) (h3 : ClsR w.heap.size W F vc) (h4 : RulR 0 W F vu nv 0) (hS : Np Sd F) (ok : FilOk F) (u0 u1 u4 u5 u6 u7 u8 u9 u10 u11 u12 u13 u14 u15 u16 u17 u18 u19 u20 u21 u22 u23 u24 u25 u26 u27 u28 u29 u30 u31 u32 u33 u34 u35 u36 u37 u38 u39 u40 u41 u42 u43 u44 u45 u46 u47 u48 u49 u50 u51 u52 u53 u54 u55 u56 u57 u58 u59 u60 u61 u62 u63 : Value) :
  Code.wp Tryz.prog ax6 (bodyPost Tryz.prog Tryz.f14 (AxRes w F)) ⟨#[u0, u1, .pointer (some ⟨rs, 0, none⟩), .pointer (some ⟨ab, 0, none⟩), u4, u5, u6, u7, u8, u9, u10, u11, u12, u13, u14, u15, u16, u17, u18, u19, u20, u21, u22, u23, u24, u25, u26, u27, u28, u29, u30, u31, u32, u33, u34, u35, u36, u37, u38, u39, u40, u41, u42, u43, u44, u45, u46, u47, u48, u49, u50, u51, u52, u53, u54, u55, u56, u57, u58, u59, u60, u61, u62, u63], []⟩ W := by
 have hn0 := hX.low.size
 have HEND : Hid (∀ w3 u, w3.ownsRow W.heap.size 54 1 u F.aliases.length av → Below W.heap.size W w3 → ∀ W', W' = w3.setCell ⟨ab, 10, none⟩ u → ∀ (u0 u1 u4 u5 u6 u7 u8 u9 u10 u11 u12 u13 u14 u15 u16 u17 u18 u19 u20 u21 u22 u23 u24 u25 u26 u27 u28 u29 u30 u31 u32 u33 u34 u35 u36 u37 u38 u39 u40 u41 u42 u43 u44 u45 u46 u47 u48 u49 u50 u51 u52 u53 u54 u55 u56 u57 u58 u59 u60 u61 u62 u63 : Value), Code.wp Tryz.prog ax7 (bodyPost Tryz.prog Tryz.f14 (AxRes w F)) ⟨#[u0, u1, .pointer (some ⟨rs, 0, none⟩), .pointer (some ⟨ab, 0, none⟩), u4, u5, u6, u7, u8, u9, u10, u11, u12, u13, u14, u15, u16, u17, u18, u19, u20, u21, u22, u23, u24, u25, u26, u27, u28, u29, u30, u31, u32, u33, u34, u35, u36, u37, u38, u39, u40, u41, u42, u43, u44, u45, u46, u47, u48, u49, u50, u51, u52, u53, u54, u55, u56, u57, u58, u59, u60, u61, u62, u63], []⟩ W') := by
  intro w3 u o3 b3 W' hW u0 u1 u4 u5 u6 u7 u8 u9 u10 u11 u12 u13 u14 u15 u16 u17 u18 u19 u20 u21 u22 u23 u24 u25 u26 u27 u28 u29 u30 u31 u32 u33 u34 u35 u36 u37 u38 u39 u40 u41 u42 u43 u44 u45 u46 u47 u48 u49 u50 u51 u52 u53 u54 u55 u56 u57 u58 u59 u60 u61 u62 u63
  subst hW
  have kq : Kq ([] : List TypeId) noM W w3 := Kq.below b3
  obtain ⟨hX', k2⟩ := (hX.kq kq (by simp) (b3.mono hn0)).turn (vr' := vr) (va' := u) (vc' := vc) (vu' := vu) 10 u rfl
  have hr : AliR w.heap.size w3 F u av 0 := ⟨own_low o3 hn0, h2.2.1, fun i v q q1 q2 => by
   have := fnx_kq (h2.2.2 i v q q1 q2) kq (by simp)
   rwa [if_neg (Nat.not_lt_zero _)] at this ⊢⟩
  exact ax_alis hX' ((h1.kq kq (by simp)).kq k2 (by decide)) (hr.kq k2 (by decide) (by decide)) ((h3.kq kq (by simp)).kq k2 (by decide)) ((h4.kq kq (by simp) (by simp)).kq k2 (by decide) (by decide)) hS ok.rul u0 u1 u4 u5 u6 u7 u8 u9 u10 u11 u12 u13 u14 u15 u16 u17 u18 u19 u20 u21 u22 u23 u24 u25 u26 u27 u28 u29 u30 u31 u32 u33 u34 u35 u36 u37 u38 u39 u40 u41 u42 u43 u44 u45 u46 u47 u48 u49 u50 u51 u52 u53 u54 u55 u56 u57 u58 u59 u60 u61 u62 u63
 have HCODE : ax6 = Code.seq (match ax6 with | .seq a _ => a | c => c) ax7 := by kernel_rfl
 rw [HCODE]
 clear HCODE
 refine wp_seq_k (fun KE hKE => ?_)
 conv => arg 2; whnf
 have cc : W.cell? ⟨ab, 10, none⟩ = some va := by simp [World.cell?, hX.hab, axL]
 have habl := lt_some hX.hab
 obtain ⟨au, cu, eu⟩ := own_slice h2.1
 have HCL := hide (clone_ali h2.1 (aliR_one h2) (by have := ok.ali; omega))
 have HAB : Hid (∀ w3, Below W.heap.size W w3 → w3.cell? ⟨ab, 10, none⟩ = some va ∧ w3.frozen? ⟨ab, 10, none⟩ = false ∧ ab < w3.heap.size) := fun w3 b3 => by
  have := (below_kept b3 _ _ hX.hab).trans hX.hab
  exact ⟨by simp [World.cell?, this, axL], by simp [World.frozen?, this], lt_some this⟩
 have HKE := hide hKE
 subst eu
 clear hX h1 h2 h3 h4 hS hKE hn0 ok
 go_wp2_with (go_at_call 39; refine (unhide HCL).mono ?_; rintro e w3 ⟨u, rfl, o3, b3⟩; obtain ⟨x1, x2, x3⟩ := unhide HAB _ b3; have HNX := hide (unhide HEND _ _ o3 b3 _ rfl); obtain ⟨au3, cu3, rfl⟩ := own_slice o3; clear o3 b3)
 apply unhide HKE
 exact unhide HNX _ _ _ _ _ _ _ _ _ _ _ _ _ _ _ _ _ _ _ _ _ _ _ _ _ _ _ _ _ _ _ _ _ _ _ _ _ _ _ _ _ _ _ _ _ _ _ _ _ _ _ _ _ _ _ _ _ _ _ _ _ _
noncomputable def ax5 : Code := dropSeq 4 (Tryz.f14.body.getD .skip)
theorem ax5_go {rs ab : Nat} {w W : World} {F : Fil} {vr va vc vu : Value} {av nv : List Value} (hX : XS rs ab w W F vr va vc vu) (h1 : RepR w.heap.size W F vr) (h2 : AliR 0 W F va av 0) (h3 : ClsR 0 W F vc) (h4 : RulR 0 W F vu nv 0) (hcn : F.classes.length ≤ 1048577) (hS : Np Sd F) (ok : FilOk F) (u0 u1 u4 u5 u6 u7 u8 u9 u10 u11 u12 u13 u14 u15 u16 u17 u18 u19 u20 u21 u22 u23 u24 u25 u26 u27 u28 u29 u30 u31 u32 u33 u34 u35 u36 u37 u38 u39 u40 u41 u42 u43 u44 u45 u46 u47 u48 u49 u50 u51 u52 u53 u54 u55 u56 u57 u58 u59 u60 u61 u62 u63 : Value) :
  Code.wp Tryz.prog ax5 (bodyPost Tryz.prog Tryz.f14 (AxRes w F)) ⟨#[u0, u1, .pointer (some ⟨rs, 0, none⟩), .pointer (some ⟨ab, 0, none⟩), u4, u5, u6, u7, u8, u9, u10, u11, u12, u13, u14, u15, u16, u17, u18, u19, u20, u21, u22, u23, u24, u25, u26, u27, u28, u29, u30, u31, u32, u33, u34, u35, u36, u37, u38, u39, u40, u41, u42, u43, u44, u45, u46, u47, u48, u49, u50, u51, u52, u53, u54, u55, u56, u57, u58, u59, u60, u61, u62, u63], []⟩ W := by
 have hn0 := hX.low.size
 have HEND : Hid (∀ w3 u, w3.ownsRow W.heap.size 94 5 u F.classes.length (F.classes.flatMap clsC) → Below W.heap.size W w3 → ∀ W', W' = w3.setCell ⟨ab, 11, none⟩ u → ∀ (u0 u1 u4 u5 u6 u7 u8 u9 u10 u11 u12 u13 u14 u15 u16 u17 u18 u19 u20 u21 u22 u23 u24 u25 u26 u27 u28 u29 u30 u31 u32 u33 u34 u35 u36 u37 u38 u39 u40 u41 u42 u43 u44 u45 u46 u47 u48 u49 u50 u51 u52 u53 u54 u55 u56 u57 u58 u59 u60 u61 u62 u63 : Value), Code.wp Tryz.prog ax6 (bodyPost Tryz.prog Tryz.f14 (AxRes w F)) ⟨#[u0, u1, .pointer (some ⟨rs, 0, none⟩), .pointer (some ⟨ab, 0, none⟩), u4, u5, u6, u7, u8, u9, u10, u11, u12, u13, u14, u15, u16, u17, u18, u19, u20, u21, u22, u23, u24, u25, u26, u27, u28, u29, u30, u31, u32, u33, u34, u35, u36, u37, u38, u39, u40, u41, u42, u43, u44, u45, u46, u47, u48, u49, u50, u51, u52, u53, u54, u55, u56, u57, u58, u59, u60, u61, u62, u63], []⟩ W') := by
  intro w3 u o3 b3 W' hW u0 u1 u4 u5 u6 u7 u8 u9 u10 u11 u12 u13 u14 u15 u16 u17 u18 u19 u20 u21 u22 u23 u24 u25 u26 u27 u28 u29 u30 u31 u32 u33 u34 u35 u36 u37 u38 u39 u40 u41 u42 u43 u44 u45 u46 u47 u48 u49 u50 u51 u52 u53 u54 u55 u56 u57 u58 u59 u60 u61 u62 u63
  subst hW
  have kq : Kq ([] : List TypeId) noM W w3 := Kq.below b3
  obtain ⟨hX', k2⟩ := (hX.kq kq (by simp) (b3.mono hn0)).turn (vr' := vr) (va' := va) (vc' := u) (vu' := vu) 11 u rfl
  have hr : ClsR w.heap.size w3 F u := own_low o3 hn0
  exact ax6_go hX' ((h1.kq kq (by simp)).kq k2 (by decide)) ((h2.kq kq (by simp) (by simp)).kq k2 (by decide) (by decide)) (hr.kq k2 (by decide)) ((h4.kq kq (by simp) (by simp)).kq k2 (by decide) (by decide)) hS ok u0 u1 u4 u5 u6 u7 u8 u9 u10 u11 u12 u13 u14 u15 u16 u17 u18 u19 u20 u21 u22 u23 u24 u25 u26 u27 u28 u29 u30 u31 u32 u33 u34 u35 u36 u37 u38 u39 u40 u41 u42 u43 u44 u45 u46 u47 u48 u49 u50 u51 u52 u53 u54 u55 u56 u57 u58 u59 u60 u61 u62 u63
 have HCODE : ax5 = Code.seq (match ax5 with | .seq a _ => a | c => c) ax6 := by kernel_rfl
 rw [HCODE]
 clear HCODE
 refine wp_seq_k (fun KE hKE => ?_)
 conv => arg 2; whnf
 have cc : W.cell? ⟨ab, 11, none⟩ = some vc := by simp [World.cell?, hX.hab, axL]
 have habl := lt_some hX.hab
 obtain ⟨au, cu, eu⟩ := own_slice h3
 have HCL := hide (clone_cls h3 (cls_one _) hcn)
 have HAB : Hid (∀ w3, Below W.heap.size W w3 → w3.cell? ⟨ab, 11, none⟩ = some vc ∧ w3.frozen? ⟨ab, 11, none⟩ = false ∧ ab < w3.heap.size) := fun w3 b3 => by
  have := (below_kept b3 _ _ hX.hab).trans hX.hab
  exact ⟨by simp [World.cell?, this, axL], by simp [World.frozen?, this], lt_some this⟩
 have HKE := hide hKE
 subst eu
 clear hX h1 h2 h3 h4 hS hKE hn0 ok
 go_wp2_with (go_at_call 38; refine (unhide HCL).mono ?_; rintro e w3 ⟨u, rfl, o3, b3⟩; obtain ⟨x1, x2, x3⟩ := unhide HAB _ b3; have HNX := hide (unhide HEND _ _ o3 b3 _ rfl); obtain ⟨au3, cu3, rfl⟩ := own_slice o3; clear o3 b3)
 apply unhide HKE
 exact unhide HNX _ _ _ _ _ _ _ _ _ _ _ _ _ _ _ _ _ _ _ _ _ _ _ _ _ _ _ _ _ _ _ _ _ _ _ _ _ _ _ _ _ _ _ _ _ _ _ _ _ _ _ _ _ _ _ _ _ _ _ _ _ _
noncomputable def ax4 : Code := dropSeq 3 (Tryz.f14.body.getD .skip)
theorem ax4_go {rs ab : Nat} {w W : World} {F : Fil} {vr va vc vu : Value} {av nv : List Value} (hX : XS rs ab w W F vr va vc vu) (h1 : RepR 0 W F vr) (h2 : AliR 0 W F va av 0) (h3 : ClsR 0 W F vc) (h4 : RulR 0 W F vu nv 0) (hcn : F.classes.length ≤ 1048577) (hS : Np Sd F) (ok : FilOk F) (u0 u1 u4 u5 u6 u7 u8 u9 u10 u11 u12 u13 u14 u15 u16 u17 u18 u19 u20 u21 u22 u23 u24 u25 u26 u27 u28 u29 u30 u31 u32 u33 u34 u35 u36 u37 u38 u39 u40 u41 u42 u43 u44 u45 u46 u47 u48 u49 u50 u51 u52 u53 u54 u55 u56 u57 u58 u59 u60 u61 u62 u63 : Value) :
  Code.wp Tryz.prog ax4 (bodyPost Tryz.prog Tryz.f14 (AxRes w F)) ⟨#[u0, u1, .pointer (some ⟨rs, 0, none⟩), .pointer (some ⟨ab, 0, none⟩), u4, u5, u6, u7, u8, u9, u10, u11, u12, u13, u14, u15, u16, u17, u18, u19, u20, u21, u22, u23, u24, u25, u26, u27, u28, u29, u30, u31, u32, u33, u34, u35, u36, u37, u38, u39, u40, u41, u42, u43, u44, u45, u46, u47, u48, u49, u50, u51, u52, u53, u54, u55, u56, u57, u58, u59, u60, u61, u62, u63], []⟩ W := by
 have hn0 := hX.low.size
 have HEND : Hid (∀ w3 u, w3.ownsRow W.heap.size 90 2 u F.reps.length (F.reps.flatMap repC) → Below W.heap.size W w3 → ∀ W', W' = w3.setCell ⟨ab, 9, none⟩ u → ∀ (u0 u1 u4 u5 u6 u7 u8 u9 u10 u11 u12 u13 u14 u15 u16 u17 u18 u19 u20 u21 u22 u23 u24 u25 u26 u27 u28 u29 u30 u31 u32 u33 u34 u35 u36 u37 u38 u39 u40 u41 u42 u43 u44 u45 u46 u47 u48 u49 u50 u51 u52 u53 u54 u55 u56 u57 u58 u59 u60 u61 u62 u63 : Value), Code.wp Tryz.prog ax5 (bodyPost Tryz.prog Tryz.f14 (AxRes w F)) ⟨#[u0, u1, .pointer (some ⟨rs, 0, none⟩), .pointer (some ⟨ab, 0, none⟩), u4, u5, u6, u7, u8, u9, u10, u11, u12, u13, u14, u15, u16, u17, u18, u19, u20, u21, u22, u23, u24, u25, u26, u27, u28, u29, u30, u31, u32, u33, u34, u35, u36, u37, u38, u39, u40, u41, u42, u43, u44, u45, u46, u47, u48, u49, u50, u51, u52, u53, u54, u55, u56, u57, u58, u59, u60, u61, u62, u63], []⟩ W') := by
  intro w3 u o3 b3 W' hW u0 u1 u4 u5 u6 u7 u8 u9 u10 u11 u12 u13 u14 u15 u16 u17 u18 u19 u20 u21 u22 u23 u24 u25 u26 u27 u28 u29 u30 u31 u32 u33 u34 u35 u36 u37 u38 u39 u40 u41 u42 u43 u44 u45 u46 u47 u48 u49 u50 u51 u52 u53 u54 u55 u56 u57 u58 u59 u60 u61 u62 u63
  subst hW
  have kq : Kq ([] : List TypeId) noM W w3 := Kq.below b3
  obtain ⟨hX', k2⟩ := (hX.kq kq (by simp) (b3.mono hn0)).turn (vr' := u) (va' := va) (vc' := vc) (vu' := vu) 9 u rfl
  have hr : RepR w.heap.size w3 F u := own_low o3 hn0
  exact ax5_go hX' (hr.kq k2 (by decide)) ((h2.kq kq (by simp) (by simp)).kq k2 (by decide) (by decide)) ((h3.kq kq (by simp)).kq k2 (by decide)) ((h4.kq kq (by simp) (by simp)).kq k2 (by decide) (by decide)) hcn hS ok u0 u1 u4 u5 u6 u7 u8 u9 u10 u11 u12 u13 u14 u15 u16 u17 u18 u19 u20 u21 u22 u23 u24 u25 u26 u27 u28 u29 u30 u31 u32 u33 u34 u35 u36 u37 u38 u39 u40 u41 u42 u43 u44 u45 u46 u47 u48 u49 u50 u51 u52 u53 u54 u55 u56 u57 u58 u59 u60 u61 u62 u63
 have HCODE : ax4 = Code.seq (match ax4 with | .seq a _ => a | c => c) ax5 := by kernel_rfl
 rw [HCODE]
 clear HCODE
 refine wp_seq_k (fun KE hKE => ?_)
 conv => arg 2; whnf
 have cc : W.cell? ⟨ab, 9, none⟩ = some vr := by simp [World.cell?, hX.hab, axL]
 have habl := lt_some hX.hab
 obtain ⟨au, cu, eu⟩ := own_slice h1
 have HCL := hide (clone_rep h1 (rep_one _) (by have := ok.reps; omega))
 have HAB : Hid (∀ w3, Below W.heap.size W w3 → w3.cell? ⟨ab, 9, none⟩ = some vr ∧ w3.frozen? ⟨ab, 9, none⟩ = false ∧ ab < w3.heap.size) := fun w3 b3 => by
  have := (below_kept b3 _ _ hX.hab).trans hX.hab
  exact ⟨by simp [World.cell?, this, axL], by simp [World.frozen?, this], lt_some this⟩
 have HKE := hide hKE
 subst eu
 clear hX h1 h2 h3 h4 hS hKE hn0 ok
 go_wp2_with (go_at_call 37; refine (unhide HCL).mono ?_; rintro e w3 ⟨u, rfl, o3, b3⟩; obtain ⟨x1, x2, x3⟩ := unhide HAB _ b3; have HNX := hide (unhide HEND _ _ o3 b3 _ rfl); obtain ⟨au3, cu3, rfl⟩ := own_slice o3; clear o3 b3)
 apply unhide HKE
 exact unhide HNX _ _ _ _ _ _ _ _ _ _ _ _ _ _ _ _ _ _ _ _ _ _ _ _ _ _ _ _ _ _ _ _ _ _ _ _ _ _ _ _ _ _ _ _ _ _ _ _ _ _ _ _ _ _ _ _ _ _ _ _ _ _
noncomputable def ax3 : Code := dropSeq 2 (Tryz.f14.body.getD .skip)
theorem Affixes_any {B : Nat} {w : World} {F : Fil} {P : Pts} (h : FAt B w F P) (hS : Np Sd F) (hcn : F.classes.length ≤ 1048577) : Calls Tryz.prog 14 #[.pointer (some ⟨P.fb, 0, none⟩)] w (AxRes w F) := by
 have b1 := (Below.refl w.heap.size w).alloc (Nat.le_refl _) (.cells #[.int .i64 0, .string ⟨#[]⟩, .string ⟨#[]⟩, .int .u16 0, .int .u16 0, .int .u16 0, .int .u16 0, .int .u16 0, .int .i64 0, .slice none 0 0, .slice none 0 0, .slice none 0 0, .slice none 0 0] TA)
 have b2 := b1.alloc b1.size (.cells (axL F P.vr P.va P.vc P.vu).toArray TA)
 have h2 := h.below b2
 have HEND : Hid (∀ (u0 u1 u4 u5 u6 u7 u8 u9 u10 u11 u12 u13 u14 u15 u16 u17 u18 u19 u20 u21 u22 u23 u24 u25 u26 u27 u28 u29 u30 u31 u32 u33 u34 u35 u36 u37 u38 u39 u40 u41 u42 u43 u44 u45 u46 u47 u48 u49 u50 u51 u52 u53 u54 u55 u56 u57 u58 u59 u60 u61 u62 u63 : Value), Code.wp Tryz.prog ax4 (bodyPost Tryz.prog Tryz.f14 (AxRes w F)) ⟨#[u0, u1, .pointer (some ⟨w.heap.size, 0, none⟩), .pointer (some ⟨w.heap.size + 1, 0, none⟩), u4, u5, u6, u7, u8, u9, u10, u11, u12, u13, u14, u15, u16, u17, u18, u19, u20, u21, u22, u23, u24, u25, u26, u27, u28, u29, u30, u31, u32, u33, u34, u35, u36, u37, u38, u39, u40, u41, u42, u43, u44, u45, u46, u47, u48, u49, u50, u51, u52, u53, u54, u55, u56, u57, u58, u59, u60, u61, u62, u63], []⟩ ((w.alloc (.cells #[.int .i64 0, .string ⟨#[]⟩, .string ⟨#[]⟩, .int .u16 0, .int .u16 0, .int .u16 0, .int .u16 0, .int .u16 0, .int .i64 0, .slice none 0 0, .slice none 0 0, .slice none 0 0, .slice none 0 0] TA)).alloc (.cells (axL F P.vr P.va P.vc P.vu).toArray TA))) := by
  intro u0 u1 u4 u5 u6 u7 u8 u9 u10 u11 u12 u13 u14 u15 u16 u17 u18 u19 u20 u21 u22 u23 u24 u25 u26 u27 u28 u29 u30 u31 u32 u33 u34 u35 u36 u37 u38 u39 u40 u41 u42 u43 u44 u45 u46 u47 u48 u49 u50 u51 u52 u53 u54 u55 u56 u57 u58 u59 u60 u61 u62 u63
  have n1 := alloc_heap1 (alloc_new w (.cells #[.int .i64 0, .string ⟨#[]⟩, .string ⟨#[]⟩, .int .u16 0, .int .u16 0, .int .u16 0, .int .u16 0, .int .u16 0, .int .i64 0, .slice none 0 0, .slice none 0 0, .slice none 0 0, .slice none 0 0] TA)) (.cells (axL F P.vr P.va P.vc P.vu).toArray TA)
  have n2 := alloc_new (w.alloc (.cells #[.int .i64 0, .string ⟨#[]⟩, .string ⟨#[]⟩, .int .u16 0, .int .u16 0, .int .u16 0, .int .u16 0, .int .u16 0, .int .i64 0, .slice none 0 0, .slice none 0 0, .slice none 0 0, .slice none 0 0] TA)) (.cells (axL F P.vr P.va P.vc P.vu).toArray TA)
  simp only [World.size_alloc] at n2
  exact ax4_go ⟨b2, n1, Nat.le_refl _, n2, Nat.le_succ _, by omega⟩ (own_low h2.reps (Nat.zero_le _)) ⟨own_low h2.alis (Nat.zero_le _), h2.aliF.1, fun i u a q1 q2 => by rw [if_neg (Nat.not_lt_zero _)]; exact (h2.aliF.2 i u a q1 q2).low (Nat.zero_le _)⟩ (own_low h2.clss (Nat.zero_le _)) ⟨own_low h2.ruls (Nat.zero_le _), h2.rulF.1, fun i u a q1 q2 => by rw [if_neg (Nat.not_lt_zero _)]; exact (h2.rulF.2 i u a q1 q2).low (Nat.zero_le _)⟩ hcn hS h.ok u0 u1 u4 u5 u6 u7 u8 u9 u10 u11 u12 u13 u14 u15 u16 u17 u18 u19 u20 u21 u22 u23 u24 u25 u26 u27 u28 u29 u30 u31 u32 u33 u34 u35 u36 u37 u38 u39 u40 u41 u42 u43 u44 u45 u46 u47 u48 u49 u50 u51 u52 u53 u54 u55 u56 u57 u58 u59 u60 u61 u62 u63
 have hf := h.fil
 have e0 : w.cell? ⟨P.fb, 0, none⟩ = some (.int .i64 F.kind) := by simp [World.cell?, hf, filC]
 have HCE : Hid (∀ k, k < 13 → w.cell? ⟨P.fb, k, none⟩ = (axL F P.vr P.va P.vc P.vu)[k]?) := by
  intro k hk
  unfold World.cell?
  simp only
  rw [hf]
  simp only [filC, axL]
  match k, hk with
  | 0, _ | 1, _ | 2, _ | 3, _ | 4, _ | 5, _ | 6, _ | 7, _ | 8, _ | 9, _ | 10, _ | 11, _ | 12, _ => rfl
 obtain ⟨ar, cr, er⟩ := own_slice h.reps
 obtain ⟨aa, ca, ea⟩ := own_slice h.alis
 obtain ⟨ac, cc, ec⟩ := own_slice h.clss
 obtain ⟨au, cu, eu⟩ := own_slice h.ruls
 have hlt := h.lt
 obtain ⟨s0, e0⟩ : ∃ x, F.specials.getD 0 0 = x := ⟨_, rfl⟩
 obtain ⟨s1, e1⟩ : ∃ x, F.specials.getD 1 0 = x := ⟨_, rfl⟩
 obtain ⟨s2, e2⟩ : ∃ x, F.specials.getD 2 0 = x := ⟨_, rfl⟩
 obtain ⟨s3, e3⟩ : ∃ x, F.specials.getD 3 0 = x := ⟨_, rfl⟩
 obtain ⟨s4, e4⟩ : ∃ x, F.specials.getD 4 0 = x := ⟨_, rfl⟩
 have HEQ : axL F P.vr P.va P.vc P.vu = [.int .i64 F.kind, .string (Wd.str F.charset), .string (Wd.str F.letters), .int .u16 s0, .int .u16 s1, .int .u16 s2, .int .u16 s3, .int .u16 s4, .int .i64 (F.least : Nat), .slice ar F.reps.length cr, .slice aa F.aliases.length ca, .slice ac F.classes.length cc, .slice au F.rules.length cu] := by
  rw [axL, e0, e1, e2, e3, e4, er, ea, ec, eu]
 rw [HEQ] at HCE HEND
 have q0 := unhide HCE 0 (by decide)
 have q1 := unhide HCE 1 (by decide)
 have q2 := unhide HCE 2 (by decide)
 have q3 := unhide HCE 3 (by decide)
 have q4 := unhide HCE 4 (by decide)
 have q5 := unhide HCE 5 (by decide)
 have q6 := unhide HCE 6 (by decide)
 have q7 := unhide HCE 7 (by decide)
 have q8 := unhide HCE 8 (by decide)
 have q9 := unhide HCE 9 (by decide)
 have q10 := unhide HCE 10 (by decide)
 have q11 := unhide HCE 11 (by decide)
 have q12 := unhide HCE 12 (by decide)
 simp only [List.getElem?_cons_zero, List.getElem?_cons_succ] at q0 q1 q2 q3 q4 q5 q6 q7 q8 q9 q10 q11 q12
 clear HEQ HCE er ea ec eu e0 e1 e2 e3 e4 h h2 b1 b2 hf hcn hS
 go_enter Tryz.func14, Tryz.ntmps14
 have HCODE : ax3 = Code.seq (match ax3 with | .seq a _ => a | c => c) ax4 := by kernel_rfl
 change Code.wp _ (Code.seq _ (Code.seq _ ax3)) _ _ _
 refine wp_seq_k (fun K1 hK1 => ?_)
 have HK1 := hide hK1
 clear hK1
 go_wp2
 apply unhide HK1
 refine wp_seq_k (fun K2 hK2 => ?_)
 have HK2 := hide hK2
 clear hK2 HK1
 go_wp2
 apply unhide HK2
 rw [HCODE]
 clear HCODE HK2
 refine wp_seq_k (fun K3 hK3 => ?_)
 have HK3 := hide hK3
 clear hK3
 conv => arg 2; whnf
 go_wp2
 apply unhide HK3
 exact unhide HEND _ _ _ _ _ _ _ _ _ _ _ _ _ _ _ _ _ _ _ _ _ _ _ _ _ _ _ _ _ _ _ _ _ _ _ _ _ _ _ _ _ _ _ _ _ _ _ _ _ _ _ _ _ _ _ _ _ _ _ _ _ _
end Af
namespace Af
structure Ent where
 word : Bs
 flags : List Int
def known (F : Fil) (x : Int) : Bool := (findC F.classes x).isSome || F.specials.any fun y => decide (x = y)
def chkW (t : Bs) : Nat := if VlW.okB t = true then (if 64 < t.length then 22 else 0) else 21
def flgsE (F : Fil) (r : Bs) : Nat := if flgE F r ≠ 0 then (flgE F r).toNat else if (flgS F r).all (known F) = true then 0 else 120
def entE (F : Fil) (f : Bs) : Except Nat Ent := match Wd.rd [] f with
 | none => .error 20
 | some (a, r, c) => if chkW a ≠ 0 then .error (chkW a) else if c = false then .ok ⟨a, []⟩ else if flgsE F r ≠ 0 then .error (flgsE F r) else .ok ⟨a, flgS F r⟩
def entRow (F : Fil) (row : List Bs) : Except Nat Ent := if row.length ≠ 1 then .error 111 else entE F (fld row 0)
def ents (F : Fil) (n : Nat) : List (Nat × List Bs) → List Ent → Except Er (List Ent)
 | [], E => .ok E
 | (l, row) :: t, E => if E.length = n then .error (l, 116) else match entRow F row with
  | .error c => .error (l, c)
  | .ok x => ents F n t (E ++ [x])
def dicR (F : Fil) (s : Bs) : Except Er (List Ent) := if 65536 < s.length then .error (0, 10) else match Rw.rowsOf s with
 | [] => .error ((Ln.linesOf s).length + 1, 116)
 | (l, row) :: t => if row.length ≠ 1 then .error (l, 111) else match numb l (fld row 0) 8192 with
  | .error e => .error e
  | .ok n => match ents F n t [] with
   | .error e => .error e
   | .ok E => if E.length < n then .error ((Ln.linesOf s).length + 1, 116) else .ok E
theorem flgsE_pos {F : Fil} {r : Bs} (h : flgE F r ≠ 0) : flgsE F r = (flgE F r).toNat ∧ flgsE F r ≠ 0 := by
 have := flgE_pos F r
 unfold flgsE
 rw [if_pos h]
 exact ⟨rfl, by omega⟩
theorem flgsE_zero {F : Fil} {r : Bs} (h : flgE F r = 0) : flgsE F r = if (flgS F r).all (known F) = true then 0 else 120 := by
 unfold flgsE
 rw [if_neg (by simp [h])]

theorem heads_inv : ∀ {m : Nat} {R R' : Rdr}, heads m R = .ok R' → Inv R → Inv R'
 | 0, R, R', h, hn => by
  simp only [heads, Except.ok.injEq] at h
  subst h
  exact hn
 | m + 1, R, R', h, hn => by
  simp only [heads] at h
  split at h
  ·injection h with h; subst h; exact hn
  ·rename_i l hd t hr
   split at h
   ·cases h
   ·rename_i R1 h1
    exact heads_inv h (heading_inv hn hr h1).1
theorem affR_cls {l : Bs} {F : Fil} (h : affR l = .ok F) : F.classes.length ≤ 65536 := by
 by_cases hl : 65536 < l.length
 ·simp [affR, hl] at h
 ·rw [affR_short hl] at h
  cases hh : heads (Rw.rowsOf l).length (start l) with
  | error e => rw [hh] at h; cases h
  | ok R =>
   rw [hh] at h
   have hi := heads_inv hh ⟨by simp [start], by have := rows_few l; simp [start]; omega, fun _ => rfl, fun _ => rfl⟩
   unfold affEnd at h
   simp only at h
   split at h
   ·cases h
   ·injection h with h
    subst h
    have := hi.cls
    have := hi.few
    omega
open RowB
theorem checkWord_any (s : ByteArray) (w : World) (hs : s.size ≤ 65536) :
  Calls Tryz.prog 114 #[.string s] w fun e w' => e = .returned (.int .i64 (chkW s.data.toList : Nat)) ∧ Below w.heap.size w w' := by
 have hz : s.data.toList.length = s.size := by simp
 unfold chkW
 cases ho : VlW.okB s.data.toList with
 | true =>
  have HT := hide (LtW.letters_ok s w (by omega) ho)
  by_cases hq : 64 < s.size
  ·have hqi : (64 : Int) < (s.size : Int) := by omega
   rw [if_pos rfl, if_pos (by omega)]
   clear ho hz hq hs
   go_enter Tryz.func114, Tryz.ntmps114
   go_wp2_with (go_at_call 99; refine (unhide HT).mono ?_; rintro e w2 ⟨rfl, b2⟩)
   go_ret
   exact ⟨rfl, b2⟩
  ·have hqi : ¬ (64 : Int) < (s.size : Int) := by omega
   rw [if_pos rfl, if_neg (by omega)]
   clear ho hz hq hs
   go_enter Tryz.func114, Tryz.ntmps114
   go_wp2_with (go_at_call 99; refine (unhide HT).mono ?_; rintro e w2 ⟨rfl, b2⟩)
   go_ret
   exact ⟨rfl, b2⟩
 | false =>
  have HT := hide (LtR.letters_bad s w (by omega) ho)
  rw [if_neg (by simp)]
  clear ho hz
  go_enter Tryz.func114, Tryz.ntmps114
  go_wp2_with (go_at_call 99; refine (unhide HT).mono ?_; rintro e w2 ⟨rfl, hw⟩; obtain rfl := hw.symm)
  go_ret
  exact ⟨rfl, Below.refl _ _⟩
theorem lineBehind_any (s : ByteArray) (w : World) (hs : s.size ≤ 65536) (hM : EachW.MaxIs w) :
  Calls Tryz.prog 63 #[.string s] w fun e w' => e = .returned (.int .i64 (((Ln.linesOf s.data.toList).length + 1 : Nat))) ∧ Below w.heap.size w w' := by
 have HS := hide (SplW.split_short s w hs hM)
 have hsm := Nat.le_trans (Ln.linesOf_len s.data.toList) (by rw [show s.data.toList.length = s.size by simp]; exact hs)
 generalize (Ln.linesOf s.data.toList).length = n at *
 rw [show ((n + 1 : Nat) : Int) = (n : Int) + 1 by omega]
 clear hM
 go_enter Tryz.func63, Tryz.ntmps63
 go_wp2_with (go_at_call 71; refine (unhide HS).mono ?_; rintro e w2 ⟨v, rfl, o2, b2⟩; obtain ⟨av, cv, rfl, -, -⟩ := own_len o2; have HB2 := hide b2; clear o2 b2)
 go_ret
 exact ⟨rfl, unhide HB2⟩
theorem numN_cast {f : Bs} {m : Int} : (((Num.numN f m).toNat : Nat) : Int) = Num.numN f m := by
 have : 0 ≤ Num.numN f m := by
  unfold Num.numN
  split <;> omega
 omega
def cntX (l : Nat) (row : List Bs) : Except Er Nat := if row.length ≠ 1 then .error (l, 111) else numb l (fld row 0) 8192
def cntN (row : List Bs) : Int := if row.length ≠ 1 then 0 else Num.numN (fld row 0) 8192
def cntE (row : List Bs) : Int := if row.length ≠ 1 then 111 else Num.numE (fld row 0) 8192
theorem cntX_eq (l : Nat) (row : List Bs) : cntX l row = if cntE row = 0 then .ok (cntN row).toNat else .error (l, (cntE row).toNat) := by
 unfold cntX cntE cntN numb
 by_cases h : row.length ≠ 1
 ·rw [if_pos h, if_pos h, if_neg (by decide)]
  rfl
 ·rw [if_neg h, if_neg h, if_neg h, show ((8192 : Nat) : Int) = 8192 from rfl]
  by_cases h2 : Num.numE (fld row 0) 8192 = 0
  ·rw [if_pos h2, if_pos h2]
  ·rw [if_neg h2, if_neg h2]
   have : Num.numE (fld row 0) 8192 = 13 := by
    unfold Num.numE at h2 ⊢
    split
    ·rename_i q; rw [if_pos q] at h2; exact absurd rfl h2
    ·rfl
   rw [this]
   rfl
theorem readCount_any {B : Nat} {w : World} {v : Value} {row : List Bs} (hS : StrRow B w v (row.map Fld.str)) (hf : ∀ f ∈ row, f.length ≤ 65536) :
  Calls Tryz.prog 64 #[v] w fun e w' => e = .returned (.tuple #[.int .i64 (cntN row), .int .i64 (cntE row)]) ∧ w' = w := by
 obtain ⟨g, cap, rfl, hg, hlen, hcm, -, hcl⟩ := str_cells hS
 unfold maxLen at hcm
 unfold cntN cntE
 by_cases h : row.length = 1
 ·have hc0 := hcl 0 (fld row 0) (List.getElem?_eq_getElem (by omega) |>.trans (by unfold fld; rw [List.getElem?_eq_getElem (by omega)]; rfl))
  have hz := hf (fld row 0) (by unfold fld; rw [List.getElem?_eq_getElem (by omega)]; exact List.getElem_mem _)
  have HNU := hide (fun W => NumW.number_any (Fld.str (fld row 0)) 8192 W (by rw [show (Fld.str (fld row 0)).size = (fld row 0).length by show (fld row 0).toArray.size = _; simp]; unfold maxLen; omega) (by decide) (by decide))
  rw [show (Fld.str (fld row 0)).data.toList = fld row 0 by simp [Fld.str]] at HNU
  rw [if_neg (by simp [h]), if_neg (by simp [h]), h]
  clear hcl hf hz
  generalize Fld.str (fld row 0) = X at *
  generalize Num.numN (fld row 0) 8192 = a at *
  generalize Num.numE (fld row 0) 8192 = b at *
  clear hS h hlen
  go_enter Tryz.func64, Tryz.ntmps64
  go_wp2_with (go_at_call 90; refine (unhide HNU _).mono ?_; rintro e w2 ⟨rfl, hw⟩; obtain rfl := hw.symm)
  go_ret2
  exact ⟨rfl, rfl⟩
 ·rw [if_pos h, if_pos h]
  have hb : ((row.length : Int) == 1) = false := by simp; omega
  generalize row.length = n at *
  go_enter Tryz.func64, Tryz.ntmps64
  go_wp2
  go_ret2
  exact ⟨rfl, rfl⟩
def rdC (fb wb l : Nat) (F : Fil) : Array Value := #[.pointer (some ⟨fb, 0, none⟩), .int .u16 (F.specials.getD 0 0), .int .u16 (F.specials.getD 1 0), .int .u16 (F.specials.getD 2 0), .int .u16 (F.specials.getD 3 0), .int .u16 (F.specials.getD 4 0), .pointer (some ⟨wb, 0, none⟩), .int .i64 (l : Nat)]
structure DH (B : Nat) (w : World) (rb : Nat) (F : Fil) (P : Pts) (wb l : Nat) : Prop where
 rdr : w.heap[rb]? = some (.cells (rdC P.fb wb l F) 116 (0, 0))
 file : FAt B w F P
theorem DH.below {B rb wb l : Nat} {w w' : World} {F : Fil} {P : Pts} (h : DH B w rb F P wb l) (k : Below w.heap.size w w') : DH B w' rb F P wb l :=
 ⟨(k.block _ (lt_some h.rdr)).trans h.rdr, h.file.below k⟩
theorem DH.lt {B rb wb l : Nat} {w : World} {F : Fil} {P : Pts} (h : DH B w rb F P wb l) : rb < w.heap.size := lt_some h.rdr
theorem DH.cells {B rb wb l : Nat} {w : World} {F : Fil} {P : Pts} (h : DH B w rb F P wb l) : w.cell? ⟨rb, 0, none⟩ = some (.pointer (some ⟨P.fb, 0, none⟩)) ∧ w.cell? ⟨rb, 6, none⟩ = some (.pointer (some ⟨wb, 0, none⟩)) ∧ w.cell? ⟨rb, 7, none⟩ = some (.int .i64 (l : Nat)) ∧ ∀ k, w.frozen? ⟨rb, k, none⟩ = false := by
 have := h.rdr
 refine ⟨?_, ?_, ?_, fun k => ?_⟩ <;> simp [World.cell?, World.frozen?, this, rdC]
theorem DH.spec {B rb wb l : Nat} {w : World} {F : Fil} {P : Pts} (h : DH B w rb F P wb l) (j : Nat) (hj : j < F.specials.length) : w.cell? ⟨rb, 1 + j, none⟩ = some (.int .u16 F.specials[j]!) := by
 have h1 := h.rdr
 obtain ⟨a, b, c, d, e, hs⟩ := five h.file.ok.spec
 rw [hs] at hj ⊢
 have : j = 0 ∨ j = 1 ∨ j = 2 ∨ j = 3 ∨ j = 4 := by simp at hj; omega
 rcases this with rfl | rfl | rfl | rfl | rfl <;> simp [World.cell?, h1, rdC, hs]
theorem unknown_any {B rb wb l : Nat} {w : World} {F : Fil} {P : Pts} (h : DH B w rb F P wb l) (x : Int) (h0 : 0 ≤ x) (h1 : x ≤ 65535) :
  Calls Tryz.prog 144 #[ptr rb, .int .u16 x] w fun e w' => e = .returned (.bool (!known F x)) ∧ Below w.heap.size w w' := by
 have hC := fun w0 (b : Below w.heap.size w w0) => (h.below b).cells
 have HC : Hid (∀ w0, Below w.heap.size w w0 → w0.cell? ⟨rb, 0, none⟩ = some (.pointer (some ⟨P.fb, 0, none⟩)) ∧ rb < w0.heap.size) := fun w0 b => ⟨(hC w0 b).1, (h.below b).lt⟩
 have d0 := h.cells.1
 have hlt := h.lt
 have h5 : F.specials.length = 5 := h.file.ok.spec
 have HK := hide (fun W (b : Below w.heap.size w W) => Tryz.flags_Contains rb 1 5 5 F.specials x W (by omega) (by omega) (fun j hj => (h.below b).spec j hj))
 rw [show F.specials.take 5 = F.specials from List.take_of_length_le (by omega)] at HK
 unfold known
 cases hf : findC F.classes x with
 | none =>
  have HCL := hide (class_none h.file x h0 h1 hf)
  unfold noC at HCL
  simp only [Option.isSome_none, Bool.false_or]
  clear h hC hf h5
  generalize (F.specials.any fun y => decide (x = y)) = b at *
  go_enter Tryz.func144, Tryz.ntmps144
  go_wp2_with (first
   | (go_at_call 68; refine (unhide HCL).mono ?_; rintro e w2 ⟨rfl, b2⟩; have HB2 := hide b2; have hsz := b2.size; clear b2)
   | (go_at_call 94; refine (unhide HK _ (by have h := unhide HB2; (repeat (first | exact h | refine Below.drew ?_ | refine Below.alloc ?_ (by first | omega | (simp; done) | (simp; omega)) _ | refine Below.setCell ?_ (by first | omega | (simp; done) | (simp; omega)) _)))).mono ?_; rintro e w3 ⟨rfl, hw⟩; obtain rfl := hw.symm))
  go_ret
  exact ⟨rfl, by have h := unhide HB2; (repeat (first | exact h | refine Below.drew ?_ | refine Below.alloc ?_ (by first | omega | (simp; done) | (simp; omega)) _ | refine Below.setCell ?_ (by first | omega | (simp; done) | (simp; omega)) _))⟩
 | some i =>
  obtain ⟨c, hc, -⟩ := findC_get hf
  have HCL := hide (class_some h.file x h0 h1 hf hc)
  unfold clsV at HCL
  simp only [Option.isSome_some, Bool.true_or, Bool.not_true]
  clear h hC hf h5 hc
  go_enter Tryz.func144, Tryz.ntmps144
  go_wp2_with (go_at_call 68; refine (unhide HCL).mono ?_; rintro e w2 ⟨rfl, b2⟩; have HB2 := hide b2; have hsz := b2.size; clear b2)
  go_ret
  exact ⟨rfl, by have h := unhide HB2; (repeat (first | exact h | refine Below.drew ?_ | refine Below.alloc ?_ (by first | omega | (simp; done) | (simp; omega)) _ | refine Below.setCell ?_ (by first | omega | (simp; done) | (simp; omega)) _))⟩
theorem indexUnknown_any {B rb wb l0 : Nat} {F : Fil} {P : Pts} {w : World} (h : DH B w rb F P wb l0) (v : Value) (l : List Int) (hA : So.FArg w v l) (hbd : ∀ x ∈ l, 0 ≤ x ∧ x ≤ 65535) :
  Calls Tryz.prog 163 #[v, .func (.func 144) #[ptr rb] #[]] w fun e w' => (∃ q : Int, e = .returned (.int .i64 q) ∧ (decide (0 ≤ q)) = !(l.all (known F))) ∧ Below w.heap.size w w' := by
 have HA := hide hA
 obtain ⟨ao, cap, rfl, hl1, hl2, -, hat⟩ := hA
 unfold maxLen at hl2
 rcases Nat.eq_zero_or_pos l.length with hz | hpos
 ·have hl0 : l = [] := List.length_eq_zero_iff.1 hz
  rw [hz]
  subst hl0
  clear hbd HA hat hl1
  have hltz : ¬ (0 : Int) < 0 := by omega
  go_enter Tryz.func163, Tryz.ntmps163
  go_wp2
  go_loopw [8] (fun s8 wr => s8 = .int .i64 0 ∧ wr = w) (fun _ _ => 0)
  case atStart => exact ⟨rfl, rfl⟩
  case round =>
   obtain ⟨rfl, rfl⟩ := hrel
   go_wp2
   go_ret
   exact ⟨⟨_, rfl, by simp⟩, Below.refl _ _⟩
 obtain ⟨g, off, rfl, hg0, -⟩ := hat hpos
 obtain ⟨n, hn⟩ : ∃ n, l.length = n := ⟨_, rfl⟩
 have HN := hide hn
 have HBD := hide hbd
 have HG := hide (fun W (b : Below w.heap.size w W) x h0 h1 => unknown_any (h.below b) x h0 h1)
 rw [hn] at hl1 ⊢
 clear hn hbd h
 go_enter Tryz.func163, Tryz.ntmps163
 go_wp2
 go_loopw [8] (fun s8 wr => ∃ j : Nat, s8 = .int .i64 j ∧ j ≤ n ∧ Hid (Below w.heap.size w wr ∧ (l.take j).all (known F) = true)) (fun s8 _ => n - (intOf s8).toNat)
 case atStart => exact ⟨0, rfl, Nat.zero_le _, ⟨Below.refl _ _, by simp⟩⟩
 case round =>
  obtain ⟨j, rfl, hj, HR⟩ := hrel
  by_cases hlt : j < n
  ·have hltz : (j : Int) < (n : Int) := by omega
   have hj0 : 0 ≤ (j : Int) := by omega
   obtain ⟨y, hy⟩ : ∃ y, l[j]? = some y := ⟨_, List.getElem?_eq_getElem (by rw [unhide HN]; exact hlt)⟩
   obtain ⟨ao', cap', e1, -, -, -, hc⟩ := (unhide HA).below (unhide HR).1
   obtain ⟨g', off', e2, hg, hcc⟩ := hc (by rw [unhide HN]; omega)
   have hcy : wr.cell? ⟨g, off + j, none⟩ = some (So.encF y) := by
    have := hcc j y hy
    rw [e2] at e1
    injection e1 with e1 _ _
    injection e1 with e1
    injection e1 with e3 e4 _
    rw [← e3, ← e4] at this
    exact this
   clear e1 e2 hg
   obtain ⟨y0, y1⟩ := unhide HBD y (List.mem_of_getElem? hy)
   have HC := hide (unhide HG _ (unhide HR).1 y y0 y1)
   have HT : Hid ((l.take (j + 1)).all (known F) = ((l.take j).all (known F) && known F y)) := by
    rw [Hid, List.take_succ_eq_append_getElem (by rw [unhide HN]; exact hlt), (List.getElem?_eq_some_iff.1 hy).2, List.all_append]
    simp
   unfold So.encF at hcy
   have HY := hide hy
   clear hc hcc hy y0 y1
   cases hgo : known F y with
   | true =>
    rw [hgo] at HC HT
    clear hgo
    go_wp2_with (go_at_call 144; refine (unhide HC).mono ?_; rintro e w2 ⟨rfl, b2⟩; have HB2 := hide (btr (unhide HR).1 b2); clear b2)
    go_roundw
    case rel => exact ⟨j + 1, by go_num, by omega, ⟨unhide HB2, by rw [unhide HT, (unhide HR).2]; rfl⟩⟩
    case measure => simp [intOf]; omega
   | false =>
    rw [hgo] at HC
    have HAL : Hid (l.all (known F) = false) := by
     rw [Hid, List.all_eq_false]
     exact ⟨y, List.mem_of_getElem? (unhide HY), by rw [hgo]; decide⟩
    clear hgo
    go_wp2_with (go_at_call 144; refine (unhide HC).mono ?_; rintro e w2 ⟨rfl, b2⟩; have HB2 := hide (btr (unhide HR).1 b2); clear b2)
    go_ret
    exact ⟨⟨_, rfl, by rw [unhide HAL]; simp⟩, unhide HB2⟩
  ·obtain rfl : j = n := by omega
   have hltz : ¬ (j : Int) < (j : Int) := by omega
   have HAL : Hid (l.all (known F) = true) := by
    have := (unhide HR).2
    rwa [List.take_of_length_le (Nat.le_of_eq (unhide HN))] at this
   go_wp2
   go_ret
   exact ⟨⟨_, rfl, by rw [unhide HAL]; decide⟩, (unhide HR).1⟩
theorem containsUnknown_any {B rb wb l0 : Nat} {F : Fil} {P : Pts} {w : World} (h : DH B w rb F P wb l0) (v : Value) (l : List Int) (hA : So.FArg w v l) (hbd : ∀ x ∈ l, 0 ≤ x ∧ x ≤ 65535) :
  Calls Tryz.prog 143 #[v, .func (.func 144) #[ptr rb] #[]] w fun e w' => e = .returned (.bool (!(l.all (known F)))) ∧ Below w.heap.size w w' := by
 have HI := hide (indexUnknown_any h v l hA hbd)
 clear h hA hbd
 generalize (!(l.all (known F))) = b at *
 go_enter Tryz.func143, Tryz.ntmps143
 go_wp2_with (go_at_call 163; refine (unhide HI).mono ?_; rintro e w2 ⟨⟨q, rfl, hq⟩, b2⟩; have HQ := hide hq; have HB := hide b2; clear hq b2)
 go_ret
 exact ⟨by rw [← unhide HQ]; first | rfl | (simp; done) | (congr), unhide HB⟩
theorem fnx_arg {B : Nat} {w : World} {v : Value} {l : List Int} (h : FNx B w v l) : So.FArg w v l := by
 rcases h with ⟨rfl, rfl⟩ | h
 ·exact ⟨none, 0, rfl, Nat.le_refl _, by unfold maxLen; omega, fun _ => rfl, fun h => absurd h (by simp)⟩
 ·exact So.FRow.arg h
theorem fnx_below {B : Nat} {w w' : World} {v : Value} {l : List Int} (h : FNx B w v l) (k : Below w.heap.size w w') : FNx B w' v l := fnx_kept h (below_kept k)
theorem fnx_low {B B' : Nat} {w : World} {v : Value} {l : List Int} (h : FNx B w v l) (k : B' ≤ B) : FNx B' w v l := by
 rcases h with h | ⟨g, cap, cur, e, hg, r⟩
 ·exact .inl h
 ·exact .inr ⟨g, cap, cur, e, Nat.le_trans k hg, r⟩
theorem flgS_small {B : Nat} {w : World} {F : Fil} {P : Pts} (_h : FAt B w F P) (hs : Np (fun a => ∀ x ∈ a, 0 ≤ x ∧ x ≤ 65535) F) (s : Bs) : ∀ x ∈ flgS F s, 0 ≤ x ∧ x ≤ 65535 :=
 flgS_np (p := fun a => ∀ x ∈ a, 0 ≤ x ∧ x ≤ 65535) (fun x hx => by cases hx) (fun k s => rS_nb k s) hs s
theorem dflags_any {B rb wb l0 : Nat} {w : World} {F : Fil} {P : Pts} (h : DH B w rb F P wb l0) (hM : Mx B w) (hN : Np (fun a => ∀ x ∈ a, 0 ≤ x ∧ x ≤ 65535) F) (s : ByteArray) (hs : s.size ≤ 65536) :
  Calls Tryz.prog 115 #[ptr rb, .string s] w fun e w' => ∃ u, e = .returned (.tuple #[u, .int .i64 (flgsE F s.data.toList : Nat)]) ∧ (flgsE F s.data.toList = 0 → FNx w.heap.size w' u (flgS F s.data.toList)) ∧ Below w.heap.size w w' := by
 have d0 := h.cells.1
 have hlt := h.lt
 have HF := hide (flags_any h.file hM s (by omega))
 have hsm := flgS_small h.file hN s.data.toList
 have HU := hide (fun W (b : Below w.heap.size w W) v l hA hb => containsUnknown_any (h.below b) v l hA hb)
 by_cases he : flgE F s.data.toList = 0
 ·rw [he] at HF
  rw [flgsE_zero he]
  have HSM := hide hsm
  clear h hM hN hs hsm he
  generalize flgS F s.data.toList = l at *
  cases hk : l.all (known F) with
  | true =>
   have HKK := hide hk
   clear hk
   simp only [if_true]
   go_enter Tryz.func115, Tryz.ntmps115
   go_wp2_with (first
    | (go_at_call 142; refine (unhide HF).mono ?_; rintro e w2 ⟨u, rfl, f2, b2⟩; have HB2 := hide b2; have HF2 := hide f2; have hsz := b2.size; clear b2 f2)
    | (go_at_call 143; refine (unhide HU _ (unhide HB2) _ l (fnx_arg (unhide HF2)) (unhide HSM)).mono ?_; rw [unhide HKK]; rintro e w3 ⟨rfl, b3⟩; have HB3 := hide b3; clear b3))
   go_ret2
   exact ⟨_, rfl, fun _ => fnx_below (unhide HF2) (unhide HB3), btr (unhide HB2) (unhide HB3)⟩
  | false =>
   have HKK := hide hk
   clear hk
   simp only [Bool.false_eq_true, if_false]
   go_enter Tryz.func115, Tryz.ntmps115
   go_wp2_with (first
    | (go_at_call 142; refine (unhide HF).mono ?_; rintro e w2 ⟨u, rfl, f2, b2⟩; have HB2 := hide b2; have HF2 := hide f2; have hsz := b2.size; clear b2 f2)
    | (go_at_call 143; refine (unhide HU _ (unhide HB2) _ l (fnx_arg (unhide HF2)) (unhide HSM)).mono ?_; rw [unhide HKK]; rintro e w3 ⟨rfl, b3⟩; have HB3 := hide b3; clear b3))
   go_ret2
   exact ⟨_, rfl, fun h => absurd h (by decide), btr (unhide HB2) (unhide HB3)⟩
 ·obtain ⟨e1, e2⟩ := flgsE_pos he
  have hp := flgE_pos F s.data.toList
  have e3 : ((flgE F s.data.toList).toNat : Int) = flgE F s.data.toList := by omega
  rw [e1] at e2 ⊢
  rw [e3]
  have hb : (flgE F s.data.toList == 0) = false := by simpa using he
  have HN := hide e2
  clear h hM hN hs hsm HU e1 e2 e3 hp he
  generalize flgE F s.data.toList = c at *
  go_enter Tryz.func115, Tryz.ntmps115
  go_wp2_with (go_at_call 142; refine (unhide HF).mono ?_; rintro e w2 ⟨u, rfl, f2, b2⟩; have HB2 := hide b2; have hsz := b2.size; clear b2 f2)
  go_ret2
  exact ⟨_, rfl, fun h => absurd h (unhide HN), unhide HB2⟩
end Af
end Go.Proofs.YtidhbhdcoanfcaaGreatDoor
