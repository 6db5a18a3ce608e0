/- The reader's file: Affixes, whole. -/
import Derived.Test.YtlmahoogkogpdaaGreatDoorGf29
import Derived.ChangeKeysEq
namespace Go.Proofs.YtlmahoogkogpdaaGreatDoor
open Go.RowKit
namespace Af
open RowB
theorem rep_one (l : List (Bs × Bs)) : ∀ u ∈ l.flatMap repC, u.oneCell' = true := by
  intro u hu
  obtain ⟨r, -, hu⟩ := List.mem_flatMap.1 hu
  simp [repC] at hu
  rcases hu with rfl | rfl <;> rfl
theorem cls_one (l : List Cls) : ∀ u ∈ l.flatMap clsC, u.oneCell' = true := by
  intro u hu
  obtain ⟨r, -, hu⟩ := List.mem_flatMap.1 hu
  simp [clsC] at hu
  rcases hu with rfl | rfl | rfl | rfl | rfl <;> rfl
noncomputable def ax6 : Code := dropSeq 5 (Tryz.f16.body.getD .skip)
set_option maxRecDepth 100000 in
set_option maxHeartbeats 4000000 in
theorem ax6_go {rs ab : Nat} {w W : World} {F : Fil} {vr va vc vu : Value} {av nv : List Value} (hX : XS rs ab w W F vr va vc vu) (h1 : RepR w.heap.size W F vr) (h2 : AliR 0 W F va av 0) (h3 : ClsR w.heap.size W F vc) (h4 : RulR 0 W F vu nv 0) (hS : Np Sd F) (ok : FilOk F) (u0 u1 u4 u5 u6 u7 u8 u9 u10 u11 u12 u13 u14 u15 u16 u17 u18 u19 u20 u21 u22 u23 u24 u25 u26 u27 u28 u29 u30 u31 u32 u33 u34 u35 u36 u37 u38 u39 u40 u41 u42 u43 u44 u45 u46 u47 u48 u49 u50 u51 u52 u53 u54 u55 u56 u57 u58 u59 u60 u61 u62 u63 : Value) :
    Code.wp Tryz.prog ax6 (bodyPost Tryz.prog Tryz.f16 (AxRes w F)) ⟨#[u0, u1, .pointer (some ⟨rs, 0, none⟩), .pointer (some ⟨ab, 0, none⟩), u4, u5, u6, u7, u8, u9, u10, u11, u12, u13, u14, u15, u16, u17, u18, u19, u20, u21, u22, u23, u24, u25, u26, u27, u28, u29, u30, u31, u32, u33, u34, u35, u36, u37, u38, u39, u40, u41, u42, u43, u44, u45, u46, u47, u48, u49, u50, u51, u52, u53, u54, u55, u56, u57, u58, u59, u60, u61, u62, u63], []⟩ W := by
  have hn0 := hX.low.size
  have HEND : Hid (∀ w3 u, w3.ownsRow W.heap.size 22 1 u F.aliases.length av → Below W.heap.size W w3 → ∀ W', W' = w3.setCell ⟨ab, 10, none⟩ u → ∀ (u0 u1 u4 u5 u6 u7 u8 u9 u10 u11 u12 u13 u14 u15 u16 u17 u18 u19 u20 u21 u22 u23 u24 u25 u26 u27 u28 u29 u30 u31 u32 u33 u34 u35 u36 u37 u38 u39 u40 u41 u42 u43 u44 u45 u46 u47 u48 u49 u50 u51 u52 u53 u54 u55 u56 u57 u58 u59 u60 u61 u62 u63 : Value), Code.wp Tryz.prog ax7 (bodyPost Tryz.prog Tryz.f16 (AxRes w F)) ⟨#[u0, u1, .pointer (some ⟨rs, 0, none⟩), .pointer (some ⟨ab, 0, none⟩), u4, u5, u6, u7, u8, u9, u10, u11, u12, u13, u14, u15, u16, u17, u18, u19, u20, u21, u22, u23, u24, u25, u26, u27, u28, u29, u30, u31, u32, u33, u34, u35, u36, u37, u38, u39, u40, u41, u42, u43, u44, u45, u46, u47, u48, u49, u50, u51, u52, u53, u54, u55, u56, u57, u58, u59, u60, u61, u62, u63], []⟩ W') := by
    intro w3 u o3 b3 W' hW u0 u1 u4 u5 u6 u7 u8 u9 u10 u11 u12 u13 u14 u15 u16 u17 u18 u19 u20 u21 u22 u23 u24 u25 u26 u27 u28 u29 u30 u31 u32 u33 u34 u35 u36 u37 u38 u39 u40 u41 u42 u43 u44 u45 u46 u47 u48 u49 u50 u51 u52 u53 u54 u55 u56 u57 u58 u59 u60 u61 u62 u63
    subst hW
    have kq : Kq ([] : List TypeId) noM W w3 := Kq.below b3
    obtain ⟨hX', k2⟩ := (hX.kq kq (by simp) (b3.mono hn0)).turn (vr' := vr) (va' := u) (vc' := vc) (vu' := vu) 10 u rfl
    have hr : AliR w.heap.size w3 F u av 0 := ⟨own_low o3 hn0, h2.2.1, fun i v q q1 q2 => by
      have := fnx_kq (h2.2.2 i v q q1 q2) kq (by simp)
      rwa [if_neg (Nat.not_lt_zero _)] at this ⊢⟩
    exact ax_alis hX' ((h1.kq kq (by simp)).kq k2 (by decide)) (hr.kq k2 (by decide) (by decide)) ((h3.kq kq (by simp)).kq k2 (by decide)) ((h4.kq kq (by simp) (by simp)).kq k2 (by decide) (by decide)) hS ok.rul u0 u1 u4 u5 u6 u7 u8 u9 u10 u11 u12 u13 u14 u15 u16 u17 u18 u19 u20 u21 u22 u23 u24 u25 u26 u27 u28 u29 u30 u31 u32 u33 u34 u35 u36 u37 u38 u39 u40 u41 u42 u43 u44 u45 u46 u47 u48 u49 u50 u51 u52 u53 u54 u55 u56 u57 u58 u59 u60 u61 u62 u63
  have HCODE : ax6 = Code.seq (match ax6 with | .seq a _ => a | c => c) ax7 := by kernel_rfl
  rw [HCODE]
  clear HCODE
  refine wp_seq_k (fun KE hKE => ?_)
  conv => arg 2; whnf
  have cc : W.cell? ⟨ab, 10, none⟩ = some va := by simp [World.cell?, hX.hab, axL]
  have habl := lt_some hX.hab
  obtain ⟨au, cu, eu⟩ := own_slice h2.1
  have HCL := hide (clone_ali h2.1 (aliR_one h2) (by have := ok.ali; omega))
  have HAB : Hid (∀ w3, Below W.heap.size W w3 → w3.cell? ⟨ab, 10, none⟩ = some va ∧ w3.frozen? ⟨ab, 10, none⟩ = false ∧ ab < w3.heap.size) := fun w3 b3 => by
    have := (below_kept b3 _ _ hX.hab).trans hX.hab
    exact ⟨by simp [World.cell?, this, axL], by simp [World.frozen?, this], lt_some this⟩
  have HKE := hide hKE
  subst eu
  clear hX h1 h2 h3 h4 hS hKE hn0 ok
  go_wp2_with (go_at_call 31; refine (unhide HCL).mono ?_; rintro e w3 ⟨u, rfl, o3, b3⟩; obtain ⟨x1, x2, x3⟩ := unhide HAB _ b3; have HNX := hide (unhide HEND _ _ o3 b3 _ rfl); obtain ⟨au3, cu3, rfl⟩ := own_slice o3; clear o3 b3)
  apply unhide HKE
  exact unhide HNX _ _ _ _ _ _ _ _ _ _ _ _ _ _ _ _ _ _ _ _ _ _ _ _ _ _ _ _ _ _ _ _ _ _ _ _ _ _ _ _ _ _ _ _ _ _ _ _ _ _ _ _ _ _ _ _ _ _ _ _ _ _
noncomputable def ax5 : Code := dropSeq 4 (Tryz.f16.body.getD .skip)
set_option maxRecDepth 100000 in
set_option maxHeartbeats 4000000 in
theorem ax5_go {rs ab : Nat} {w W : World} {F : Fil} {vr va vc vu : Value} {av nv : List Value} (hX : XS rs ab w W F vr va vc vu) (h1 : RepR w.heap.size W F vr) (h2 : AliR 0 W F va av 0) (h3 : ClsR 0 W F vc) (h4 : RulR 0 W F vu nv 0) (hcn : F.classes.length ≤ 1048577) (hS : Np Sd F) (ok : FilOk F) (u0 u1 u4 u5 u6 u7 u8 u9 u10 u11 u12 u13 u14 u15 u16 u17 u18 u19 u20 u21 u22 u23 u24 u25 u26 u27 u28 u29 u30 u31 u32 u33 u34 u35 u36 u37 u38 u39 u40 u41 u42 u43 u44 u45 u46 u47 u48 u49 u50 u51 u52 u53 u54 u55 u56 u57 u58 u59 u60 u61 u62 u63 : Value) :
    Code.wp Tryz.prog ax5 (bodyPost Tryz.prog Tryz.f16 (AxRes w F)) ⟨#[u0, u1, .pointer (some ⟨rs, 0, none⟩), .pointer (some ⟨ab, 0, none⟩), u4, u5, u6, u7, u8, u9, u10, u11, u12, u13, u14, u15, u16, u17, u18, u19, u20, u21, u22, u23, u24, u25, u26, u27, u28, u29, u30, u31, u32, u33, u34, u35, u36, u37, u38, u39, u40, u41, u42, u43, u44, u45, u46, u47, u48, u49, u50, u51, u52, u53, u54, u55, u56, u57, u58, u59, u60, u61, u62, u63], []⟩ W := by
  have hn0 := hX.low.size
  have HEND : Hid (∀ w3 u, w3.ownsRow W.heap.size 82 5 u F.classes.length (F.classes.flatMap clsC) → Below W.heap.size W w3 → ∀ W', W' = w3.setCell ⟨ab, 11, none⟩ u → ∀ (u0 u1 u4 u5 u6 u7 u8 u9 u10 u11 u12 u13 u14 u15 u16 u17 u18 u19 u20 u21 u22 u23 u24 u25 u26 u27 u28 u29 u30 u31 u32 u33 u34 u35 u36 u37 u38 u39 u40 u41 u42 u43 u44 u45 u46 u47 u48 u49 u50 u51 u52 u53 u54 u55 u56 u57 u58 u59 u60 u61 u62 u63 : Value), Code.wp Tryz.prog ax6 (bodyPost Tryz.prog Tryz.f16 (AxRes w F)) ⟨#[u0, u1, .pointer (some ⟨rs, 0, none⟩), .pointer (some ⟨ab, 0, none⟩), u4, u5, u6, u7, u8, u9, u10, u11, u12, u13, u14, u15, u16, u17, u18, u19, u20, u21, u22, u23, u24, u25, u26, u27, u28, u29, u30, u31, u32, u33, u34, u35, u36, u37, u38, u39, u40, u41, u42, u43, u44, u45, u46, u47, u48, u49, u50, u51, u52, u53, u54, u55, u56, u57, u58, u59, u60, u61, u62, u63], []⟩ W') := by
    intro w3 u o3 b3 W' hW u0 u1 u4 u5 u6 u7 u8 u9 u10 u11 u12 u13 u14 u15 u16 u17 u18 u19 u20 u21 u22 u23 u24 u25 u26 u27 u28 u29 u30 u31 u32 u33 u34 u35 u36 u37 u38 u39 u40 u41 u42 u43 u44 u45 u46 u47 u48 u49 u50 u51 u52 u53 u54 u55 u56 u57 u58 u59 u60 u61 u62 u63
    subst hW
    have kq : Kq ([] : List TypeId) noM W w3 := Kq.below b3
    obtain ⟨hX', k2⟩ := (hX.kq kq (by simp) (b3.mono hn0)).turn (vr' := vr) (va' := va) (vc' := u) (vu' := vu) 11 u rfl
    have hr : ClsR w.heap.size w3 F u := own_low o3 hn0
    exact ax6_go hX' ((h1.kq kq (by simp)).kq k2 (by decide)) ((h2.kq kq (by simp) (by simp)).kq k2 (by decide) (by decide)) (hr.kq k2 (by decide)) ((h4.kq kq (by simp) (by simp)).kq k2 (by decide) (by decide)) hS ok u0 u1 u4 u5 u6 u7 u8 u9 u10 u11 u12 u13 u14 u15 u16 u17 u18 u19 u20 u21 u22 u23 u24 u25 u26 u27 u28 u29 u30 u31 u32 u33 u34 u35 u36 u37 u38 u39 u40 u41 u42 u43 u44 u45 u46 u47 u48 u49 u50 u51 u52 u53 u54 u55 u56 u57 u58 u59 u60 u61 u62 u63
  have HCODE : ax5 = Code.seq (match ax5 with | .seq a _ => a | c => c) ax6 := by kernel_rfl
  rw [HCODE]
  clear HCODE
  refine wp_seq_k (fun KE hKE => ?_)
  conv => arg 2; whnf
  have cc : W.cell? ⟨ab, 11, none⟩ = some vc := by simp [World.cell?, hX.hab, axL]
  have habl := lt_some hX.hab
  obtain ⟨au, cu, eu⟩ := own_slice h3
  have HCL := hide (clone_cls h3 (cls_one _) hcn)
  have HAB : Hid (∀ w3, Below W.heap.size W w3 → w3.cell? ⟨ab, 11, none⟩ = some vc ∧ w3.frozen? ⟨ab, 11, none⟩ = false ∧ ab < w3.heap.size) := fun w3 b3 => by
    have := (below_kept b3 _ _ hX.hab).trans hX.hab
    exact ⟨by simp [World.cell?, this, axL], by simp [World.frozen?, this], lt_some this⟩
  have HKE := hide hKE
  subst eu
  clear hX h1 h2 h3 h4 hS hKE hn0 ok
  go_wp2_with (go_at_call 30; refine (unhide HCL).mono ?_; rintro e w3 ⟨u, rfl, o3, b3⟩; obtain ⟨x1, x2, x3⟩ := unhide HAB _ b3; have HNX := hide (unhide HEND _ _ o3 b3 _ rfl); obtain ⟨au3, cu3, rfl⟩ := own_slice o3; clear o3 b3)
  apply unhide HKE
  exact unhide HNX _ _ _ _ _ _ _ _ _ _ _ _ _ _ _ _ _ _ _ _ _ _ _ _ _ _ _ _ _ _ _ _ _ _ _ _ _ _ _ _ _ _ _ _ _ _ _ _ _ _ _ _ _ _ _ _ _ _ _ _ _ _
noncomputable def ax4 : Code := dropSeq 3 (Tryz.f16.body.getD .skip)
set_option maxRecDepth 100000 in
set_option maxHeartbeats 4000000 in
theorem ax4_go {rs ab : Nat} {w W : World} {F : Fil} {vr va vc vu : Value} {av nv : List Value} (hX : XS rs ab w W F vr va vc vu) (h1 : RepR 0 W F vr) (h2 : AliR 0 W F va av 0) (h3 : ClsR 0 W F vc) (h4 : RulR 0 W F vu nv 0) (hcn : F.classes.length ≤ 1048577) (hS : Np Sd F) (ok : FilOk F) (u0 u1 u4 u5 u6 u7 u8 u9 u10 u11 u12 u13 u14 u15 u16 u17 u18 u19 u20 u21 u22 u23 u24 u25 u26 u27 u28 u29 u30 u31 u32 u33 u34 u35 u36 u37 u38 u39 u40 u41 u42 u43 u44 u45 u46 u47 u48 u49 u50 u51 u52 u53 u54 u55 u56 u57 u58 u59 u60 u61 u62 u63 : Value) :
    Code.wp Tryz.prog ax4 (bodyPost Tryz.prog Tryz.f16 (AxRes w F)) ⟨#[u0, u1, .pointer (some ⟨rs, 0, none⟩), .pointer (some ⟨ab, 0, none⟩), u4, u5, u6, u7, u8, u9, u10, u11, u12, u13, u14, u15, u16, u17, u18, u19, u20, u21, u22, u23, u24, u25, u26, u27, u28, u29, u30, u31, u32, u33, u34, u35, u36, u37, u38, u39, u40, u41, u42, u43, u44, u45, u46, u47, u48, u49, u50, u51, u52, u53, u54, u55, u56, u57, u58, u59, u60, u61, u62, u63], []⟩ W := by
  have hn0 := hX.low.size
  have HEND : Hid (∀ w3 u, w3.ownsRow W.heap.size 78 2 u F.reps.length (F.reps.flatMap repC) → Below W.heap.size W w3 → ∀ W', W' = w3.setCell ⟨ab, 9, none⟩ u → ∀ (u0 u1 u4 u5 u6 u7 u8 u9 u10 u11 u12 u13 u14 u15 u16 u17 u18 u19 u20 u21 u22 u23 u24 u25 u26 u27 u28 u29 u30 u31 u32 u33 u34 u35 u36 u37 u38 u39 u40 u41 u42 u43 u44 u45 u46 u47 u48 u49 u50 u51 u52 u53 u54 u55 u56 u57 u58 u59 u60 u61 u62 u63 : Value), Code.wp Tryz.prog ax5 (bodyPost Tryz.prog Tryz.f16 (AxRes w F)) ⟨#[u0, u1, .pointer (some ⟨rs, 0, none⟩), .pointer (some ⟨ab, 0, none⟩), u4, u5, u6, u7, u8, u9, u10, u11, u12, u13, u14, u15, u16, u17, u18, u19, u20, u21, u22, u23, u24, u25, u26, u27, u28, u29, u30, u31, u32, u33, u34, u35, u36, u37, u38, u39, u40, u41, u42, u43, u44, u45, u46, u47, u48, u49, u50, u51, u52, u53, u54, u55, u56, u57, u58, u59, u60, u61, u62, u63], []⟩ W') := by
    intro w3 u o3 b3 W' hW u0 u1 u4 u5 u6 u7 u8 u9 u10 u11 u12 u13 u14 u15 u16 u17 u18 u19 u20 u21 u22 u23 u24 u25 u26 u27 u28 u29 u30 u31 u32 u33 u34 u35 u36 u37 u38 u39 u40 u41 u42 u43 u44 u45 u46 u47 u48 u49 u50 u51 u52 u53 u54 u55 u56 u57 u58 u59 u60 u61 u62 u63
    subst hW
    have kq : Kq ([] : List TypeId) noM W w3 := Kq.below b3
    obtain ⟨hX', k2⟩ := (hX.kq kq (by simp) (b3.mono hn0)).turn (vr' := u) (va' := va) (vc' := vc) (vu' := vu) 9 u rfl
    have hr : RepR w.heap.size w3 F u := own_low o3 hn0
    exact ax5_go hX' (hr.kq k2 (by decide)) ((h2.kq kq (by simp) (by simp)).kq k2 (by decide) (by decide)) ((h3.kq kq (by simp)).kq k2 (by decide)) ((h4.kq kq (by simp) (by simp)).kq k2 (by decide) (by decide)) hcn hS ok u0 u1 u4 u5 u6 u7 u8 u9 u10 u11 u12 u13 u14 u15 u16 u17 u18 u19 u20 u21 u22 u23 u24 u25 u26 u27 u28 u29 u30 u31 u32 u33 u34 u35 u36 u37 u38 u39 u40 u41 u42 u43 u44 u45 u46 u47 u48 u49 u50 u51 u52 u53 u54 u55 u56 u57 u58 u59 u60 u61 u62 u63
  have HCODE : ax4 = Code.seq (match ax4 with | .seq a _ => a | c => c) ax5 := by kernel_rfl
  rw [HCODE]
  clear HCODE
  refine wp_seq_k (fun KE hKE => ?_)
  conv => arg 2; whnf
  have cc : W.cell? ⟨ab, 9, none⟩ = some vr := by simp [World.cell?, hX.hab, axL]
  have habl := lt_some hX.hab
  obtain ⟨au, cu, eu⟩ := own_slice h1
  have HCL := hide (clone_rep h1 (rep_one _) (by have := ok.reps; omega))
  have HAB : Hid (∀ w3, Below W.heap.size W w3 → w3.cell? ⟨ab, 9, none⟩ = some vr ∧ w3.frozen? ⟨ab, 9, none⟩ = false ∧ ab < w3.heap.size) := fun w3 b3 => by
    have := (below_kept b3 _ _ hX.hab).trans hX.hab
    exact ⟨by simp [World.cell?, this, axL], by simp [World.frozen?, this], lt_some this⟩
  have HKE := hide hKE
  subst eu
  clear hX h1 h2 h3 h4 hS hKE hn0 ok
  go_wp2_with (go_at_call 29; refine (unhide HCL).mono ?_; rintro e w3 ⟨u, rfl, o3, b3⟩; obtain ⟨x1, x2, x3⟩ := unhide HAB _ b3; have HNX := hide (unhide HEND _ _ o3 b3 _ rfl); obtain ⟨au3, cu3, rfl⟩ := own_slice o3; clear o3 b3)
  apply unhide HKE
  exact unhide HNX _ _ _ _ _ _ _ _ _ _ _ _ _ _ _ _ _ _ _ _ _ _ _ _ _ _ _ _ _ _ _ _ _ _ _ _ _ _ _ _ _ _ _ _ _ _ _ _ _ _ _ _ _ _ _ _ _ _ _ _ _ _
noncomputable def ax3 : Code := dropSeq 2 (Tryz.f16.body.getD .skip)
set_option maxRecDepth 100000 in
set_option maxHeartbeats 4000000 in
theorem Affixes_any {B : Nat} {w : World} {F : Fil} {P : Pts} (h : FAt B w F P) (hS : Np Sd F) (hcn : F.classes.length ≤ 1048577) : Calls Tryz.prog 16 #[.pointer (some ⟨P.fb, 0, none⟩)] w (AxRes w F) := by
  have b1 := (Below.refl w.heap.size w).alloc (Nat.le_refl _) (.cells #[.int .i64 0, .string ⟨#[]⟩, .string ⟨#[]⟩, .int .u16 0, .int .u16 0, .int .u16 0, .int .u16 0, .int .u16 0, .int .i64 0, .slice none 0 0, .slice none 0 0, .slice none 0 0, .slice none 0 0] TA)
  have b2 := b1.alloc b1.size (.cells (axL F P.vr P.va P.vc P.vu).toArray TA)
  have h2 := h.below b2
  have HEND : Hid (∀ (u0 u1 u4 u5 u6 u7 u8 u9 u10 u11 u12 u13 u14 u15 u16 u17 u18 u19 u20 u21 u22 u23 u24 u25 u26 u27 u28 u29 u30 u31 u32 u33 u34 u35 u36 u37 u38 u39 u40 u41 u42 u43 u44 u45 u46 u47 u48 u49 u50 u51 u52 u53 u54 u55 u56 u57 u58 u59 u60 u61 u62 u63 : Value), Code.wp Tryz.prog ax4 (bodyPost Tryz.prog Tryz.f16 (AxRes w F)) ⟨#[u0, u1, .pointer (some ⟨w.heap.size, 0, none⟩), .pointer (some ⟨w.heap.size + 1, 0, none⟩), u4, u5, u6, u7, u8, u9, u10, u11, u12, u13, u14, u15, u16, u17, u18, u19, u20, u21, u22, u23, u24, u25, u26, u27, u28, u29, u30, u31, u32, u33, u34, u35, u36, u37, u38, u39, u40, u41, u42, u43, u44, u45, u46, u47, u48, u49, u50, u51, u52, u53, u54, u55, u56, u57, u58, u59, u60, u61, u62, u63], []⟩ ((w.alloc (.cells #[.int .i64 0, .string ⟨#[]⟩, .string ⟨#[]⟩, .int .u16 0, .int .u16 0, .int .u16 0, .int .u16 0, .int .u16 0, .int .i64 0, .slice none 0 0, .slice none 0 0, .slice none 0 0, .slice none 0 0] TA)).alloc (.cells (axL F P.vr P.va P.vc P.vu).toArray TA))) := by
    intro u0 u1 u4 u5 u6 u7 u8 u9 u10 u11 u12 u13 u14 u15 u16 u17 u18 u19 u20 u21 u22 u23 u24 u25 u26 u27 u28 u29 u30 u31 u32 u33 u34 u35 u36 u37 u38 u39 u40 u41 u42 u43 u44 u45 u46 u47 u48 u49 u50 u51 u52 u53 u54 u55 u56 u57 u58 u59 u60 u61 u62 u63
    have n1 := alloc_heap1 (alloc_new w (.cells #[.int .i64 0, .string ⟨#[]⟩, .string ⟨#[]⟩, .int .u16 0, .int .u16 0, .int .u16 0, .int .u16 0, .int .u16 0, .int .i64 0, .slice none 0 0, .slice none 0 0, .slice none 0 0, .slice none 0 0] TA)) (.cells (axL F P.vr P.va P.vc P.vu).toArray TA)
    have n2 := alloc_new (w.alloc (.cells #[.int .i64 0, .string ⟨#[]⟩, .string ⟨#[]⟩, .int .u16 0, .int .u16 0, .int .u16 0, .int .u16 0, .int .u16 0, .int .i64 0, .slice none 0 0, .slice none 0 0, .slice none 0 0, .slice none 0 0] TA)) (.cells (axL F P.vr P.va P.vc P.vu).toArray TA)
    simp only [World.size_alloc] at n2
    exact ax4_go ⟨b2, n1, Nat.le_refl _, n2, Nat.le_succ _, by omega⟩ (own_low h2.reps (Nat.zero_le _)) ⟨own_low h2.alis (Nat.zero_le _), h2.aliF.1, fun i u a q1 q2 => by rw [if_neg (Nat.not_lt_zero _)]; exact (h2.aliF.2 i u a q1 q2).low (Nat.zero_le _)⟩ (own_low h2.clss (Nat.zero_le _)) ⟨own_low h2.ruls (Nat.zero_le _), h2.rulF.1, fun i u a q1 q2 => by rw [if_neg (Nat.not_lt_zero _)]; exact (h2.rulF.2 i u a q1 q2).low (Nat.zero_le _)⟩ hcn hS h.ok u0 u1 u4 u5 u6 u7 u8 u9 u10 u11 u12 u13 u14 u15 u16 u17 u18 u19 u20 u21 u22 u23 u24 u25 u26 u27 u28 u29 u30 u31 u32 u33 u34 u35 u36 u37 u38 u39 u40 u41 u42 u43 u44 u45 u46 u47 u48 u49 u50 u51 u52 u53 u54 u55 u56 u57 u58 u59 u60 u61 u62 u63
  have hf := h.fil
  have e0 : w.cell? ⟨P.fb, 0, none⟩ = some (.int .i64 F.kind) := by simp [World.cell?, hf, filC]
  have HCE : Hid (∀ k, k < 13 → w.cell? ⟨P.fb, k, none⟩ = (axL F P.vr P.va P.vc P.vu)[k]?) := by
    intro k hk
    unfold World.cell?
    simp only
    rw [hf]
    simp only [filC, axL]
    match k, hk with
    | 0, _ | 1, _ | 2, _ | 3, _ | 4, _ | 5, _ | 6, _ | 7, _ | 8, _ | 9, _ | 10, _ | 11, _ | 12, _ => rfl
  obtain ⟨ar, cr, er⟩ := own_slice h.reps
  obtain ⟨aa, ca, ea⟩ := own_slice h.alis
  obtain ⟨ac, cc, ec⟩ := own_slice h.clss
  obtain ⟨au, cu, eu⟩ := own_slice h.ruls
  have hlt := h.lt
  obtain ⟨s0, e0⟩ : ∃ x, F.specials.getD 0 0 = x := ⟨_, rfl⟩
  obtain ⟨s1, e1⟩ : ∃ x, F.specials.getD 1 0 = x := ⟨_, rfl⟩
  obtain ⟨s2, e2⟩ : ∃ x, F.specials.getD 2 0 = x := ⟨_, rfl⟩
  obtain ⟨s3, e3⟩ : ∃ x, F.specials.getD 3 0 = x := ⟨_, rfl⟩
  obtain ⟨s4, e4⟩ : ∃ x, F.specials.getD 4 0 = x := ⟨_, rfl⟩
  have HEQ : axL F P.vr P.va P.vc P.vu = [.int .i64 F.kind, .string (Wd.str F.charset), .string (Wd.str F.letters), .int .u16 s0, .int .u16 s1, .int .u16 s2, .int .u16 s3, .int .u16 s4, .int .i64 (F.least : Nat), .slice ar F.reps.length cr, .slice aa F.aliases.length ca, .slice ac F.classes.length cc, .slice au F.rules.length cu] := by
    rw [axL, e0, e1, e2, e3, e4, er, ea, ec, eu]
  rw [HEQ] at HCE HEND
  have q0 := unhide HCE 0 (by decide)
  have q1 := unhide HCE 1 (by decide)
  have q2 := unhide HCE 2 (by decide)
  have q3 := unhide HCE 3 (by decide)
  have q4 := unhide HCE 4 (by decide)
  have q5 := unhide HCE 5 (by decide)
  have q6 := unhide HCE 6 (by decide)
  have q7 := unhide HCE 7 (by decide)
  have q8 := unhide HCE 8 (by decide)
  have q9 := unhide HCE 9 (by decide)
  have q10 := unhide HCE 10 (by decide)
  have q11 := unhide HCE 11 (by decide)
  have q12 := unhide HCE 12 (by decide)
  simp only [List.getElem?_cons_zero, List.getElem?_cons_succ] at q0 q1 q2 q3 q4 q5 q6 q7 q8 q9 q10 q11 q12
  clear HEQ HCE er ea ec eu e0 e1 e2 e3 e4 h h2 b1 b2 hf hcn hS
  go_enter Tryz.func16, Tryz.ntmps16
  have HCODE : ax3 = Code.seq (match ax3 with | .seq a _ => a | c => c) ax4 := by kernel_rfl
  change Code.wp _ (Code.seq _ (Code.seq _ ax3)) _ _ _
  refine wp_seq_k (fun K1 hK1 => ?_)
  have HK1 := hide hK1
  clear hK1
  go_wp2
  apply unhide HK1
  refine wp_seq_k (fun K2 hK2 => ?_)
  have HK2 := hide hK2
  clear hK2 HK1
  go_wp2
  apply unhide HK2
  rw [HCODE]
  clear HCODE HK2
  refine wp_seq_k (fun K3 hK3 => ?_)
  have HK3 := hide hK3
  clear hK3
  conv => arg 2; whnf
  go_wp2
  apply unhide HK3
  exact unhide HEND _ _ _ _ _ _ _ _ _ _ _ _ _ _ _ _ _ _ _ _ _ _ _ _ _ _ _ _ _ _ _ _ _ _ _ _ _ _ _ _ _ _ _ _ _ _ _ _ _ _ _ _ _ _ _ _ _ _ _ _ _ _
end Af
end Go.Proofs.YtlmahoogkogpdaaGreatDoor
/- The file whose reading the document fixes. -/
namespace Go.Proofs.YtlmahoogkogpdaaGreatDoor
open Go.RowKit
namespace Af
def wkT : Bs := [83, 70, 88, 32, 65, 32, 89, 32, 49, 10, 83, 70, 88, 32, 65, 32, 121, 32, 105, 101, 115, 32, 91, 94, 97, 101, 105, 111, 117, 93, 121, 10]
def wkF : Fil := ⟨1, [], [], [0, 0, 0, 0, 0], 3, [], [], [⟨65, 2, true, 0, 1⟩], [⟨2, 65, true, [121], [105, 101, 115], [91, 94, 97, 101, 105, 111, 117, 93, 121], [], 2⟩]⟩
theorem wk_aff : affR wkT = .ok wkF := by kernel_rfl
end Af
end Go.Proofs.YtlmahoogkogpdaaGreatDoor
/- The calls of a nil file. -/
namespace Go.Proofs.YtlmahoogkogpdaaGreatDoor
open Go.RowKit
namespace Af
def zA : Value := .agg #[.int .i64 0, .string ⟨#[]⟩, .string ⟨#[]⟩, .int .u16 0, .int .u16 0, .int .u16 0, .int .u16 0, .int .u16 0, .int .i64 0, .slice none 0 0, .slice none 0 0, .slice none 0 0, .slice none 0 0]
def zC : Value := .agg #[.int .u16 0, .int .i64 0, .bool false, .int .i64 0, .int .i64 0]
theorem nil_flags (s : ByteArray) (w : World) : Calls Tryz.prog 9 #[.pointer none, .string s] w fun e w' => e = .returned (.tuple #[.slice none 0 0, .int .i64 1]) ∧ w' = w := by
  go_enter Tryz.func9, Tryz.ntmps9
  go_wp2
  refine bodyPost_ret (v := .tuple #[.slice none 0 0, .int .i64 1]) (by simp [results, Tryz.results9, go_sem]) rfl ⟨rfl, rfl⟩
theorem nil_write (f : Value) (w : World) : Calls Tryz.prog 8 #[.pointer none, f] w fun e w' => e = .returned (.tuple #[.string ⟨#[]⟩, .int .i64 1]) ∧ w' = w := by
  go_enter Tryz.func8, Tryz.ntmps8
  go_wp2
  refine bodyPost_ret (v := .tuple #[.string ⟨#[]⟩, .int .i64 1]) (by simp [results, Tryz.results8, go_sem]) rfl ⟨rfl, rfl⟩
theorem nil_class (x : Value) (w : World) : Calls Tryz.prog 86 #[.pointer none, x] w fun e w' => e = .returned (.tuple #[zC, .bool false]) ∧ Below w.heap.size w w' := by
  go_enter Tryz.func86, Tryz.ntmps86
  go_wp2
  refine bodyPost_ret (v := .tuple #[.agg #[.int .u16 0, .int .i64 0, .bool false, .int .i64 0, .int .i64 0], .bool false]) (by simp [results, Tryz.results86, go_sem]) rfl ⟨rfl, ?_⟩
  (repeat (first | exact Below.refl _ _ | refine Below.drew ?_ | refine Below.alloc ?_ (by first | (simp; done) | (simp; omega)) _ | refine Below.setCell ?_ (by first | (simp; done) | (simp; omega)) _))
theorem nil_affixes (w : World) : Calls Tryz.prog 16 #[.pointer none] w fun e w' => e = .returned zA ∧ Below w.heap.size w w' := by
  go_enter Tryz.func16, Tryz.ntmps16
  go_wp2
  refine bodyPost_ret (v := zA) (by simp [zA, results, Tryz.results16, go_sem]) rfl ⟨rfl, ?_⟩
  (repeat (first | exact Below.refl _ _ | refine Below.drew ?_ | refine Below.alloc ?_ (by first | (simp; done) | (simp; omega)) _ | refine Below.setCell ?_ (by first | (simp; done) | (simp; omega)) _))
end Af
end Go.Proofs.YtlmahoogkogpdaaGreatDoor
/- Five flags beside five flags. -/
namespace Go.Proofs.YtlmahoogkogpdaaGreatDoor
open Go.RowKit
namespace Af

theorem eq_item (w : World) (d : Nat) (xs ys : Array Value) (i : Nat) (is : List Nat) (a b : Int) (ha : xs[i]? = some (.int .u16 a)) (hb : ys[i]? = some (.int .u16 b)) :
    (Op.eqItems (d + 1) 45 1 xs ys (i :: is)).run Tryz.prog w = if a = b then (Op.eqItems (d + 1) 45 1 xs ys is).run Tryz.prog w else .ok false w := by
  have hp : Tryz.prog.plainKey 45 = true := by kernel_rfl
  simp only [Op.eqItems, Sem.run_bind, Nat.mul_one, run_part_plain w hp ha, run_part_plain w hp hb, Result.andThen_ok, run_equalIn_int w d 45 .u16 .u16 a b Tryz.underlying45]
  by_cases h : a = b <;> simp [h]
theorem eq55 (w : World) (a0 a1 a2 a3 a4 b0 b1 b2 b3 b4 : Int) :
    (Op.equalIn 10000 46 (.agg #[.int .u16 a0, .int .u16 a1, .int .u16 a2, .int .u16 a3, .int .u16 a4]) (.agg #[.int .u16 b0, .int .u16 b1, .int .u16 b2, .int .u16 b3, .int .u16 b4])).run Tryz.prog w = .ok (decide (a0 = b0 ∧ a1 = b1 ∧ a2 = b2 ∧ a3 = b3 ∧ a4 = b4)) w := by
  obtain ⟨i, hi, hz⟩ := Option.map_eq_some_iff.1 So.infoF
  rw [run_equalIn_array w 9999 _ _ (show Tryz.prog.underlying 46 = some (.array 5 45) by kernel_rfl) hi]
  rw [show Tryz.prog.cellsOf 45 = 1 by kernel_rfl, show List.range 5 = [0, 1, 2, 3, 4] from rfl]
  rw [eq_item w _ _ _ 0 _ a0 b0 rfl rfl, eq_item w _ _ _ 1 _ a1 b1 rfl rfl, eq_item w _ _ _ 2 _ a2 b2 rfl rfl, eq_item w _ _ _ 3 _ a3 b3 rfl rfl, eq_item w _ _ _ 4 _ a4 b4 rfl rfl]
  by_cases h0 : a0 = b0 <;> by_cases h1 : a1 = b1 <;> by_cases h2 : a2 = b2 <;> by_cases h3 : a3 = b3 <;> by_cases h4 : a4 = b4 <;> simp [h0, h1, h2, h3, h4, Op.eqItems]
end Af
end Go.Proofs.YtlmahoogkogpdaaGreatDoor
/- The law wakes. -/
namespace Go.Proofs.YtlmahoogkogpdaaGreatDoor
open Go.RowKit
namespace Af
open RowB
/-- what is fixed of the file's reading -/
theorem wk_ax {n : Nat} {W : World} {v : Value} (h : AxV n W wkF v) : ∃ ar nr cr aa na ca ac cc g cap, v = .agg #[.int .i64 1, .string ⟨#[]⟩, .string ⟨#[]⟩, .int .u16 0, .int .u16 0, .int .u16 0, .int .u16 0, .int .u16 0, .int .i64 3, .slice ar nr cr, .slice aa na ca, .slice ac 1 cc, .slice (some ⟨g, 0, none⟩) 1 cap] ∧ n ≤ g ∧ g < W.heap.size ∧ W.cell? ⟨g, 4, none⟩ = some (.string ⟨#[105, 101, 115]⟩) := by
  obtain ⟨vr, va, vc, vu, av, nv, rfl, h1, ⟨h2, h3, -⟩, h4, ⟨h5, h6, -⟩⟩ := h
  obtain ⟨ar, cr, rfl⟩ := own_slice h1
  obtain ⟨aa, ca, rfl⟩ := own_slice h2
  obtain ⟨ac, cc, rfl⟩ := own_slice h4
  obtain ⟨g, cap, e1, hgB, hg, hcap, hmx, -, hcl⟩ := own_at h5 (by decide)
  have hcl4 := hcl 4 (by decide)
  match nv, h6 with
  | [u], _ =>
    subst e1
    exact ⟨ar, _, cr, aa, _, ca, ac, cc, g, cap, rfl, hgB, hg, hcl4⟩
set_option maxRecDepth 100000 in
set_option maxHeartbeats 4000000 in
theorem wakes_any (w : World) (hM : Mx w.heap.size w) : Calls Tryz.prog 6 #[] w fun e w' => e = .returned (.bool true) ∧ Below w.heap.size w w' := by
  have HR : Hid (Calls Tryz.prog 7 #[.string ⟨#[83, 70, 88, 32, 65, 32, 89, 32, 49, 10, 83, 70, 88, 32, 65, 32, 121, 32, 105, 101, 115, 32, 91, 94, 97, 101, 105, 111, 117, 93, 121, 10]⟩] w fun e w' => Below w.heap.size w w' ∧ ∃ f, e = .returned (.tuple #[.pointer (some ⟨f, 0, none⟩), .agg #[.int .i64 0, .int .i64 0, .int .i64 0]]) ∧ Hid (∀ W, Below w'.heap.size w' W → Calls Tryz.prog 16 #[.pointer (some ⟨f, 0, none⟩)] W fun e W' => Below w.heap.size w W' ∧ ∃ ar nr cr aa na ca ac cc g cap, e = .returned (.agg #[.int .i64 1, .string ⟨#[]⟩, .string ⟨#[]⟩, .int .u16 0, .int .u16 0, .int .u16 0, .int .u16 0, .int .u16 0, .int .i64 3, .slice ar nr cr, .slice aa na ca, .slice ac 1 cc, .slice (some ⟨g, 0, none⟩) 1 cap]) ∧ g < W'.heap.size ∧ W'.cell? ⟨g, 4, none⟩ = some (.string ⟨#[105, 101, 115]⟩))) := by
    refine (Read_any _ w hM).mono ?_
    rintro e w' ⟨b, h⟩
    have hk : affR (⟨#[83, 70, 88, 32, 65, 32, 89, 32, 49, 10, 83, 70, 88, 32, 65, 32, 121, 32, 105, 101, 115, 32, 91, 94, 97, 101, 105, 111, 117, 93, 121, 10]⟩ : ByteArray).data.toList = .ok wkF := wk_aff
    rw [hk] at h
    obtain ⟨B, P, hB, rfl, hF⟩ := h
    refine ⟨b, _, rfl, fun W bW => ?_⟩
    refine (Affixes_any (hF.below bW) (affR_sets wk_aff) (by decide)).mono ?_
    rintro e W' ⟨b2, v, rfl, hv⟩
    obtain ⟨ar, nr, cr, aa, na, ca, ac, cc, g, cap, rfl, -, k1, k2⟩ := wk_ax hv
    exact ⟨b.trans ((bW.trans (b2.mono bW.size)).mono b.size), ar, nr, cr, aa, na, ca, ac, cc, g, cap, rfl, k1, k2⟩
  clear hM
  go_enter Tryz.func6, Tryz.ntmps6
  go_wp2_with (first
    | (go_at_call 7; refine (unhide HR).mono ?_; rintro e w1 ⟨b1, f, rfl, HA⟩; have HB1 := hide b1; clear b1)
    | (go_at_call 16; refine (unhide HA _ (by (repeat (first | exact Below.refl _ _ | refine Below.drew ?_ | refine Below.alloc ?_ (by first | (simp; done) | (simp; omega)) _ | refine Below.setCell ?_ (by first | (simp; done) | (simp; omega)) _)))).mono ?_; rintro e w2 ⟨b2, ar, nr, cr, aa, na, ca, ac, cc, g, cap, rfl, hg, hc⟩; have HB2 := hide b2; clear b2))
  go_ret
  exact ⟨rfl, (unhide HB2).alloc (unhide HB2).size _⟩
set_option maxRecDepth 100000 in
set_option maxHeartbeats 4000000 in
theorem equal_zero (w : World) : Calls Tryz.prog 15 #[.agg #[.int .i64 0, .string ⟨#[]⟩, .string ⟨#[]⟩, .int .u16 0, .int .u16 0, .int .u16 0, .int .u16 0, .int .u16 0, .int .i64 0, .slice none 0 0, .slice none 0 0, .slice none 0 0, .slice none 0 0], .agg #[.int .i64 0, .string ⟨#[]⟩, .string ⟨#[]⟩, .int .u16 0, .int .u16 0, .int .u16 0, .int .u16 0, .int .u16 0, .int .i64 0, .slice none 0 0, .slice none 0 0, .slice none 0 0, .slice none 0 0]] w fun e w' => e = .returned (.bool true) ∧ Below w.heap.size w w' := by
  have HE := fun W => eq55 W 0 0 0 0 0 0 0 0 0 0
  simp only [and_self, decide_true] at HE
  go_enter Tryz.func15, Tryz.ntmps15
  go_wp2_with (fail)
  go_loop [81] (fun s => s = .int .i64 0) (fun _ => 0)
  case atStart => rfl
  case round =>
    subst hrel
    go_wp2_with (fail)
    go_loop [99] (fun s => s = .int .i64 0) (fun _ => 0)
    case atStart => rfl
    case round =>
      subst hrel
      go_wp2_with (fail)
      go_loop [119] (fun s => s = .int .i64 0) (fun _ => 0)
      case atStart => rfl
      case round =>
        subst hrel
        go_wp2_with (fail)
        go_loop [137] (fun s => s = .int .i64 0) (fun _ => 0)
        case atStart => rfl
        case round =>
          subst hrel
          go_wp2_with (fail)
          go_ret
          exact ⟨rfl, by (repeat (first | exact Below.refl _ _ | refine Below.drew ?_ | refine Below.alloc ?_ (by first | (simp; done) | (simp; omega)) _ | refine Below.setCell ?_ (by first | (simp; done) | (simp; omega)) _))⟩
end Af
end Go.Proofs.YtlmahoogkogpdaaGreatDoor
