/- Layer 7: the document's Replace, Drain; the laws' like, alike. -/
import Derived.Test.YtddfljlecnllaaaKf
namespace Go.Proofs.Ytddfljlecnllaaa
open Go.RowKit
namespace Hp
theorem rpop_end {w : World} {rb : Nat} {F : Nat → Prop} (h : RAt w rb [] F) :
    Calls Try.prog 30 #[.pointer (some ⟨rb, 0, none⟩)] w fun e w' => e = .returned (.tuple #[.agg #[.int .i64 0, .int .i64 0], .bool false]) ∧ RRes F w rb [] w' := by
  obtain ⟨rv, h⟩ := h
  refine (rpop_none h).mono ?_
  rintro e w' ⟨rfl, hb⟩
  exact ⟨rfl, RRes.of ⟨rv, h.below hb⟩ (fun _ hb => .inl hb) (Chg.of_below hb) h.lt⟩
theorem rpop_go {w : World} {rb : Nat} {I J : List It} {x : It} {F : Nat → Prop} (h : RAt w rb I F) (hz : I.length ≤ 1099511627776) (hp : pop rise_ I = some (x, J)) :
    Calls Try.prog 30 #[.pointer (some ⟨rb, 0, none⟩)] w fun e w' => e = .returned (.tuple #[.agg #[.int .i64 x.1, .int .i64 x.2], .bool true]) ∧ RRes F w rb J w' := by
  obtain ⟨rv, h⟩ := h
  exact rpop_some h hz hp
set_option maxRecDepth 100000 in
set_option maxHeartbeats 2000000 in
theorem rreplace_any {w : World} {rb : Nat} {J : List It} {y x : It} {ok : Bool} {F : Nat → Prop} (hF : ∀ b, F b → b < w.heap.size) (hz : J.length ≤ 1099511627776)
    (hp : ∀ W, Below w.heap.size w W → Calls Try.prog 30 #[.pointer (some ⟨rb, 0, none⟩)] W fun e w' => e = .returned (.tuple #[.agg #[.int .i64 y.1, .int .i64 y.2], .bool ok]) ∧ RRes F W rb J w') :
    Calls Try.prog 35 #[.pointer (some ⟨rb, 0, none⟩), .agg #[.int .i64 x.1, .int .i64 x.2]] w fun e w' => e = .returned (.tuple #[.agg #[.int .i64 y.1, .int .i64 y.2], .bool ok]) ∧ RRes F w rb (J ++ [x]) w' := by
  have HPP : Hid (∀ o1 o2 : Obj, Calls Try.prog 30 #[.pointer (some ⟨rb, 0, none⟩)] ((w.alloc o1).alloc o2) fun e w' => e = .returned (.tuple #[.agg #[.int .i64 y.1, .int .i64 y.2], .bool ok]) ∧ RRes F ((w.alloc o1).alloc o2) rb J w') := fun o1 o2 => hp _ (((Below.refl _ _).alloc (Nat.le_refl _) o1).alloc (by simp) o2)
  have HF := hide hF
  clear hp hF
  go_enter Try.func35, Try.ntmps35
  go_wp2_with fail
  refine (unhide HPP _ _).mono ?_
  rintro e w1 ⟨rfl, r1, c1⟩
  obtain ⟨n1, n2⟩ := new2 w #[.int .i64 x.1, .int .i64 x.2] #[.int .i64 0, .int .i64 0] 43 43
  have g1 := (c1.block w.heap.size (by simp; omega) (fun e => by have := unhide HF _ e; omega)).trans n1
  have g2 := (c1.block (w.heap.size + 1) (by simp) (fun e => by have := unhide HF _ e; omega)).trans n2
  have hs1 : w.heap.size + 2 ≤ w1.heap.size := by have := c1.size; simp at this; omega
  have C1 : Hid (Chg F w w1) := (((Chg.refl F w).alloc _).alloc _).then c1
  have R1 : Hid (∃ G, RAt w1 rb J G ∧ ∀ b, G b → F b ∨ (w.heap.size + 2 ≤ b ∧ b < w1.heap.size)) := ⟨_, r1, fun b hb => hb.imp id fun z => ⟨by have := z.1; simp at this; omega, z.2⟩⟩
  obtain ⟨i0, i1, jf, il⟩ := cells2 g1
  have G2 := hide g2
  clear c1 r1 n1 n2 g1 g2 HPP
  obtain ⟨G, hG, hGF⟩ := unhide R1
  obtain ⟨rv, hin⟩ := hG
  have HGF := hide hGF
  have hbV : Below w1.heap.size w1 (w1.alloc (.cells #[.int .i64 y.1, .int .i64 y.2] 43)) := (Below.refl _ _).alloc (Nat.le_refl _) _
  have hinV := hin.below hbV
  obtain ⟨c0, cf, hl⟩ := dcell hinV.obj
  obtain ⟨a5, c5, W5, hap, z1, z2, z3, z4⟩ := hinV.push x hz 28
  obtain ⟨ar, cr, rfl⟩ := own_slice hin.row
  have HGL := hide hin.lt
  have ev : (w1.alloc (.cells #[.int .i64 y.1, .int .i64 y.2] 43)).heap.size = w1.heap.size + 1 := by simp
  have L2 : Hid ((w1.alloc (.cells #[.int .i64 y.1, .int .i64 y.2] 43)).heap[w1.heap.size]? = some (.cells #[.int .i64 y.1, .int .i64 y.2] 43 (0, 0))) := (MapKept.heap_alloc w1 _).1
  have HAP := hide hap
  have Z4 := hide z4
  have z2' := z2 0
  generalize J.length = M at *
  go_wp2
  refine gen_world ?_
  intro V hV
  rw [← hV] at c0 L2 Z4 ev HAP
  have EV := hide ev
  clear ev
  have hVB : Below w1.heap.size w1 V := by rw [hV]; exact hbV
  have hlV : rb < V.heap.size := by rw [hV]; exact hl
  have t0 := (hVB.cell (p := ⟨w.heap.size, 0, none⟩) il).trans i0
  have t1 := (hVB.cell (p := ⟨w.heap.size, 1, none⟩) il).trans i1
  have HVB := hide hVB
  clear hV hap z2 z4 hin hinV hbV i0 i1 jf cf hVB hGF R1
  go_region_law (first | (refine step_app (by rfl) _ _ _ (by rfl) _ _ _ _ (by rfl) (by rfl) (by exact unhide HAP) ?_))
  all_goals
    have ev := unhide EV
    refine gen_then ?_
    intro W hW
    have ZR : Hid (RAt W rb (J ++ [x]) (Up G V W) ∧ Chg G V W) := by rw [hW]; exact unhide Z4
    have hne : ∀ k, w.heap.size ≤ k → k < w.heap.size + 2 ∨ k = w1.heap.size → ¬ G k := fun k h1 h2 e => by
      rcases unhide HGF k e with h3 | h3
      · have := unhide HF k h3; omega
      · have := unhide HGL k e; omega
    have b1 := ((unhide ZR).2.block (w.heap.size + 1) (by omega) (hne _ (by omega) (.inl (by omega)))).trans (((unhide HVB).block _ (by omega)).trans (unhide G2))
    have b2 := ((unhide ZR).2.block w1.heap.size (by omega) (hne _ (by omega) (.inr rfl))).trans (unhide L2)
    obtain ⟨p0, p1, pf, pl⟩ := cells2 b1
    obtain ⟨l0, l1, lf, ll⟩ := cells2 b2
    clear hW b1 b2 z1 z2' z3 c0 t0 t1 HAP Z4
    go_wp2
    refine gen_post ?_
    intro V9 hV9
    have v0 : V9.cell? ⟨w.heap.size + 1, 0, none⟩ = some (.int .i64 y.1) := by rw [hV9]; go_simp
    have v1 : V9.cell? ⟨w.heap.size + 1, 1, none⟩ = some (.int .i64 y.2) := by rw [hV9]; go_simp
    have HE : Hid (RRes F w rb (J ++ [x]) V9) := by
      rw [hV9]
      have cW : Chg F w W := by
        have cV : Chg F w V := (unhide C1).then (Chg.of_below (unhide HVB))
        refine cV.trans ((unhide ZR).2.mono fun b hb => ?_)
        rcases unhide HGF b hb with h3 | h3
        · exact .inl h3
        · exact .inr ⟨by omega, by omega⟩
      refine RRes.of ((unhide ZR).1.kept (fun b hb => ?_) (fun _ z => z) (fun b hb => by simpa using (unhide ZR).1.lt b hb)) (fun b hb => ?_) ((cW.setCell (.inr (Nat.le_succ _)) _).setCell (.inr (Nat.le_succ _)) _) (unhide HF)
      · have e : b ≠ w.heap.size + 1 := fun e => by
          rcases hb with hb | hb
          · exact hne b (by omega) (.inl (by omega)) hb
          · omega
        rw [Below.heap_setCell _ _ _ _ e, Below.heap_setCell _ _ _ _ e]
      · rcases hb with hb | hb
        · rcases unhide HGF b hb with h3 | h3
          · exact .inl h3
          · exact .inr (by omega)
        · exact .inr (by omega)
    clear hV9
    exact bodyPost_ret (v := .tuple #[.agg #[.int .i64 y.1, .int .i64 y.2], .bool ok]) (by simp [results, Try.results35, go_sem, v0, v1]) rfl ⟨rfl, unhide HE⟩
end Hp
end Go.Proofs.Ytddfljlecnllaaa
