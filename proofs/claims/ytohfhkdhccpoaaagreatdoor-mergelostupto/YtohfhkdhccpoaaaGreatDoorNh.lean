/- Layer 10: the document's Merge and Sort of any outcome. -/
import Derived.Test.YtohfhkdhccpoaaaGreatDoorNg
namespace Go.Proofs.YtohfhkdhccpoaaaGreatDoor
open Go.RowKit Go.Shelf
namespace Rs
open Sm (Tx ofS)
set_option maxRecDepth 100000 in
theorem merge0_doc {w : World} {sb fan : Nat} {m : Sto} {F : Nat → Prop} {rv v : Value} {sl : Nat → Value} (h : DIn w sb m F rv sl) (hn : Nums w v (zs [])) (h2 : 2 ≤ fan) (h64 : fan ≤ 64) :
    Calls Tryz.prog 31 #[.pointer (some ⟨sb, 0, none⟩), .int .i64 fan, v] w fun e w' => e = .returned (.tuple #[.int .i64 (bat m []).2.2, .int .i64 (bat m []).1]) ∧ DRes F w sb (bat m []).2.1 w' := by
  have HLK := hide (look_doc (st := fun _ => []) h hn ⟨(fun _ q => by cases q), by simp⟩ (by simp))
  obtain ⟨cB, mB, nB, hbat⟩ : ∃ cB mB nB, bat m [] = (cB, mB, nB) := ⟨_, _, _, rfl⟩
  have HWR : Hid (∀ W, Below w.heap.size w W → Calls Tryz.prog 57 #[.pointer (some ⟨sb, 0, none⟩), .slice none 0 0] W fun e w' => e = .returned (.tuple #[.int .i64 nB, .int .i64 cB]) ∧ DRes F w sb mB w') := fun W hW => by
    refine (written_any (v := .slice none 0 0) (L := []) (din_below h hW) (fun W' _ => (Um.ownT_nil 0 W').txs) (by simp) (fun _ q => by cases q) hbat).mono ?_
    rintro e w' ⟨rfl, r⟩
    exact ⟨rfl, dres_comp h.lt (fun b q => .inl q) (Chg.of_below hW) r⟩
  rw [hbat]
  obtain ⟨ao, cap, rfl, -⟩ := hn
  rw [show (zs []).length = 0 from rfl] at HLK ⊢
  have hf1 : ¬ (fan : Int) < 2 := by omega
  have hf2 : ¬ (64 : Int) < (fan : Int) := by omega
  clear h hbat
  go_enter Tryz.func31, Tryz.ntmps31
  go_wp2_with (first
    | (go_at_call 56; refine (unhide HLK).mono ?_; rintro e w1 ⟨rfl, b1⟩; have HW1 := hide (unhide HWR w1 b1); clear b1)
    | (go_at_call 57; refine (unhide HW1).mono ?_; rintro e w2 ⟨rfl, r2⟩; have HR2 := hide r2; clear r2))
  go_ret2
  exact ⟨rfl, unhide HR2⟩
theorem merge_doc {w : World} {sb fan : Nat} {m : Sto} {F : Nat → Prop} {rv v : Value} {sl : Nat → Value} {ks : List Nat} {st : Nat → List Tx} (h : DIn w sb m F rv sl) (hn : Nums w v (zs ks)) (ho : Off F v) (hq : Qs m st ks) (h2 : 2 ≤ fan) (h64 : fan ≤ 64) (hz : ks.length ≤ 16777216) (hlen : (ks.map st).flatten.length ≤ 1048576) :
    Calls Tryz.prog 31 #[.pointer (some ⟨sb, 0, none⟩), .int .i64 fan, v] w fun e w' => e = .returned (.tuple #[.int .i64 (mrg fan m st ks).2.2, .int .i64 (mrg fan m st ks).1]) ∧ DRes F w sb (mrg fan m st ks).2.1 w' := by
  by_cases hne : ks = []
  · subst hne
    rw [show mrg fan m st [] = bat m [] from if_pos rfl]
    exact merge0_doc h hn h2 h64
  · rw [show mrg fan m st ks = mgA fan ks.length m st ks from if_neg hne]
    exact mergeA_doc h hn ho hq hne h2 h64 hz hlen
theorem gin_new {w w1 : World} {sb b : Nat} {m : Sto} {F : Nat → Prop} {rv : Value} {sl : Nat → Value} (h : DIn w sb m F rv sl) (hg : GBk w1 w.heap.size (.slice none 0 0) (.slice none 0 0) b 0) (b1 : Below w.heap.size w w1) (hs : w.heap.size < w1.heap.size) : GIn w1 sb w.heap.size m ⟨b, [], [], 0⟩ (fun x => F x ∨ x = w.heap.size) F (.slice none 0 0) (.slice none 0 0) :=
  ⟨⟨rv, sl, din_below h b1⟩, hg, ⟨rfl, .inl ⟨rfl, rfl⟩⟩, ⟨rfl, .inl ⟨rfl, rfl⟩⟩, fun _ q => .inl q, .inr rfl, fun q => by have := h.lt _ q; omega, (fun g q => by cases q), (fun g q => by cases q), fun b q => q.elim (fun z => Nat.lt_of_lt_of_le (h.lt b z) b1.size) fun z => by omega⟩
set_option maxRecDepth 100000 in
set_option maxHeartbeats 2000000 in
theorem sort_doc {w : World} {sb fan b c n : Nat} {m m' : Sto} {F : Nat → Prop} {rv v : Value} {sl : Nat → Value} {X : List Tx} (h : DIn w sb m F rv sl) (hT : Um.Txs w v X) (hv : 0 < X.length → ∀ a n c, v = .slice (some a) n c → ¬ F a.block ∧ a.block < w.heap.size) (hm : X.length ≤ 1048576) (hb1 : 1 ≤ b) (hb2 : b ≤ 65536) (h2 : 2 ≤ fan) (h64 : fan ≤ 64) (hS : Srt m b fan X c m' n) :
    Calls Tryz.prog 26 #[.pointer (some ⟨sb, 0, none⟩), .int .i64 b, .int .i64 fan, v] w fun e w' => e = .returned (.tuple #[.int .i64 (n : Nat), .int .i64 c]) ∧ DRes F w sb m' w' := by
  have hFl := h.lt
  have HNW := hide (gnew b w hb1 hb2)
  have hf1 : ¬ (fan : Int) < 2 := by omega
  have hf2 : ¬ (64 : Int) < (fan : Int) := by omega
  have hok0 : For.Ok ⟨b, [], [], 0⟩ m := ⟨hb1, hb2, (fun _ q => by cases q), Nat.zero_le _, (fun _ q => by cases q), rfl⟩
  have hF1 : ∀ x, (F x ∨ x = w.heap.size) → F x ∨ w.heap.size ≤ x := fun x q => q.elim .inl fun e => .inr (Nat.le_of_eq e.symm)
  have hTx : ∀ w1 wr, Below w.heap.size w w1 → Chg (fun x => F x ∨ x = w.heap.size) w1 wr → Um.Txs wr v X := fun w1 wr b1 c => by
    obtain ⟨ao, cap, e, q1, q2, q3⟩ := hT.below b1
    refine ⟨ao, cap, e, q1, q2, fun h0 => ?_⟩
    obtain ⟨g, off, e1, hg, hc⟩ := q3 h0
    obtain ⟨v1, v2⟩ := hv h0 ⟨g, off, none⟩ _ _ (by rw [e, e1])
    refine ⟨g, off, e1, Nat.lt_of_lt_of_le hg c.size, fun j x hj => (World.cell?_of_block (a := ⟨g, off + j, none⟩) (c.block g hg fun q => ?_)).trans (hc j x hj)⟩
    rcases q with q | q
    · exact v1 q
    · simp only at v2; omega
  cases hS with
  | long hl =>
    have HAD : Hid (∀ w1, GBk w1 w.heap.size (.slice none 0 0) (.slice none 0 0) b 0 → Below w.heap.size w w1 → Calls Tryz.prog 50 #[.pointer (some ⟨sb, 0, none⟩), .pointer (some ⟨w.heap.size, 0, none⟩), v] w1 fun e w' => e = .returned (.int .i64 10) ∧ DRes F w sb m w') := fun w1 hg b1 => by
      refine (add_doclong hg (hT.below b1) (by omega) hl).mono ?_
      rintro e w' ⟨rfl, rfl⟩
      exact ⟨rfl, dres_mk hFl b1 (Chg.refl (fun x => F x ∨ x = w.heap.size) _) hF1 (din_below h b1) fun b q => .inl (.inl q)⟩
    obtain ⟨ao, cap, rfl, -⟩ := hT
    clear h hv hok0 hTx hl hF1 hFl
    go_enter Tryz.func26, Tryz.ntmps26
    go_wp2_with fail
    refine (unhide HNW).mono ?_
    rintro e w1 ⟨rfl, hg, b1, hs1⟩
    have HA := hide (unhide HAD w1 hg b1)
    clear hg b1 hs1 HAD HNW
    go_wp2_with fail
    refine (unhide HA).mono ?_
    rintro e w2 ⟨rfl, r2⟩
    have HR := hide r2
    clear r2 HA
    go_wp2
    go_ret2
    exact ⟨rfl, unhide HR⟩
  | @add c1 m1 f1 hl hA hc =>
    have HAD : Hid (∀ w1, GBk w1 w.heap.size (.slice none 0 0) (.slice none 0 0) b 0 → Below w.heap.size w w1 → w.heap.size < w1.heap.size → Calls Tryz.prog 50 #[.pointer (some ⟨sb, 0, none⟩), .pointer (some ⟨w.heap.size, 0, none⟩), v] w1 fun e w' => e = .returned (.int .i64 c) ∧ DRes F w sb m' w') := fun w1 hg b1 hs => by
      refine (add_doc (gin_new h hg b1 hs) hok0 hb1 (fun wr c => hTx w1 wr b1 c) (by omega) (long_no hl) c m' f1 hA).mono ?_
      rintro e w2 ⟨rfl, hch, ⟨e0, _⟩ | ⟨_, hdd⟩⟩
      · exact absurd e0 hc
      · obtain ⟨S, rv2, sl2, d1, d2, _⟩ := hdd.sto
        exact ⟨rfl, dres_mk hFl b1 hch hF1 d1 d2⟩
    have hcz : ((c : Int) != 0) = true := by simpa using hc
    obtain ⟨ao, cap, rfl, -⟩ := hT
    clear h hv hok0 hTx hl hA hF1 hFl hc
    go_enter Tryz.func26, Tryz.ntmps26
    go_wp2_with fail
    refine (unhide HNW).mono ?_
    rintro e w1 ⟨rfl, hg, b1, hs1⟩
    have HA := hide (unhide HAD w1 hg b1 hs1)
    clear hg b1 hs1 HAD HNW
    go_wp2_with fail
    refine (unhide HA).mono ?_
    rintro e w2 ⟨rfl, r2⟩
    have HR := hide r2
    clear r2 HA
    go_wp2
    go_ret2
    exact ⟨rfl, unhide HR⟩
  | @fin c1 m1 m2 f1 f2 hl hA hR hc =>
    have hok1 := addsx_ok X m ⟨b, [], [], 0⟩ hok0 hb1 (long_no hl) (by rw [hA])
    rw [hA] at hok1
    have HAD : Hid (∀ w1, GBk w1 w.heap.size (.slice none 0 0) (.slice none 0 0) b 0 → Below w.heap.size w w1 → w.heap.size < w1.heap.size → Calls Tryz.prog 50 #[.pointer (some ⟨sb, 0, none⟩), .pointer (some ⟨w.heap.size, 0, none⟩), v] w1 fun e w2 => e = .returned (.int .i64 0) ∧ Hid (Calls Tryz.prog 51 #[.pointer (some ⟨sb, 0, none⟩), .pointer (some ⟨w.heap.size, 0, none⟩)] w2 fun e w3 => ∃ a k d, e = .returned (.tuple #[.slice a k d, .int .i64 c]) ∧ DRes F w sb m' w3)) := fun w1 hg b1 hs => by
      refine (add_doc (gin_new h hg b1 hs) hok0 hb1 (fun wr c => hTx w1 wr b1 c) (by omega) (long_no hl) 0 m1 f1 hA).mono ?_
      rintro e w2 ⟨rfl, hch, ⟨_, S2, hv2, mv2, g2⟩ | ⟨u3, _⟩⟩
      · refine ⟨rfl, (finish_docf g2 hok1.1 hok1.2.1 c m' f2 hR hc).mono ?_⟩
        rintro e w3 ⟨a, k, d, rfl, hch3, ⟨e0, _⟩ | ⟨_, hdd⟩⟩
        · exact absurd e0 hc
        · obtain ⟨S, rv2, sl2, d1, d2, _⟩ := hdd.sto
          have b2 : Chg (fun x => F x ∨ x = w.heap.size) w1 w3 := hch.trans hch3
          refine ⟨a, k, d, rfl, dres_mk hFl b1 b2 hF1 d1 fun x q => ?_⟩
          have s1 := hch.size
          have s2 := hch3.size
          rcases d2 x q with (z | z) | z
          · exact .inl z
          · exact .inr ⟨z.1, by omega⟩
          · exact .inr ⟨by omega, z.2⟩
      · exact absurd rfl u3
    have hcz : ((c : Int) != 0) = true := by simpa using hc
    obtain ⟨ao, cap, rfl, -⟩ := hT
    clear h hv hok0 hTx hl hA hR hok1 hF1 hFl hc
    go_enter Tryz.func26, Tryz.ntmps26
    go_wp2_with fail
    refine (unhide HNW).mono ?_
    rintro e w1 ⟨rfl, hg, b1, hs1⟩
    have HA := hide (unhide HAD w1 hg b1 hs1)
    clear hg b1 hs1 HAD HNW
    go_wp2_with fail
    refine (unhide HA).mono ?_
    rintro e w2 ⟨rfl, HF2⟩
    clear HA
    go_wp2_with fail
    refine (unhide HF2).mono ?_
    rintro e w3 ⟨a, k, d, rfl, r3⟩
    have HR := hide r3
    clear r3 HF2
    go_wp2
    go_ret2
    exact ⟨rfl, unhide HR⟩
  | @mrg m1 m2 f1 f2 st hl hA hR hq hz hn =>
    have hok1 := addsx_ok X m ⟨b, [], [], 0⟩ hok0 hb1 (long_no hl) (by rw [hA])
    rw [hA] at hok1
    obtain ⟨M, hM⟩ : ∃ M, mrg fan m2 st f2.made = M := ⟨_, rfl⟩
    have HAD : Hid (∀ w1, GBk w1 w.heap.size (.slice none 0 0) (.slice none 0 0) b 0 → Below w.heap.size w w1 → w.heap.size < w1.heap.size → Calls Tryz.prog 50 #[.pointer (some ⟨sb, 0, none⟩), .pointer (some ⟨w.heap.size, 0, none⟩), v] w1 fun e w2 => e = .returned (.int .i64 0) ∧ Hid (Calls Tryz.prog 51 #[.pointer (some ⟨sb, 0, none⟩), .pointer (some ⟨w.heap.size, 0, none⟩)] w2 fun e w3 => ∃ a k d, e = .returned (.tuple #[.slice a k d, .int .i64 0]) ∧ Hid (Calls Tryz.prog 31 #[.pointer (some ⟨sb, 0, none⟩), .int .i64 fan, .slice a k d] w3 fun e w4 => e = .returned (.tuple #[.int .i64 M.2.2, .int .i64 M.1]) ∧ DRes F w sb M.2.1 w4))) := fun w1 hg b1 hs => by
      refine (add_doc (gin_new h hg b1 hs) hok0 hb1 (fun wr c => hTx w1 wr b1 c) (by omega) (long_no hl) 0 m1 f1 hA).mono ?_
      rintro e w2 ⟨rfl, hch, ⟨_, S2, hv2, mv2, g2⟩ | ⟨u3, _⟩⟩
      · refine ⟨rfl, (finish_doc0 g2 hok1.1 hok1.2.1 m2 f2 hR).mono ?_⟩
        rintro e w3 ⟨l, rfl, hch3, S3, rv3, sl3, d1, d2, d3, d4⟩
        have d3' := d3
        obtain ⟨a, d, rfl, -⟩ := d3'
        refine ⟨a, _, d, rfl, ?_⟩
        have b2 : Chg (fun x => F x ∨ x = w.heap.size) w1 w3 := hch.trans hch3
        have s1 := hch.size
        have s2 := hch3.size
        have r3 := dres_mk hFl b1 b2 hF1 d1 fun x q => by
          rcases d2 x q with (z | z) | z
          · exact .inl z
          · exact .inr ⟨z.1, by omega⟩
          · exact .inr ⟨by omega, z.2⟩
        have hS3 : ∀ x, S3 x → Up F w w3 x := fun x q => by
          have s0 := b1.size
          have hl3 := d1.lt x q
          rcases d2 x q with (z | z) | z
          · rcases hF1 x z with y | y
            · exact .inl y
            · exact .inr ⟨y, hl3⟩
          · exact .inr ⟨by omega, hl3⟩
          · exact .inr ⟨by omega, hl3⟩
        have q := merge_doc d1 d3 d4 hq h2 h64 (by omega) (by omega)
        rw [hM] at q
        exact q.mono fun e w4 hh => ⟨hh.1, dres_comp hFl hS3 r3.2 hh.2⟩
      · exact absurd rfl u3
    rw [hM]
    obtain ⟨ao, cap, rfl, -⟩ := hT
    clear h hv hok0 hTx hl hA hR hok1 hF1 hFl hq hz hn hM
    go_enter Tryz.func26, Tryz.ntmps26
    go_wp2_with fail
    refine (unhide HNW).mono ?_
    rintro e w1 ⟨rfl, hg, b1, hs1⟩
    have HA := hide (unhide HAD w1 hg b1 hs1)
    clear hg b1 hs1 HAD HNW
    go_wp2_with fail
    refine (unhide HA).mono ?_
    rintro e w2 ⟨rfl, HF2⟩
    clear HA
    go_wp2_with fail
    refine (unhide HF2).mono ?_
    rintro e w3 ⟨a, k, d, rfl, HM3⟩
    clear HF2
    go_wp2_with fail
    refine (unhide HM3).mono ?_
    rintro e w4 ⟨rfl, r4⟩
    have HR := hide r4
    clear r4 HM3
    go_wp2
    go_ret2
    exact ⟨rfl, unhide HR⟩
end Rs
end Go.Proofs.YtohfhkdhccpoaaaGreatDoor
