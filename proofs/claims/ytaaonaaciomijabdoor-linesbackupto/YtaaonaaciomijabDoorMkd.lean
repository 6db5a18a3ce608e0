/- Contract: the document's Marked answers whether a text begins with the mark; nothing in memory turns. -/
import Derived.Test.YtaaonaaciomijabDoorFldW
import Derived.Test.YtaaonaaciomijabDoorLnM
namespace Go.Proofs.YtaaonaaciomijabDoor
open Go.RowKit
namespace Mkd
open FldW

set_option maxHeartbeats 1000000 in
theorem marked_any (s : ByteArray) (w : World) (hs : s.size ≤ maxLen) : Calls Tryd.prog 56 #[.string s] w fun e w' => e = .returned (.bool (Lib.hasPrefix s.data.toList Ln.mark)) ∧ w' = w := by
  unfold maxLen at hs
  cases hp : Lib.hasPrefix s.data.toList Ln.mark with
  | true =>
    obtain ⟨h3, h0, h1, h2⟩ := Ln.mark_true s hp
    have g0 : ((s[0].toNat : Int) == 239) = true := Ln.byte_eq _ 239 h0
    have g1 : ((s[1].toNat : Int) == 187) = true := Ln.byte_eq _ 187 h1
    have g2 : ((s[2].toNat : Int) == 191) = true := Ln.byte_eq _ 191 h2
    have h4 : (3 : Int) ≤ (s.size : Int) := by omega
    clear hp h0 h1 h2
    go_enter Tryd.func56, Tryd.ntmps56
    go_wp2
    go_ret
    exact ⟨rfl, rfl⟩
  | false =>
    rcases Ln.mark_false s hp with h3 | ⟨h3, h0 | ⟨h0, h1⟩ | ⟨h0, h1, h2⟩⟩
    · have h4 : ¬ (3 : Int) ≤ (s.size : Int) := by omega
      clear hp
      go_enter Tryd.func56, Tryd.ntmps56
      go_wp2
      go_ret
      exact ⟨rfl, rfl⟩
    · have g0 : ((s[0].toNat : Int) == 239) = false := Ln.byte_ne _ 239 h0
      have h4 : (3 : Int) ≤ (s.size : Int) := by omega
      clear hp h0
      go_enter Tryd.func56, Tryd.ntmps56
      go_wp2
      go_ret
      exact ⟨rfl, rfl⟩
    · have g0 : ((s[0].toNat : Int) == 239) = true := Ln.byte_eq _ 239 h0
      have g1 : ((s[1].toNat : Int) == 187) = false := Ln.byte_ne _ 187 h1
      have h4 : (3 : Int) ≤ (s.size : Int) := by omega
      clear hp h0 h1
      go_enter Tryd.func56, Tryd.ntmps56
      go_wp2
      go_ret
      exact ⟨rfl, rfl⟩
    · have g0 : ((s[0].toNat : Int) == 239) = true := Ln.byte_eq _ 239 h0
      have g1 : ((s[1].toNat : Int) == 187) = true := Ln.byte_eq _ 187 h1
      have g2 : ((s[2].toNat : Int) == 191) = false := Ln.byte_ne _ 191 h2
      have h4 : (3 : Int) ≤ (s.size : Int) := by omega
      clear hp h0 h1 h2
      go_enter Tryd.func56, Tryd.ntmps56
      go_wp2
      go_ret
      exact ⟨rfl, rfl⟩

end Mkd
end Go.Proofs.YtaaonaaciomijabDoor
