/-
  No cell of these rows narrows 'for every input' (looked for: loops, veiled, ifaces, maps, wideKeys, modest, calm, conditions, laid).
  DERIVED. THE GIVEN ROWS OF THIS SEAT. 6 by the template 'for every input the law returns true; each argument reads behind the call as it read before'; 0 by the template 'total and deterministic' (their statements: YtjcchogilbekoaaTotals.lean).
  GIVEN WITH THE SEED: the statements are not yours to turn. If you find one false, say at which input.
  Laid BY PROGRAM, IN A SANDBOX (cutbox-rows.mjs): the forced cells as the released guide's own fill.sh prints them over the translation fedbcfc45bcd3982… (all of the seat's roots in one cut). By AI agents, Wed Nov 11 2026. No macro, syntax, notation, axiom, sorry.
-/
import Derived.Test.YtjcchogilbekoaaChecked
import GoSem.Claim
import GoSem.ClaimJoined
import GoSem.ClaimMapViews
import Derived.JoinedTies
import Derived.KernelRfl
namespace Go.Proofs.Ytjcchogilbekoaa
/- THE CELL 'sum', in the pinned program and in every row, IS THE sha256 OF THE DUMP (.gsa) THAT YtjcchogilbekoaaProg.lean LOADS. Nothing in Lean hashes anything: it is a label: what it is worth is what the hold of that sum in a sandbox is worth. -/
noncomputable def Try.pinned : Pinned := { name := "ytjcchogilbekoaa", sum := "fedbcfc45bcd398207da693dac4c5c480916afab0f9df2fa99f445b17a7889ba", checked := Try.checked }
namespace Rows
def none {H : Type} : Left H := { results := [], args := [] }

/-- 'hornbooklaw15.RulesApply': WHATEVER THE INPUT: true; the input reads as it did. -/
def rulesApplySpec : ChangeSpec := { name := "rulesApply", fn := fun _ => fun
  | [d1, d2] => { results := [.lit (.bool true)], args := [d1, d2] }
  | _ => none }
def rulesApplyRow : OpenClaim := { program := "ytjcchogilbekoaa", sum := "fedbcfc45bcd398207da693dac4c5c480916afab0f9df2fa99f445b17a7889ba", func := "hornbook/hornbooklaw15.RulesApply", spec := "rulesApply", inPlace := ["internal/bytealg.IndexByteString", "internal/bytealg.IndexString"], named := ["internal/bytealg.MaxLen"], apart := false }
def RulesApplySaid : Prop := rulesApplyRow.holds Try.pinned (OpenSpec.ofChange rulesApplySpec)

/-- ITS FALSE NEIGHBOUR: 'it returns false'. Refute it at one input. -/
def rulesApplyWrong : ChangeSpec := { name := "rulesApply", fn := fun _ => fun
  | [d1, d2] => { results := [.lit (.bool false)], args := [d1, d2] }
  | _ => none }
def RulesApplyWrongFalsely : Prop := rulesApplyRow.holds Try.pinned (OpenSpec.ofChange rulesApplyWrong)

/-- 'hornbooklaw15.RulesUndo': WHATEVER THE INPUT: true; the input reads as it did. -/
def rulesUndoSpec : ChangeSpec := { name := "rulesUndo", fn := fun _ => fun
  | [d1, d2] => { results := [.lit (.bool true)], args := [d1, d2] }
  | _ => none }
def rulesUndoRow : OpenClaim := { program := "ytjcchogilbekoaa", sum := "fedbcfc45bcd398207da693dac4c5c480916afab0f9df2fa99f445b17a7889ba", func := "hornbook/hornbooklaw15.RulesUndo", spec := "rulesUndo", inPlace := ["internal/bytealg.IndexByteString", "internal/bytealg.IndexString"], named := ["internal/bytealg.MaxLen"], apart := false }
def RulesUndoSaid : Prop := rulesUndoRow.holds Try.pinned (OpenSpec.ofChange rulesUndoSpec)

/-- ITS FALSE NEIGHBOUR: 'it returns false'. Refute it at one input. -/
def rulesUndoWrong : ChangeSpec := { name := "rulesUndo", fn := fun _ => fun
  | [d1, d2] => { results := [.lit (.bool false)], args := [d1, d2] }
  | _ => none }
def RulesUndoWrongFalsely : Prop := rulesUndoRow.holds Try.pinned (OpenSpec.ofChange rulesUndoWrong)

/-- 'hornbooklaw15.RulesChain': WHATEVER THE INPUT: true; the input reads as it did. -/
def rulesChainSpec : ChangeSpec := { name := "rulesChain", fn := fun _ => fun
  | [d1, d2] => { results := [.lit (.bool true)], args := [d1, d2] }
  | _ => none }
def rulesChainRow : OpenClaim := { program := "ytjcchogilbekoaa", sum := "fedbcfc45bcd398207da693dac4c5c480916afab0f9df2fa99f445b17a7889ba", func := "hornbook/hornbooklaw15.RulesChain", spec := "rulesChain", inPlace := ["internal/bytealg.IndexByteString", "internal/bytealg.IndexString"], unfollowed := true, recurses := true, named := ["internal/bytealg.MaxLen"], apart := false }
def RulesChainSaid : Prop := rulesChainRow.holds Try.pinned (OpenSpec.ofChange rulesChainSpec)

/-- ITS FALSE NEIGHBOUR: 'it returns false'. Refute it at one input. -/
def rulesChainWrong : ChangeSpec := { name := "rulesChain", fn := fun _ => fun
  | [d1, d2] => { results := [.lit (.bool false)], args := [d1, d2] }
  | _ => none }
def RulesChainWrongFalsely : Prop := rulesChainRow.holds Try.pinned (OpenSpec.ofChange rulesChainWrong)

/-- 'hornbooklaw15.RulesPeel': WHATEVER THE INPUT: true; the input reads as it did. -/
def rulesPeelSpec : ChangeSpec := { name := "rulesPeel", fn := fun _ => fun
  | [d1, d2] => { results := [.lit (.bool true)], args := [d1, d2] }
  | _ => none }
def rulesPeelRow : OpenClaim := { program := "ytjcchogilbekoaa", sum := "fedbcfc45bcd398207da693dac4c5c480916afab0f9df2fa99f445b17a7889ba", func := "hornbook/hornbooklaw15.RulesPeel", spec := "rulesPeel", inPlace := ["internal/bytealg.IndexByteString", "internal/bytealg.IndexString"], unfollowed := true, recurses := true, named := ["internal/bytealg.MaxLen"], apart := false }
def RulesPeelSaid : Prop := rulesPeelRow.holds Try.pinned (OpenSpec.ofChange rulesPeelSpec)

/-- ITS FALSE NEIGHBOUR: 'it returns false'. Refute it at one input. -/
def rulesPeelWrong : ChangeSpec := { name := "rulesPeel", fn := fun _ => fun
  | [d1, d2] => { results := [.lit (.bool false)], args := [d1, d2] }
  | _ => none }
def RulesPeelWrongFalsely : Prop := rulesPeelRow.holds Try.pinned (OpenSpec.ofChange rulesPeelWrong)

/-- 'hornbooklaw15.RulesBack': WHATEVER THE INPUT: true; the input reads as it did. -/
def rulesBackSpec : ChangeSpec := { name := "rulesBack", fn := fun _ => fun
  | [d1, d2] => { results := [.lit (.bool true)], args := [d1, d2] }
  | _ => none }
def rulesBackRow : OpenClaim := { program := "ytjcchogilbekoaa", sum := "fedbcfc45bcd398207da693dac4c5c480916afab0f9df2fa99f445b17a7889ba", func := "hornbook/hornbooklaw15.RulesBack", spec := "rulesBack", inPlace := ["internal/bytealg.IndexByteString", "internal/bytealg.IndexString"], named := ["internal/bytealg.MaxLen"], apart := false }
def RulesBackSaid : Prop := rulesBackRow.holds Try.pinned (OpenSpec.ofChange rulesBackSpec)

/-- ITS FALSE NEIGHBOUR: 'it returns false'. Refute it at one input. -/
def rulesBackWrong : ChangeSpec := { name := "rulesBack", fn := fun _ => fun
  | [d1, d2] => { results := [.lit (.bool false)], args := [d1, d2] }
  | _ => none }
def RulesBackWrongFalsely : Prop := rulesBackRow.holds Try.pinned (OpenSpec.ofChange rulesBackWrong)

/-- 'hornbooklaw15.RulesBoth': WHATEVER THE INPUT: true; the input reads as it did. -/
def rulesBothSpec : ChangeSpec := { name := "rulesBoth", fn := fun _ => fun
  | [d1, d2, d3] => { results := [.lit (.bool true)], args := [d1, d2, d3] }
  | _ => none }
def rulesBothRow : OpenClaim := { program := "ytjcchogilbekoaa", sum := "fedbcfc45bcd398207da693dac4c5c480916afab0f9df2fa99f445b17a7889ba", func := "hornbook/hornbooklaw15.RulesBoth", spec := "rulesBoth", inPlace := ["internal/bytealg.IndexByteString", "internal/bytealg.IndexString"], unfollowed := true, recurses := true, named := ["internal/bytealg.MaxLen"], apart := false }
def RulesBothSaid : Prop := rulesBothRow.holds Try.pinned (OpenSpec.ofChange rulesBothSpec)

/-- ITS FALSE NEIGHBOUR: 'it returns false'. Refute it at one input. -/
def rulesBothWrong : ChangeSpec := { name := "rulesBoth", fn := fun _ => fun
  | [d1, d2, d3] => { results := [.lit (.bool false)], args := [d1, d2, d3] }
  | _ => none }
def RulesBothWrongFalsely : Prop := rulesBothRow.holds Try.pinned (OpenSpec.ofChange rulesBothWrong)

/- THE SECOND FORM. 'bulk': how many values and letters a reading holds, each counted each time it is reached (what is shared counts as often as it is met; a slice's spare places count too). A statement '..UptoSaid' is the law's where the arguments, and the package variables that the reading takes, are together of bulk at most 1048576: NARROWER than '..Said'. Prove '..Said' where nothing that the law and all that it calls make is longer than what came in: it says more and counts as full. Else prove '..UptoSaid'. A law counts once. -/
mutual
def uptoBulk {H : Type} : DataW H → Nat
  | .lit (.string bytes) => bytes.length + 1
  | .lit _ => 1
  | .nil => 1
  | .ptr d => uptoBulk d + 1
  | .slice elems spare => uptoBulkAll elems + uptoBulkAll spare + 1
  | .agg parts => uptoBulkAll parts + 1
  | .iface _ d => uptoBulk d + 1
  | .map entries => uptoBulkEntries entries + 1
  | .held _ => 1
def uptoBulkAll {H : Type} : List (DataW H) → Nat
  | [] => 0
  | d :: r => uptoBulk d + uptoBulkAll r
def uptoBulkEntries {H : Type} : List (Lit × DataW H) → Nat
  | [] => 0
  | x :: r => uptoBulkEntry x + uptoBulkEntries r
def uptoBulkEntry {H : Type} : Lit × DataW H → Nat
  | (.string bytes, d) => bytes.length + uptoBulk d + 1
  | (_, d) => uptoBulk d + 1
 end
def uptoSmall : (H : Type) → List (DataW H) → Bool := fun _ ds => decide (uptoBulkAll ds ≤ 1048576)
def OpenSpec.upto (s : _root_.Go.ChangeSpec) : _root_.Go.OpenSpec := { _root_.Go.OpenSpec.ofChange s with cond := some uptoSmall }

/-- 'hornbooklaw15.RulesApply', WHERE WHAT IT READS IS OF BULK AT MOST 1048576: true; the input reads as it did. -/
def rulesApplyUptoRow : OpenClaim := { program := "ytjcchogilbekoaa", sum := "fedbcfc45bcd398207da693dac4c5c480916afab0f9df2fa99f445b17a7889ba", func := "hornbook/hornbooklaw15.RulesApply", spec := "rulesApply", inPlace := ["internal/bytealg.IndexByteString", "internal/bytealg.IndexString"], named := ["internal/bytealg.MaxLen"], apart := false, narrowed := true }
def RulesApplyUptoSaid : Prop := rulesApplyUptoRow.holds Try.pinned (OpenSpec.upto rulesApplySpec)

/-- 'hornbooklaw15.RulesUndo', WHERE WHAT IT READS IS OF BULK AT MOST 1048576: true; the input reads as it did. -/
def rulesUndoUptoRow : OpenClaim := { program := "ytjcchogilbekoaa", sum := "fedbcfc45bcd398207da693dac4c5c480916afab0f9df2fa99f445b17a7889ba", func := "hornbook/hornbooklaw15.RulesUndo", spec := "rulesUndo", inPlace := ["internal/bytealg.IndexByteString", "internal/bytealg.IndexString"], named := ["internal/bytealg.MaxLen"], apart := false, narrowed := true }
def RulesUndoUptoSaid : Prop := rulesUndoUptoRow.holds Try.pinned (OpenSpec.upto rulesUndoSpec)

/-- 'hornbooklaw15.RulesChain', WHERE WHAT IT READS IS OF BULK AT MOST 1048576: true; the input reads as it did. -/
def rulesChainUptoRow : OpenClaim := { program := "ytjcchogilbekoaa", sum := "fedbcfc45bcd398207da693dac4c5c480916afab0f9df2fa99f445b17a7889ba", func := "hornbook/hornbooklaw15.RulesChain", spec := "rulesChain", inPlace := ["internal/bytealg.IndexByteString", "internal/bytealg.IndexString"], unfollowed := true, recurses := true, named := ["internal/bytealg.MaxLen"], apart := false, narrowed := true }
def RulesChainUptoSaid : Prop := rulesChainUptoRow.holds Try.pinned (OpenSpec.upto rulesChainSpec)

/-- 'hornbooklaw15.RulesPeel', WHERE WHAT IT READS IS OF BULK AT MOST 1048576: true; the input reads as it did. -/
def rulesPeelUptoRow : OpenClaim := { program := "ytjcchogilbekoaa", sum := "fedbcfc45bcd398207da693dac4c5c480916afab0f9df2fa99f445b17a7889ba", func := "hornbook/hornbooklaw15.RulesPeel", spec := "rulesPeel", inPlace := ["internal/bytealg.IndexByteString", "internal/bytealg.IndexString"], unfollowed := true, recurses := true, named := ["internal/bytealg.MaxLen"], apart := false, narrowed := true }
def RulesPeelUptoSaid : Prop := rulesPeelUptoRow.holds Try.pinned (OpenSpec.upto rulesPeelSpec)

/-- 'hornbooklaw15.RulesBack', WHERE WHAT IT READS IS OF BULK AT MOST 1048576: true; the input reads as it did. -/
def rulesBackUptoRow : OpenClaim := { program := "ytjcchogilbekoaa", sum := "fedbcfc45bcd398207da693dac4c5c480916afab0f9df2fa99f445b17a7889ba", func := "hornbook/hornbooklaw15.RulesBack", spec := "rulesBack", inPlace := ["internal/bytealg.IndexByteString", "internal/bytealg.IndexString"], named := ["internal/bytealg.MaxLen"], apart := false, narrowed := true }
def RulesBackUptoSaid : Prop := rulesBackUptoRow.holds Try.pinned (OpenSpec.upto rulesBackSpec)

/-- 'hornbooklaw15.RulesBoth', WHERE WHAT IT READS IS OF BULK AT MOST 1048576: true; the input reads as it did. -/
def rulesBothUptoRow : OpenClaim := { program := "ytjcchogilbekoaa", sum := "fedbcfc45bcd398207da693dac4c5c480916afab0f9df2fa99f445b17a7889ba", func := "hornbook/hornbooklaw15.RulesBoth", spec := "rulesBoth", inPlace := ["internal/bytealg.IndexByteString", "internal/bytealg.IndexString"], unfollowed := true, recurses := true, named := ["internal/bytealg.MaxLen"], apart := false, narrowed := true }
def RulesBothUptoSaid : Prop := rulesBothUptoRow.holds Try.pinned (OpenSpec.upto rulesBothSpec)

end Rows
end Go.Proofs.Ytjcchogilbekoaa
