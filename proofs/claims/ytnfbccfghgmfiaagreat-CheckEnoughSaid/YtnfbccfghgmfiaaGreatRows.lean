/-
  No cell of these rows narrows 'for every input' (looked for: loops, veiled, ifaces, maps, wideKeys, modest, calm, conditions, laid).
  DERIVED. THE GIVEN ROWS OF THIS SEAT. 3 by the template 'for every input the law returns true; each argument reads behind the call as it read before'; 0 by the template 'total and deterministic' (their statements: YtnfbccfghgmfiaaGreatTotals.lean).
  GIVEN WITH THE SEED: the statements are not yours to turn. If you find one false, say at which input.
  Laid BY PROGRAM, IN A SANDBOX (cutbox-rows.mjs): the forced cells as the released guide's own fill.sh prints them over the translation 5ce11ffbecbb4ec2… (all of the seat's roots in one cut). By AI agents, Wed Nov 11 2026. No macro, syntax, notation, axiom, sorry.
-/
import Derived.Test.YtnfbccfghgmfiaaGreatChecked
import GoSem.Claim
import GoSem.ClaimJoined
import GoSem.ClaimMapViews
import Derived.JoinedTies
import Derived.KernelRfl
namespace Go.Proofs.YtnfbccfghgmfiaaGreat
/- THE CELL 'sum', in the pinned program and in every row, IS THE sha256 OF THE DUMP (.gsa) THAT YtnfbccfghgmfiaaGreatProg.lean LOADS. Nothing in Lean hashes anything: it is a label: what it is worth is what the hold of that sum in a sandbox is worth. -/
noncomputable def Tryz.pinned : Pinned := { name := "ytnfbccfghgmfiaagreat", sum := "5ce11ffbecbb4ec213c84bd03b6ee59b7bbba2f0fff264d298bbf35e865545f2", checked := Tryz.checked }
namespace Rows
def none {H : Type} : Left H := { results := [], args := [] }

/-- 'retrofitlaw13.CheckRules': WHATEVER THE INPUT: true; the input reads as it did. -/
def checkRulesSpec : ChangeSpec := { name := "checkRules", fn := fun _ => fun
  | [d1, d2, d3] => { results := [.lit (.bool true)], args := [d1, d2, d3] }
  | _ => none }
def checkRulesRow : OpenClaim := { program := "ytnfbccfghgmfiaagreat", sum := "5ce11ffbecbb4ec213c84bd03b6ee59b7bbba2f0fff264d298bbf35e865545f2", func := "retrofit/retrofitlaw13.CheckRules", spec := "checkRules", inPlace := ["math/bits.Add64", "math/bits.Sub64"], unfollowed := true, recurses := true, named := ["math/bits.divideError", "math/bits.overflowError"], apart := false }
def CheckRulesSaid : Prop := checkRulesRow.holds Tryz.pinned (OpenSpec.ofChange checkRulesSpec)

/-- ITS FALSE NEIGHBOUR: 'it returns false'. Refute it at one input. -/
def checkRulesWrong : ChangeSpec := { name := "checkRules", fn := fun _ => fun
  | [d1, d2, d3] => { results := [.lit (.bool false)], args := [d1, d2, d3] }
  | _ => none }
def CheckRulesWrongFalsely : Prop := checkRulesRow.holds Tryz.pinned (OpenSpec.ofChange checkRulesWrong)

/-- 'retrofitlaw13.CheckPlain': WHATEVER THE INPUT: true; the input reads as it did. -/
def checkPlainSpec : ChangeSpec := { name := "checkPlain", fn := fun _ => fun
  | [d1, d2] => { results := [.lit (.bool true)], args := [d1, d2] }
  | _ => none }
def checkPlainRow : OpenClaim := { program := "ytnfbccfghgmfiaagreat", sum := "5ce11ffbecbb4ec213c84bd03b6ee59b7bbba2f0fff264d298bbf35e865545f2", func := "retrofit/retrofitlaw13.CheckPlain", spec := "checkPlain", inPlace := ["math/bits.Add64", "math/bits.Sub64"], unfollowed := true, recurses := true, named := ["math/bits.divideError", "math/bits.overflowError"], apart := false }
def CheckPlainSaid : Prop := checkPlainRow.holds Tryz.pinned (OpenSpec.ofChange checkPlainSpec)

/-- ITS FALSE NEIGHBOUR: 'it returns false'. Refute it at one input. -/
def checkPlainWrong : ChangeSpec := { name := "checkPlain", fn := fun _ => fun
  | [d1, d2] => { results := [.lit (.bool false)], args := [d1, d2] }
  | _ => none }
def CheckPlainWrongFalsely : Prop := checkPlainRow.holds Tryz.pinned (OpenSpec.ofChange checkPlainWrong)

/-- 'retrofitlaw13.CheckEnough': WHATEVER THE INPUT: true; the input reads as it did. -/
def checkEnoughSpec : ChangeSpec := { name := "checkEnough", fn := fun _ => fun
  | [d1, d2, d3] => { results := [.lit (.bool true)], args := [d1, d2, d3] }
  | _ => none }
def checkEnoughRow : OpenClaim := { program := "ytnfbccfghgmfiaagreat", sum := "5ce11ffbecbb4ec213c84bd03b6ee59b7bbba2f0fff264d298bbf35e865545f2", func := "retrofit/retrofitlaw13.CheckEnough", spec := "checkEnough", inPlace := ["math/bits.Add64", "math/bits.Sub64"], unfollowed := true, recurses := true, named := ["math/bits.divideError", "math/bits.overflowError"], apart := false }
def CheckEnoughSaid : Prop := checkEnoughRow.holds Tryz.pinned (OpenSpec.ofChange checkEnoughSpec)

/-- ITS FALSE NEIGHBOUR: 'it returns false'. Refute it at one input. -/
def checkEnoughWrong : ChangeSpec := { name := "checkEnough", fn := fun _ => fun
  | [d1, d2, d3] => { results := [.lit (.bool false)], args := [d1, d2, d3] }
  | _ => none }
def CheckEnoughWrongFalsely : Prop := checkEnoughRow.holds Tryz.pinned (OpenSpec.ofChange checkEnoughWrong)

/- THE SECOND FORM. 'bulk': how many values and letters a reading holds, each counted each time it is reached (what is shared counts as often as it is met; a slice's spare places count too). A statement '..UptoSaid' is the law's where the arguments, and the package variables that the reading takes, are together of bulk at most 1048576: NARROWER than '..Said'. Prove '..Said' where nothing that the law and all that it calls make is longer than what came in: it says more and counts as full. Else prove '..UptoSaid'. A law counts once. -/
mutual
def uptoBulk {H : Type} : DataW H → Nat
  | .lit (.string bytes) => bytes.length + 1
  | .lit _ => 1
  | .nil => 1
  | .ptr d => uptoBulk d + 1
  | .slice elems spare => uptoBulkAll elems + uptoBulkAll spare + 1
  | .agg parts => uptoBulkAll parts + 1
  | .iface _ d => uptoBulk d + 1
  | .map entries => uptoBulkEntries entries + 1
  | .held _ => 1
def uptoBulkAll {H : Type} : List (DataW H) → Nat
  | [] => 0
  | d :: r => uptoBulk d + uptoBulkAll r
def uptoBulkEntries {H : Type} : List (Lit × DataW H) → Nat
  | [] => 0
  | x :: r => uptoBulkEntry x + uptoBulkEntries r
def uptoBulkEntry {H : Type} : Lit × DataW H → Nat
  | (.string bytes, d) => bytes.length + uptoBulk d + 1
  | (_, d) => uptoBulk d + 1
 end
def uptoSmall : (H : Type) → List (DataW H) → Bool := fun _ ds => decide (uptoBulkAll ds ≤ 1048576)
def OpenSpec.upto (s : _root_.Go.ChangeSpec) : _root_.Go.OpenSpec := { _root_.Go.OpenSpec.ofChange s with cond := some uptoSmall }

/-- 'retrofitlaw13.CheckRules', WHERE WHAT IT READS IS OF BULK AT MOST 1048576: true; the input reads as it did. -/
def checkRulesUptoRow : OpenClaim := { program := "ytnfbccfghgmfiaagreat", sum := "5ce11ffbecbb4ec213c84bd03b6ee59b7bbba2f0fff264d298bbf35e865545f2", func := "retrofit/retrofitlaw13.CheckRules", spec := "checkRules", inPlace := ["math/bits.Add64", "math/bits.Sub64"], unfollowed := true, recurses := true, named := ["math/bits.divideError", "math/bits.overflowError"], apart := false, narrowed := true }
def CheckRulesUptoSaid : Prop := checkRulesUptoRow.holds Tryz.pinned (OpenSpec.upto checkRulesSpec)

/-- 'retrofitlaw13.CheckPlain', WHERE WHAT IT READS IS OF BULK AT MOST 1048576: true; the input reads as it did. -/
def checkPlainUptoRow : OpenClaim := { program := "ytnfbccfghgmfiaagreat", sum := "5ce11ffbecbb4ec213c84bd03b6ee59b7bbba2f0fff264d298bbf35e865545f2", func := "retrofit/retrofitlaw13.CheckPlain", spec := "checkPlain", inPlace := ["math/bits.Add64", "math/bits.Sub64"], unfollowed := true, recurses := true, named := ["math/bits.divideError", "math/bits.overflowError"], apart := false, narrowed := true }
def CheckPlainUptoSaid : Prop := checkPlainUptoRow.holds Tryz.pinned (OpenSpec.upto checkPlainSpec)

/-- 'retrofitlaw13.CheckEnough', WHERE WHAT IT READS IS OF BULK AT MOST 1048576: true; the input reads as it did. -/
def checkEnoughUptoRow : OpenClaim := { program := "ytnfbccfghgmfiaagreat", sum := "5ce11ffbecbb4ec213c84bd03b6ee59b7bbba2f0fff264d298bbf35e865545f2", func := "retrofit/retrofitlaw13.CheckEnough", spec := "checkEnough", inPlace := ["math/bits.Add64", "math/bits.Sub64"], unfollowed := true, recurses := true, named := ["math/bits.divideError", "math/bits.overflowError"], apart := false, narrowed := true }
def CheckEnoughUptoSaid : Prop := checkEnoughUptoRow.holds Tryz.pinned (OpenSpec.upto checkEnoughSpec)

end Rows
end Go.Proofs.YtnfbccfghgmfiaaGreat
