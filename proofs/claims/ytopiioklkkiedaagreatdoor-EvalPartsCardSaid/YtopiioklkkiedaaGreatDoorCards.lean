/-
  DERIVED. GIVEN WITH THE SEED: THE CARDS: each row of YtopiioklkkiedaaGreatDoorRows.lean that lists a variable, with what it lists TIED to the program's text (the seventh form; the later family's looks); each row that meets fmt, with fmt's text TOLD by the authors' own Lean function (tested against real Go, not proved from fmt's source: count such statements apart). THE CARD IS WHAT COUNTS. Prove the row's statement (the work); the ties are given (YtopiioklkkiedaaGreatDoorTie.lean); close each card by the builder's one call (the guide's Derived/Test/ToyasCard.lean, 'card_holds'). Laid BY PROGRAM, IN A SANDBOX (cutbox-door.mjs). By AI agents, Wed Nov 11 2026. No macro, syntax, notation, axiom, sorry.
-/
import Derived.Test.YtopiioklkkiedaaGreatDoorRows
import GoSem.ClaimSeven
namespace Go.Proofs.YtopiioklkkiedaaGreatDoor
namespace Rows

/-- THE TIED CARD OF 'retrofitlaw14.EvalValues'. -/
def evalValuesCard : Claim7 := { stood := { row := evalValuesRow, standIns := [], harness := (true, "46e17b501a3dd5c79e018970841d73c11679714541f322dd33938c36430e69de"), looks := false }, kinds := [], alts := [], laidByText := true, laidKinds := [.data, .pinned], laidTests := true, laidLooks := .later }
def EvalValuesCardSaid : Prop := Claim7.holds Tryz.pinned (.plain (OpenSpec.ofChange evalValuesSpec)) evalValuesCard

/-- THE TIED CARD OF 'retrofitlaw14.EvalRows'. -/
def evalRowsCard : Claim7 := { stood := { row := evalRowsRow, standIns := [], harness := (true, "46e17b501a3dd5c79e018970841d73c11679714541f322dd33938c36430e69de"), looks := false }, kinds := [], alts := [], laidByText := true, laidKinds := [.data, .pinned], laidTests := true, laidLooks := .later }
def EvalRowsCardSaid : Prop := Claim7.holds Tryz.pinned (.plain (OpenSpec.ofChange evalRowsSpec)) evalRowsCard

/-- THE TIED CARD OF 'retrofitlaw14.EvalParts'. -/
def evalPartsCard : Claim7 := { stood := { row := evalPartsRow, standIns := [], harness := (true, "46e17b501a3dd5c79e018970841d73c11679714541f322dd33938c36430e69de"), looks := false }, kinds := [], alts := [], laidByText := true, laidKinds := [.data, .pinned], laidTests := true, laidLooks := .later }
def EvalPartsCardSaid : Prop := Claim7.holds Tryz.pinned (.plain (OpenSpec.ofChange evalPartsSpec)) evalPartsCard

/-- THE TIED CARD OF 'retrofitlaw14.EvalWhole'. -/
def evalWholeCard : Claim7 := { stood := { row := evalWholeRow, standIns := [], harness := (true, "46e17b501a3dd5c79e018970841d73c11679714541f322dd33938c36430e69de"), looks := false }, kinds := [], alts := [], laidByText := true, laidKinds := [.data, .pinned], laidTests := true, laidLooks := .later }
def EvalWholeCardSaid : Prop := Claim7.holds Tryz.pinned (.plain (OpenSpec.ofChange evalWholeSpec)) evalWholeCard

/-- THE TIED CARD OF 'retrofitlaw14.EvalPlain'. -/
def evalPlainCard : Claim7 := { stood := { row := evalPlainRow, standIns := [], harness := (true, "46e17b501a3dd5c79e018970841d73c11679714541f322dd33938c36430e69de"), looks := false }, kinds := [], alts := [], laidByText := true, laidKinds := [.data, .pinned], laidTests := true, laidLooks := .later }
def EvalPlainCardSaid : Prop := Claim7.holds Tryz.pinned (.plain (OpenSpec.ofChange evalPlainSpec)) evalPlainCard

/-- THE TIED CARD OF 'retrofitlaw14.EvalFresh'. -/
def evalFreshCard : Claim7 := { stood := { row := evalFreshRow, standIns := [], harness := (true, "46e17b501a3dd5c79e018970841d73c11679714541f322dd33938c36430e69de"), looks := false }, kinds := [], alts := [], laidByText := true, laidKinds := [.data, .pinned], laidTests := true, laidLooks := .later }
def EvalFreshCardSaid : Prop := Claim7.holds Tryz.pinned (.plain (OpenSpec.ofChange evalFreshSpec)) evalFreshCard

/-- THE SECOND FORM's CARD OF 'retrofitlaw14.EvalValues'. -/
def evalValuesUptoCard : Claim7 := { stood := { row := evalValuesUptoRow, standIns := [], harness := (true, "46e17b501a3dd5c79e018970841d73c11679714541f322dd33938c36430e69de"), looks := false }, kinds := [], alts := [], laidByText := true, laidKinds := [.data, .pinned], laidTests := true, laidLooks := .later }
def EvalValuesUptoCardSaid : Prop := Claim7.holds Tryz.pinned (.plain (OpenSpec.upto evalValuesSpec)) evalValuesUptoCard

/-- THE SECOND FORM's CARD OF 'retrofitlaw14.EvalRows'. -/
def evalRowsUptoCard : Claim7 := { stood := { row := evalRowsUptoRow, standIns := [], harness := (true, "46e17b501a3dd5c79e018970841d73c11679714541f322dd33938c36430e69de"), looks := false }, kinds := [], alts := [], laidByText := true, laidKinds := [.data, .pinned], laidTests := true, laidLooks := .later }
def EvalRowsUptoCardSaid : Prop := Claim7.holds Tryz.pinned (.plain (OpenSpec.upto evalRowsSpec)) evalRowsUptoCard

/-- THE SECOND FORM's CARD OF 'retrofitlaw14.EvalParts'. -/
def evalPartsUptoCard : Claim7 := { stood := { row := evalPartsUptoRow, standIns := [], harness := (true, "46e17b501a3dd5c79e018970841d73c11679714541f322dd33938c36430e69de"), looks := false }, kinds := [], alts := [], laidByText := true, laidKinds := [.data, .pinned], laidTests := true, laidLooks := .later }
def EvalPartsUptoCardSaid : Prop := Claim7.holds Tryz.pinned (.plain (OpenSpec.upto evalPartsSpec)) evalPartsUptoCard

/-- THE SECOND FORM's CARD OF 'retrofitlaw14.EvalWhole'. -/
def evalWholeUptoCard : Claim7 := { stood := { row := evalWholeUptoRow, standIns := [], harness := (true, "46e17b501a3dd5c79e018970841d73c11679714541f322dd33938c36430e69de"), looks := false }, kinds := [], alts := [], laidByText := true, laidKinds := [.data, .pinned], laidTests := true, laidLooks := .later }
def EvalWholeUptoCardSaid : Prop := Claim7.holds Tryz.pinned (.plain (OpenSpec.upto evalWholeSpec)) evalWholeUptoCard

/-- THE SECOND FORM's CARD OF 'retrofitlaw14.EvalPlain'. -/
def evalPlainUptoCard : Claim7 := { stood := { row := evalPlainUptoRow, standIns := [], harness := (true, "46e17b501a3dd5c79e018970841d73c11679714541f322dd33938c36430e69de"), looks := false }, kinds := [], alts := [], laidByText := true, laidKinds := [.data, .pinned], laidTests := true, laidLooks := .later }
def EvalPlainUptoCardSaid : Prop := Claim7.holds Tryz.pinned (.plain (OpenSpec.upto evalPlainSpec)) evalPlainUptoCard

/-- THE SECOND FORM's CARD OF 'retrofitlaw14.EvalFresh'. -/
def evalFreshUptoCard : Claim7 := { stood := { row := evalFreshUptoRow, standIns := [], harness := (true, "46e17b501a3dd5c79e018970841d73c11679714541f322dd33938c36430e69de"), looks := false }, kinds := [], alts := [], laidByText := true, laidKinds := [.data, .pinned], laidTests := true, laidLooks := .later }
def EvalFreshUptoCardSaid : Prop := Claim7.holds Tryz.pinned (.plain (OpenSpec.upto evalFreshSpec)) evalFreshUptoCard
end Rows
end Go.Proofs.YtopiioklkkiedaaGreatDoor
