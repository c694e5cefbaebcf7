/-
  DERIVED. GIVEN WITH THE SEED: THE CARDS: each row of YtnomcmklhbjfjaaGreatDoorRows.lean that lists a variable, with what it lists TIED to the program's text (the seventh form; the later family's looks); each row that meets fmt, with fmt's text TOLD by the authors' own Lean function (tested against real Go, not proved from fmt's source: count such statements apart). THE CARD IS WHAT COUNTS. Prove the row's statement (the work); the ties are given (YtnomcmklhbjfjaaGreatDoorTie.lean); close each card by the builder's one call (the guide's Derived/Test/ToyasCard.lean, 'card_holds'). Laid BY PROGRAM, IN A SANDBOX (cutbox-door.mjs). By AI agents, Wed Nov 11 2026. No macro, syntax, notation, axiom, sorry.
-/
import Derived.Test.YtnomcmklhbjfjaaGreatDoorRows
import GoSem.ClaimSeven
namespace Go.Proofs.YtnomcmklhbjfjaaGreatDoor
namespace Rows

/-- THE TIED CARD OF 'retrofitlaw08.ScodeExact'. -/
def scodeExactCard : Claim7 := { stood := { row := scodeExactRow, standIns := [], harness := (true, "6a8e2522a02e52167a5752953c87f54fecb5bda576fa94415ae15062456d84bd"), looks := false }, kinds := [], alts := [], laidByText := true, laidKinds := [.data, .pinned], laidTests := true, laidLooks := .later }
def ScodeExactCardSaid : Prop := Claim7.holds Tryz.pinned (.plain (OpenSpec.ofChange scodeExactSpec)) scodeExactCard

/-- THE TIED CARD OF 'retrofitlaw08.ScodeParts'. -/
def scodePartsCard : Claim7 := { stood := { row := scodePartsRow, standIns := [], harness := (true, "6a8e2522a02e52167a5752953c87f54fecb5bda576fa94415ae15062456d84bd"), looks := false }, kinds := [], alts := [], laidByText := true, laidKinds := [.data, .pinned], laidTests := true, laidLooks := .later }
def ScodePartsCardSaid : Prop := Claim7.holds Tryz.pinned (.plain (OpenSpec.ofChange scodePartsSpec)) scodePartsCard

/-- THE TIED CARD OF 'retrofitlaw08.ScodeBack'. -/
def scodeBackCard : Claim7 := { stood := { row := scodeBackRow, standIns := [], harness := (true, "6a8e2522a02e52167a5752953c87f54fecb5bda576fa94415ae15062456d84bd"), looks := false }, kinds := [], alts := [], laidByText := true, laidKinds := [.data, .pinned], laidTests := true, laidLooks := .later }
def ScodeBackCardSaid : Prop := Claim7.holds Tryz.pinned (.plain (OpenSpec.ofChange scodeBackSpec)) scodeBackCard

/-- THE TIED CARD OF 'retrofitlaw08.ScodeRows'. -/
def scodeRowsCard : Claim7 := { stood := { row := scodeRowsRow, standIns := [], harness := (true, "6a8e2522a02e52167a5752953c87f54fecb5bda576fa94415ae15062456d84bd"), looks := false }, kinds := [], alts := [], laidByText := true, laidKinds := [.data, .pinned], laidTests := true, laidLooks := .later }
def ScodeRowsCardSaid : Prop := Claim7.holds Tryz.pinned (.plain (OpenSpec.ofChange scodeRowsSpec)) scodeRowsCard

/-- THE SECOND FORM's CARD OF 'retrofitlaw08.ScodeExact'. -/
def scodeExactUptoCard : Claim7 := { stood := { row := scodeExactUptoRow, standIns := [], harness := (true, "6a8e2522a02e52167a5752953c87f54fecb5bda576fa94415ae15062456d84bd"), looks := false }, kinds := [], alts := [], laidByText := true, laidKinds := [.data, .pinned], laidTests := true, laidLooks := .later }
def ScodeExactUptoCardSaid : Prop := Claim7.holds Tryz.pinned (.plain (OpenSpec.upto scodeExactSpec)) scodeExactUptoCard

/-- THE SECOND FORM's CARD OF 'retrofitlaw08.ScodeParts'. -/
def scodePartsUptoCard : Claim7 := { stood := { row := scodePartsUptoRow, standIns := [], harness := (true, "6a8e2522a02e52167a5752953c87f54fecb5bda576fa94415ae15062456d84bd"), looks := false }, kinds := [], alts := [], laidByText := true, laidKinds := [.data, .pinned], laidTests := true, laidLooks := .later }
def ScodePartsUptoCardSaid : Prop := Claim7.holds Tryz.pinned (.plain (OpenSpec.upto scodePartsSpec)) scodePartsUptoCard

/-- THE SECOND FORM's CARD OF 'retrofitlaw08.ScodeBack'. -/
def scodeBackUptoCard : Claim7 := { stood := { row := scodeBackUptoRow, standIns := [], harness := (true, "6a8e2522a02e52167a5752953c87f54fecb5bda576fa94415ae15062456d84bd"), looks := false }, kinds := [], alts := [], laidByText := true, laidKinds := [.data, .pinned], laidTests := true, laidLooks := .later }
def ScodeBackUptoCardSaid : Prop := Claim7.holds Tryz.pinned (.plain (OpenSpec.upto scodeBackSpec)) scodeBackUptoCard

/-- THE SECOND FORM's CARD OF 'retrofitlaw08.ScodeRows'. -/
def scodeRowsUptoCard : Claim7 := { stood := { row := scodeRowsUptoRow, standIns := [], harness := (true, "6a8e2522a02e52167a5752953c87f54fecb5bda576fa94415ae15062456d84bd"), looks := false }, kinds := [], alts := [], laidByText := true, laidKinds := [.data, .pinned], laidTests := true, laidLooks := .later }
def ScodeRowsUptoCardSaid : Prop := Claim7.holds Tryz.pinned (.plain (OpenSpec.upto scodeRowsSpec)) scodeRowsUptoCard
end Rows
end Go.Proofs.YtnomcmklhbjfjaaGreatDoor
