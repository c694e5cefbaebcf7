/-
  DERIVED. GIVEN WITH THE SEED: THE CARDS: each row of YtfmadklfcoebhaaDoorRows.lean that lists a variable, with what it lists TIED to the program's text (the seventh form; the later family's looks); each row that meets fmt, with fmt's text TOLD by the authors' own Lean function (tested against real Go, not proved from fmt's source: count such statements apart). THE CARD IS WHAT COUNTS. Prove the row's statement (the work); the ties are given (YtfmadklfcoebhaaDoorTie.lean); close each card by the builder's one call (the guide's Derived/Test/ToyasCard.lean, 'card_holds'). Laid BY PROGRAM, IN A SANDBOX (cutbox-door.mjs). By AI agents, Wed Nov 11 2026. No macro, syntax, notation, axiom, sorry.
-/
import Derived.Test.YtfmadklfcoebhaaDoorRows
import GoSem.ClaimSeven
namespace Go.Proofs.YtfmadklfcoebhaaDoor
namespace Rows

/-- THE TIED CARD OF 'retrofitlaw05.LayoutExact'. -/
def layoutExactCard : Claim7 := { stood := { row := layoutExactRow, standIns := [], harness := (true, "3e87691c82d081354e8cb20272837ce124e9f8ce7582351c46f1e62879161ef2"), looks := false }, kinds := [], alts := [], laidByText := true, laidKinds := [.data, .pinned], laidTests := true, laidLooks := .later }
def LayoutExactCardSaid : Prop := Claim7.holds Tryd.pinned (.plain (OpenSpec.ofChange layoutExactSpec)) layoutExactCard

/-- THE TIED CARD OF 'retrofitlaw05.LayoutRows'. -/
def layoutRowsCard : Claim7 := { stood := { row := layoutRowsRow, standIns := [], harness := (true, "3e87691c82d081354e8cb20272837ce124e9f8ce7582351c46f1e62879161ef2"), looks := false }, kinds := [], alts := [], laidByText := true, laidKinds := [.data, .pinned], laidTests := true, laidLooks := .later }
def LayoutRowsCardSaid : Prop := Claim7.holds Tryd.pinned (.plain (OpenSpec.ofChange layoutRowsSpec)) layoutRowsCard

/-- THE TIED CARD OF 'retrofitlaw05.LayoutBack'. -/
def layoutBackCard : Claim7 := { stood := { row := layoutBackRow, standIns := [], harness := (true, "3e87691c82d081354e8cb20272837ce124e9f8ce7582351c46f1e62879161ef2"), looks := false }, kinds := [], alts := [], laidByText := true, laidKinds := [.data, .pinned], laidTests := true, laidLooks := .later }
def LayoutBackCardSaid : Prop := Claim7.holds Tryd.pinned (.plain (OpenSpec.ofChange layoutBackSpec)) layoutBackCard

/-- THE TIED CARD OF 'retrofitlaw05.LayoutApart'. -/
def layoutApartCard : Claim7 := { stood := { row := layoutApartRow, standIns := [], harness := (true, "3e87691c82d081354e8cb20272837ce124e9f8ce7582351c46f1e62879161ef2"), looks := false }, kinds := [], alts := [], laidByText := true, laidKinds := [.data, .pinned], laidTests := true, laidLooks := .later }
def LayoutApartCardSaid : Prop := Claim7.holds Tryd.pinned (.plain (OpenSpec.ofChange layoutApartSpec)) layoutApartCard

/-- THE TIED CARD OF 'retrofitlaw05.LayoutGrows'. -/
def layoutGrowsCard : Claim7 := { stood := { row := layoutGrowsRow, standIns := [], harness := (true, "3e87691c82d081354e8cb20272837ce124e9f8ce7582351c46f1e62879161ef2"), looks := false }, kinds := [], alts := [], laidByText := true, laidKinds := [.data, .pinned], laidTests := true, laidLooks := .later }
def LayoutGrowsCardSaid : Prop := Claim7.holds Tryd.pinned (.plain (OpenSpec.ofChange layoutGrowsSpec)) layoutGrowsCard

/-- THE SECOND FORM's CARD OF 'retrofitlaw05.LayoutExact'. -/
def layoutExactUptoCard : Claim7 := { stood := { row := layoutExactUptoRow, standIns := [], harness := (true, "3e87691c82d081354e8cb20272837ce124e9f8ce7582351c46f1e62879161ef2"), looks := false }, kinds := [], alts := [], laidByText := true, laidKinds := [.data, .pinned], laidTests := true, laidLooks := .later }
def LayoutExactUptoCardSaid : Prop := Claim7.holds Tryd.pinned (.plain (OpenSpec.upto layoutExactSpec)) layoutExactUptoCard

/-- THE SECOND FORM's CARD OF 'retrofitlaw05.LayoutRows'. -/
def layoutRowsUptoCard : Claim7 := { stood := { row := layoutRowsUptoRow, standIns := [], harness := (true, "3e87691c82d081354e8cb20272837ce124e9f8ce7582351c46f1e62879161ef2"), looks := false }, kinds := [], alts := [], laidByText := true, laidKinds := [.data, .pinned], laidTests := true, laidLooks := .later }
def LayoutRowsUptoCardSaid : Prop := Claim7.holds Tryd.pinned (.plain (OpenSpec.upto layoutRowsSpec)) layoutRowsUptoCard

/-- THE SECOND FORM's CARD OF 'retrofitlaw05.LayoutBack'. -/
def layoutBackUptoCard : Claim7 := { stood := { row := layoutBackUptoRow, standIns := [], harness := (true, "3e87691c82d081354e8cb20272837ce124e9f8ce7582351c46f1e62879161ef2"), looks := false }, kinds := [], alts := [], laidByText := true, laidKinds := [.data, .pinned], laidTests := true, laidLooks := .later }
def LayoutBackUptoCardSaid : Prop := Claim7.holds Tryd.pinned (.plain (OpenSpec.upto layoutBackSpec)) layoutBackUptoCard

/-- THE SECOND FORM's CARD OF 'retrofitlaw05.LayoutApart'. -/
def layoutApartUptoCard : Claim7 := { stood := { row := layoutApartUptoRow, standIns := [], harness := (true, "3e87691c82d081354e8cb20272837ce124e9f8ce7582351c46f1e62879161ef2"), looks := false }, kinds := [], alts := [], laidByText := true, laidKinds := [.data, .pinned], laidTests := true, laidLooks := .later }
def LayoutApartUptoCardSaid : Prop := Claim7.holds Tryd.pinned (.plain (OpenSpec.upto layoutApartSpec)) layoutApartUptoCard

/-- THE SECOND FORM's CARD OF 'retrofitlaw05.LayoutGrows'. -/
def layoutGrowsUptoCard : Claim7 := { stood := { row := layoutGrowsUptoRow, standIns := [], harness := (true, "3e87691c82d081354e8cb20272837ce124e9f8ce7582351c46f1e62879161ef2"), looks := false }, kinds := [], alts := [], laidByText := true, laidKinds := [.data, .pinned], laidTests := true, laidLooks := .later }
def LayoutGrowsUptoCardSaid : Prop := Claim7.holds Tryd.pinned (.plain (OpenSpec.upto layoutGrowsSpec)) layoutGrowsUptoCard
end Rows
end Go.Proofs.YtfmadklfcoebhaaDoor
