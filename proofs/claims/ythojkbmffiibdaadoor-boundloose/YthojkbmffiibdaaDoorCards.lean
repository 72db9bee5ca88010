/-
  DERIVED. GIVEN WITH THE SEED: THE CARDS: each row of YthojkbmffiibdaaDoorRows.lean that lists a variable, with what it lists TIED to the program's text (the seventh form; the later family's looks); each row that meets fmt, with fmt's text TOLD by the authors' own Lean function (tested against real Go, not proved from fmt's source: count such statements apart). THE CARD IS WHAT COUNTS. Prove the row's statement (the work); the ties are given (YthojkbmffiibdaaDoorTie.lean); close each card by the builder's one call (the guide's Derived/Test/ToyasCard.lean, 'card_holds'). Laid BY PROGRAM, IN A SANDBOX (cutbox-door.mjs). By AI agents, Wed Nov 11 2026. No macro, syntax, notation, axiom, sorry.
-/
import Derived.Test.YthojkbmffiibdaaDoorRows
import GoSem.ClaimSeven
namespace Go.Proofs.YthojkbmffiibdaaDoor
namespace Rows

/-- THE TIED CARD OF 'bocagelaw04.BoundSpans'. -/
def boundSpansCard : Claim7 := { stood := { row := boundSpansRow, standIns := [], harness := (true, "5e39d860a170eb574910a36986ec3481bbd4a2286957c753db9c5af833446129"), looks := false }, kinds := [], alts := [], laidByText := true, laidKinds := [.data, .pinned], laidTests := true, laidLooks := .later }
def BoundSpansCardSaid : Prop := Claim7.holds Tryd.pinned (.plain (OpenSpec.ofChange boundSpansSpec)) boundSpansCard

/-- THE TIED CARD OF 'bocagelaw04.BoundNumbers'. -/
def boundNumbersCard : Claim7 := { stood := { row := boundNumbersRow, standIns := [], harness := (true, "5e39d860a170eb574910a36986ec3481bbd4a2286957c753db9c5af833446129"), looks := false }, kinds := [], alts := [], laidByText := true, laidKinds := [.data, .pinned], laidTests := true, laidLooks := .later }
def BoundNumbersCardSaid : Prop := Claim7.holds Tryd.pinned (.plain (OpenSpec.ofChange boundNumbersSpec)) boundNumbersCard

/-- THE TIED CARD OF 'bocagelaw04.BoundReads'. -/
def boundReadsCard : Claim7 := { stood := { row := boundReadsRow, standIns := [], harness := (true, "5e39d860a170eb574910a36986ec3481bbd4a2286957c753db9c5af833446129"), looks := false }, kinds := [], alts := [], laidByText := true, laidKinds := [.data, .pinned], laidTests := true, laidLooks := .later }
def BoundReadsCardSaid : Prop := Claim7.holds Tryd.pinned (.plain (OpenSpec.ofChange boundReadsSpec)) boundReadsCard

/-- THE TIED CARD OF 'bocagelaw04.BoundTexts'. -/
def boundTextsCard : Claim7 := { stood := { row := boundTextsRow, standIns := [], harness := (true, "5e39d860a170eb574910a36986ec3481bbd4a2286957c753db9c5af833446129"), looks := false }, kinds := [], alts := [], laidByText := true, laidKinds := [.data, .pinned], laidTests := true, laidLooks := .later }
def BoundTextsCardSaid : Prop := Claim7.holds Tryd.pinned (.plain (OpenSpec.ofChange boundTextsSpec)) boundTextsCard

/-- THE TIED CARD OF 'bocagelaw04.BoundBack'. -/
def boundBackCard : Claim7 := { stood := { row := boundBackRow, standIns := [], harness := (true, "5e39d860a170eb574910a36986ec3481bbd4a2286957c753db9c5af833446129"), looks := false }, kinds := [], alts := [], laidByText := true, laidKinds := [.data, .pinned], laidTests := true, laidLooks := .later }
def BoundBackCardSaid : Prop := Claim7.holds Tryd.pinned (.plain (OpenSpec.ofChange boundBackSpec)) boundBackCard

/-- THE TIED CARD OF 'bocagelaw04.BoundLoose'. -/
def boundLooseCard : Claim7 := { stood := { row := boundLooseRow, standIns := [], harness := (true, "5e39d860a170eb574910a36986ec3481bbd4a2286957c753db9c5af833446129"), looks := false }, kinds := [], alts := [], laidByText := true, laidKinds := [.data, .pinned], laidTests := true, laidLooks := .later }
def BoundLooseCardSaid : Prop := Claim7.holds Tryd.pinned (.plain (OpenSpec.ofChange boundLooseSpec)) boundLooseCard

/-- THE SECOND FORM's CARD OF 'bocagelaw04.BoundSpans'. -/
def boundSpansUptoCard : Claim7 := { stood := { row := boundSpansUptoRow, standIns := [], harness := (true, "5e39d860a170eb574910a36986ec3481bbd4a2286957c753db9c5af833446129"), looks := false }, kinds := [], alts := [], laidByText := true, laidKinds := [.data, .pinned], laidTests := true, laidLooks := .later }
def BoundSpansUptoCardSaid : Prop := Claim7.holds Tryd.pinned (.plain (OpenSpec.upto boundSpansSpec)) boundSpansUptoCard

/-- THE SECOND FORM's CARD OF 'bocagelaw04.BoundNumbers'. -/
def boundNumbersUptoCard : Claim7 := { stood := { row := boundNumbersUptoRow, standIns := [], harness := (true, "5e39d860a170eb574910a36986ec3481bbd4a2286957c753db9c5af833446129"), looks := false }, kinds := [], alts := [], laidByText := true, laidKinds := [.data, .pinned], laidTests := true, laidLooks := .later }
def BoundNumbersUptoCardSaid : Prop := Claim7.holds Tryd.pinned (.plain (OpenSpec.upto boundNumbersSpec)) boundNumbersUptoCard

/-- THE SECOND FORM's CARD OF 'bocagelaw04.BoundReads'. -/
def boundReadsUptoCard : Claim7 := { stood := { row := boundReadsUptoRow, standIns := [], harness := (true, "5e39d860a170eb574910a36986ec3481bbd4a2286957c753db9c5af833446129"), looks := false }, kinds := [], alts := [], laidByText := true, laidKinds := [.data, .pinned], laidTests := true, laidLooks := .later }
def BoundReadsUptoCardSaid : Prop := Claim7.holds Tryd.pinned (.plain (OpenSpec.upto boundReadsSpec)) boundReadsUptoCard

/-- THE SECOND FORM's CARD OF 'bocagelaw04.BoundTexts'. -/
def boundTextsUptoCard : Claim7 := { stood := { row := boundTextsUptoRow, standIns := [], harness := (true, "5e39d860a170eb574910a36986ec3481bbd4a2286957c753db9c5af833446129"), looks := false }, kinds := [], alts := [], laidByText := true, laidKinds := [.data, .pinned], laidTests := true, laidLooks := .later }
def BoundTextsUptoCardSaid : Prop := Claim7.holds Tryd.pinned (.plain (OpenSpec.upto boundTextsSpec)) boundTextsUptoCard

/-- THE SECOND FORM's CARD OF 'bocagelaw04.BoundBack'. -/
def boundBackUptoCard : Claim7 := { stood := { row := boundBackUptoRow, standIns := [], harness := (true, "5e39d860a170eb574910a36986ec3481bbd4a2286957c753db9c5af833446129"), looks := false }, kinds := [], alts := [], laidByText := true, laidKinds := [.data, .pinned], laidTests := true, laidLooks := .later }
def BoundBackUptoCardSaid : Prop := Claim7.holds Tryd.pinned (.plain (OpenSpec.upto boundBackSpec)) boundBackUptoCard

/-- THE SECOND FORM's CARD OF 'bocagelaw04.BoundLoose'. -/
def boundLooseUptoCard : Claim7 := { stood := { row := boundLooseUptoRow, standIns := [], harness := (true, "5e39d860a170eb574910a36986ec3481bbd4a2286957c753db9c5af833446129"), looks := false }, kinds := [], alts := [], laidByText := true, laidKinds := [.data, .pinned], laidTests := true, laidLooks := .later }
def BoundLooseUptoCardSaid : Prop := Claim7.holds Tryd.pinned (.plain (OpenSpec.upto boundLooseSpec)) boundLooseUptoCard
end Rows
end Go.Proofs.YthojkbmffiibdaaDoor
