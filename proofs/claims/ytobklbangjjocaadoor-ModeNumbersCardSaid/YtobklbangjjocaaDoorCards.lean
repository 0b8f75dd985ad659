/-
  DERIVED. GIVEN WITH THE SEED: THE CARDS: each row of YtobklbangjjocaaDoorRows.lean that lists a variable, with what it lists TIED to the program's text (the seventh form; the later family's looks); each row that meets fmt, with fmt's text TOLD by the authors' own Lean function (tested against real Go, not proved from fmt's source: count such statements apart). THE CARD IS WHAT COUNTS. Prove the row's statement (the work); the ties are given (YtobklbangjjocaaDoorTie.lean); close each card by the builder's one call (the guide's Derived/Test/ToyasCard.lean, 'card_holds'). Laid BY PROGRAM, IN A SANDBOX (cutbox-door.mjs). By AI agents, Wed Nov 11 2026. No macro, syntax, notation, axiom, sorry.
-/
import Derived.Test.YtobklbangjjocaaDoorRows
import GoSem.ClaimSeven
namespace Go.Proofs.YtobklbangjjocaaDoor
namespace Rows

/-- THE TIED CARD OF 'creellaw06.ModeTexts'. -/
def modeTextsCard : Claim7 := { stood := { row := modeTextsRow, standIns := [], harness := (true, "c5b575ff41e8a79c03a83868ebe763117655a7e3af4e4d13a304fcc29374c329"), looks := true }, kinds := [], alts := [], laidByText := true, laidKinds := [.data, .data, .data, .sentinel, .sentinel, .data], laidTests := true, laidLooks := .later }
def ModeTextsCardSaid : Prop := Claim7.holds Tryd.pinned (.plain (OpenSpec.ofChange modeTextsSpec)) modeTextsCard

/-- THE TIED CARD OF 'creellaw06.ModeCan'. -/
def modeCanCard : Claim7 := { stood := { row := modeCanRow, standIns := [], harness := (true, "c5b575ff41e8a79c03a83868ebe763117655a7e3af4e4d13a304fcc29374c329"), looks := true }, kinds := [], alts := [], laidByText := true, laidKinds := [.data, .data, .data], laidTests := true, laidLooks := .later }
def ModeCanCardSaid : Prop := Claim7.holds Tryd.pinned (.plain (OpenSpec.ofChange modeCanSpec)) modeCanCard

/-- THE TIED CARD OF 'creellaw06.ModeNumbers'. -/
def modeNumbersCard : Claim7 := { stood := { row := modeNumbersRow, standIns := [], harness := (true, "c5b575ff41e8a79c03a83868ebe763117655a7e3af4e4d13a304fcc29374c329"), looks := true }, kinds := [], alts := [], laidByText := true, laidKinds := [.data, .data, .data], laidTests := true, laidLooks := .later }
def ModeNumbersCardSaid : Prop := Claim7.holds Tryd.pinned (.plain (OpenSpec.ofChange modeNumbersSpec)) modeNumbersCard

/-- THE TIED CARD OF 'creellaw06.ModeCuts'. -/
def modeCutsCard : Claim7 := { stood := { row := modeCutsRow, standIns := [], harness := (true, "c5b575ff41e8a79c03a83868ebe763117655a7e3af4e4d13a304fcc29374c329"), looks := true }, kinds := [], alts := [], laidByText := true, laidKinds := [.data, .data, .data], laidTests := true, laidLooks := .later }
def ModeCutsCardSaid : Prop := Claim7.holds Tryd.pinned (.plain (OpenSpec.ofChange modeCutsSpec)) modeCutsCard

/-- THE TIED CARD OF 'creellaw06.ModeGrows'. -/
def modeGrowsCard : Claim7 := { stood := { row := modeGrowsRow, standIns := [], harness := (true, "c5b575ff41e8a79c03a83868ebe763117655a7e3af4e4d13a304fcc29374c329"), looks := true }, kinds := [], alts := [], laidByText := true, laidKinds := [.data, .data, .data], laidTests := true, laidLooks := .later }
def ModeGrowsCardSaid : Prop := Claim7.holds Tryd.pinned (.plain (OpenSpec.ofChange modeGrowsSpec)) modeGrowsCard

/-- THE SECOND FORM's CARD OF 'creellaw06.ModeTexts'. -/
def modeTextsUptoCard : Claim7 := { stood := { row := modeTextsUptoRow, standIns := [], harness := (true, "c5b575ff41e8a79c03a83868ebe763117655a7e3af4e4d13a304fcc29374c329"), looks := true }, kinds := [], alts := [], laidByText := true, laidKinds := [.data, .data, .data, .sentinel, .sentinel, .data], laidTests := true, laidLooks := .later }
def ModeTextsUptoCardSaid : Prop := Claim7.holds Tryd.pinned (.plain (OpenSpec.upto modeTextsSpec)) modeTextsUptoCard

/-- THE SECOND FORM's CARD OF 'creellaw06.ModeCan'. -/
def modeCanUptoCard : Claim7 := { stood := { row := modeCanUptoRow, standIns := [], harness := (true, "c5b575ff41e8a79c03a83868ebe763117655a7e3af4e4d13a304fcc29374c329"), looks := true }, kinds := [], alts := [], laidByText := true, laidKinds := [.data, .data, .data], laidTests := true, laidLooks := .later }
def ModeCanUptoCardSaid : Prop := Claim7.holds Tryd.pinned (.plain (OpenSpec.upto modeCanSpec)) modeCanUptoCard

/-- THE SECOND FORM's CARD OF 'creellaw06.ModeNumbers'. -/
def modeNumbersUptoCard : Claim7 := { stood := { row := modeNumbersUptoRow, standIns := [], harness := (true, "c5b575ff41e8a79c03a83868ebe763117655a7e3af4e4d13a304fcc29374c329"), looks := true }, kinds := [], alts := [], laidByText := true, laidKinds := [.data, .data, .data], laidTests := true, laidLooks := .later }
def ModeNumbersUptoCardSaid : Prop := Claim7.holds Tryd.pinned (.plain (OpenSpec.upto modeNumbersSpec)) modeNumbersUptoCard

/-- THE SECOND FORM's CARD OF 'creellaw06.ModeCuts'. -/
def modeCutsUptoCard : Claim7 := { stood := { row := modeCutsUptoRow, standIns := [], harness := (true, "c5b575ff41e8a79c03a83868ebe763117655a7e3af4e4d13a304fcc29374c329"), looks := true }, kinds := [], alts := [], laidByText := true, laidKinds := [.data, .data, .data], laidTests := true, laidLooks := .later }
def ModeCutsUptoCardSaid : Prop := Claim7.holds Tryd.pinned (.plain (OpenSpec.upto modeCutsSpec)) modeCutsUptoCard

/-- THE SECOND FORM's CARD OF 'creellaw06.ModeGrows'. -/
def modeGrowsUptoCard : Claim7 := { stood := { row := modeGrowsUptoRow, standIns := [], harness := (true, "c5b575ff41e8a79c03a83868ebe763117655a7e3af4e4d13a304fcc29374c329"), looks := true }, kinds := [], alts := [], laidByText := true, laidKinds := [.data, .data, .data], laidTests := true, laidLooks := .later }
def ModeGrowsUptoCardSaid : Prop := Claim7.holds Tryd.pinned (.plain (OpenSpec.upto modeGrowsSpec)) modeGrowsUptoCard
end Rows
end Go.Proofs.YtobklbangjjocaaDoor
