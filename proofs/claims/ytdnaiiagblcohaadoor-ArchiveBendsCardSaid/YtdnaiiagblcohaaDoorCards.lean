/-
  DERIVED. GIVEN WITH THE SEED: THE CARDS: each row of YtdnaiiagblcohaaDoorRows.lean that lists a variable, with what it lists TIED to the program's text (the seventh form; the later family's looks); each row that meets fmt, with fmt's text TOLD by the authors' own Lean function (tested against real Go, not proved from fmt's source: count such statements apart). THE CARD IS WHAT COUNTS. Prove the row's statement (the work); the ties are given (YtdnaiiagblcohaaDoorTie.lean); close each card by the builder's one call (the guide's Derived/Test/ToyasCard.lean, 'card_holds'). Laid BY PROGRAM, IN A SANDBOX (cutbox-door.mjs). By AI agents, Wed Nov 11 2026. No macro, syntax, notation, axiom, sorry.
-/
import Derived.Test.YtdnaiiagblcohaaDoorRows
import GoSem.ClaimSeven
namespace Go.Proofs.YtdnaiiagblcohaaDoor
namespace Rows

/-- THE TIED CARD OF 'creellaw12.ArchiveBends'. -/
def archiveBendsCard : Claim7 := { stood := { row := archiveBendsRow, standIns := [], harness := (true, "2c4814b33ff4d3e78ba14b5edb2803d0b0c85f40f21fd32f514d953b6d12ead8"), looks := false }, kinds := [], alts := [], laidByText := true, laidKinds := [.data, .data, .data, .pinned], laidTests := true, laidLooks := .later }
def ArchiveBendsCardSaid : Prop := Claim7.holds Tryd.pinned (.plain (OpenSpec.ofChange archiveBendsSpec)) archiveBendsCard

/-- THE SECOND FORM's CARD OF 'creellaw12.ArchiveBends'. -/
def archiveBendsUptoCard : Claim7 := { stood := { row := archiveBendsUptoRow, standIns := [], harness := (true, "2c4814b33ff4d3e78ba14b5edb2803d0b0c85f40f21fd32f514d953b6d12ead8"), looks := false }, kinds := [], alts := [], laidByText := true, laidKinds := [.data, .data, .data, .pinned], laidTests := true, laidLooks := .later }
def ArchiveBendsUptoCardSaid : Prop := Claim7.holds Tryd.pinned (.plain (OpenSpec.upto archiveBendsSpec)) archiveBendsUptoCard
end Rows
end Go.Proofs.YtdnaiiagblcohaaDoor
