/-
  DERIVED. GIVEN WITH THE SEED: THE CARDS: each row of YtkmkblhmjeeaeaaGreatDoorRows.lean that lists a variable, with what it lists TIED to the program's text (the seventh form; the later family's looks); each row that meets fmt, with fmt's text TOLD by the authors' own Lean function (tested against real Go, not proved from fmt's source: count such statements apart). THE CARD IS WHAT COUNTS. Prove the row's statement (the work); the ties are given (YtkmkblhmjeeaeaaGreatDoorTie.lean); close each card by the builder's one call (the guide's Derived/Test/ToyasCard.lean, 'card_holds'). Laid BY PROGRAM, IN A SANDBOX (cutbox-door.mjs). By AI agents, Wed Nov 11 2026. No macro, syntax, notation, axiom, sorry.
-/
import Derived.Test.YtkmkblhmjeeaeaaGreatDoorRows
import GoSem.ClaimSeven
namespace Go.Proofs.YtkmkblhmjeeaeaaGreatDoor
namespace Rows

/-- THE TIED CARD OF 'creellaw07.InodePlays'. -/
def inodePlaysCard : Claim7 := { stood := { row := inodePlaysRow, standIns := [], harness := (true, "3fc27f915843535d27d6dc27eec34b4b59755181b068dc156c6f591294430040"), looks := true }, kinds := [], alts := [], laidByText := true, laidKinds := [.data], laidTests := true, laidLooks := .later }
def InodePlaysCardSaid : Prop := Claim7.holds Tryz.pinned (.plain (OpenSpec.ofChange inodePlaysSpec)) inodePlaysCard

/-- THE TIED CARD OF 'creellaw07.InodeNil'. -/
def inodeNilCard : Claim7 := { stood := { row := inodeNilRow, standIns := [], harness := (true, "3fc27f915843535d27d6dc27eec34b4b59755181b068dc156c6f591294430040"), looks := true }, kinds := [], alts := [], laidByText := true, laidKinds := [.data], laidTests := true, laidLooks := .later }
def InodeNilCardSaid : Prop := Claim7.holds Tryz.pinned (.plain (OpenSpec.ofChange inodeNilSpec)) inodeNilCard

/-- THE SECOND FORM's CARD OF 'creellaw07.InodePlays'. -/
def inodePlaysUptoCard : Claim7 := { stood := { row := inodePlaysUptoRow, standIns := [], harness := (true, "3fc27f915843535d27d6dc27eec34b4b59755181b068dc156c6f591294430040"), looks := true }, kinds := [], alts := [], laidByText := true, laidKinds := [.data], laidTests := true, laidLooks := .later }
def InodePlaysUptoCardSaid : Prop := Claim7.holds Tryz.pinned (.plain (OpenSpec.upto inodePlaysSpec)) inodePlaysUptoCard

/-- THE SECOND FORM's CARD OF 'creellaw07.InodeNil'. -/
def inodeNilUptoCard : Claim7 := { stood := { row := inodeNilUptoRow, standIns := [], harness := (true, "3fc27f915843535d27d6dc27eec34b4b59755181b068dc156c6f591294430040"), looks := true }, kinds := [], alts := [], laidByText := true, laidKinds := [.data], laidTests := true, laidLooks := .later }
def InodeNilUptoCardSaid : Prop := Claim7.holds Tryz.pinned (.plain (OpenSpec.upto inodeNilSpec)) inodeNilUptoCard
end Rows
end Go.Proofs.YtkmkblhmjeeaeaaGreatDoor
