/-
  DERIVED. GIVEN WITH THE SEED: THE CARDS: each row of YtfkdpndcoegfpaaGreatDoorRows.lean that lists a variable, with what it lists TIED to the program's text (the seventh form; the later family's looks); each row that meets fmt, with fmt's text TOLD by the authors' own Lean function (tested against real Go, not proved from fmt's source: count such statements apart). THE CARD IS WHAT COUNTS. Prove the row's statement (the work); the ties are given (YtfkdpndcoegfpaaGreatDoorTie.lean); close each card by the builder's one call (the guide's Derived/Test/ToyasCard.lean, 'card_holds'). Laid BY PROGRAM, IN A SANDBOX (cutbox-door.mjs). By AI agents, Wed Nov 11 2026. No macro, syntax, notation, axiom, sorry.
-/
import Derived.Test.YtfkdpndcoegfpaaGreatDoorRows
import GoSem.ClaimSeven
namespace Go.Proofs.YtfkdpndcoegfpaaGreatDoor
namespace Rows

/-- THE TIED CARD OF 'creellaw04.WalOpens'. -/
def walOpensCard : Claim7 := { stood := { row := walOpensRow, standIns := [], harness := (true, "95831e4ee8df87804ed6bf41c07d6cf8297cb37d2c40946976607a733b6844f6"), looks := true }, kinds := [], alts := [], laidByText := true, laidKinds := [.data], laidTests := true, laidLooks := .later }
def WalOpensCardSaid : Prop := Claim7.holds Tryz.pinned (.plain (OpenSpec.ofChange walOpensSpec)) walOpensCard

/-- THE TIED CARD OF 'creellaw04.WalOrder'. -/
def walOrderCard : Claim7 := { stood := { row := walOrderRow, standIns := [], harness := (true, "95831e4ee8df87804ed6bf41c07d6cf8297cb37d2c40946976607a733b6844f6"), looks := true }, kinds := [], alts := [], laidByText := true, laidKinds := [.data], laidTests := true, laidLooks := .later }
def WalOrderCardSaid : Prop := Claim7.holds Tryz.pinned (.plain (OpenSpec.ofChange walOrderSpec)) walOrderCard

/-- THE TIED CARD OF 'creellaw07.InodePlays'. -/
def inodePlaysCard : Claim7 := { stood := { row := inodePlaysRow, standIns := [], harness := (true, "95831e4ee8df87804ed6bf41c07d6cf8297cb37d2c40946976607a733b6844f6"), looks := true }, kinds := [], alts := [], laidByText := true, laidKinds := [.data], laidTests := true, laidLooks := .later }
def InodePlaysCardSaid : Prop := Claim7.holds Tryz.pinned (.plain (OpenSpec.ofChange inodePlaysSpec)) inodePlaysCard

/-- THE TIED CARD OF 'creellaw07.InodeCrashes'. -/
def inodeCrashesCard : Claim7 := { stood := { row := inodeCrashesRow, standIns := [], harness := (true, "95831e4ee8df87804ed6bf41c07d6cf8297cb37d2c40946976607a733b6844f6"), looks := true }, kinds := [], alts := [], laidByText := true, laidKinds := [.data], laidTests := true, laidLooks := .later }
def InodeCrashesCardSaid : Prop := Claim7.holds Tryz.pinned (.plain (OpenSpec.ofChange inodeCrashesSpec)) inodeCrashesCard

/-- THE TIED CARD OF 'creellaw07.InodeNil'. -/
def inodeNilCard : Claim7 := { stood := { row := inodeNilRow, standIns := [], harness := (true, "95831e4ee8df87804ed6bf41c07d6cf8297cb37d2c40946976607a733b6844f6"), looks := true }, kinds := [], alts := [], laidByText := true, laidKinds := [.data], laidTests := true, laidLooks := .later }
def InodeNilCardSaid : Prop := Claim7.holds Tryz.pinned (.plain (OpenSpec.ofChange inodeNilSpec)) inodeNilCard

/-- THE SECOND FORM's CARD OF 'creellaw04.WalOpens'. -/
def walOpensUptoCard : Claim7 := { stood := { row := walOpensUptoRow, standIns := [], harness := (true, "95831e4ee8df87804ed6bf41c07d6cf8297cb37d2c40946976607a733b6844f6"), looks := true }, kinds := [], alts := [], laidByText := true, laidKinds := [.data], laidTests := true, laidLooks := .later }
def WalOpensUptoCardSaid : Prop := Claim7.holds Tryz.pinned (.plain (OpenSpec.upto walOpensSpec)) walOpensUptoCard

/-- THE SECOND FORM's CARD OF 'creellaw04.WalOrder'. -/
def walOrderUptoCard : Claim7 := { stood := { row := walOrderUptoRow, standIns := [], harness := (true, "95831e4ee8df87804ed6bf41c07d6cf8297cb37d2c40946976607a733b6844f6"), looks := true }, kinds := [], alts := [], laidByText := true, laidKinds := [.data], laidTests := true, laidLooks := .later }
def WalOrderUptoCardSaid : Prop := Claim7.holds Tryz.pinned (.plain (OpenSpec.upto walOrderSpec)) walOrderUptoCard

/-- THE SECOND FORM's CARD OF 'creellaw07.InodePlays'. -/
def inodePlaysUptoCard : Claim7 := { stood := { row := inodePlaysUptoRow, standIns := [], harness := (true, "95831e4ee8df87804ed6bf41c07d6cf8297cb37d2c40946976607a733b6844f6"), looks := true }, kinds := [], alts := [], laidByText := true, laidKinds := [.data], laidTests := true, laidLooks := .later }
def InodePlaysUptoCardSaid : Prop := Claim7.holds Tryz.pinned (.plain (OpenSpec.upto inodePlaysSpec)) inodePlaysUptoCard

/-- THE SECOND FORM's CARD OF 'creellaw07.InodeCrashes'. -/
def inodeCrashesUptoCard : Claim7 := { stood := { row := inodeCrashesUptoRow, standIns := [], harness := (true, "95831e4ee8df87804ed6bf41c07d6cf8297cb37d2c40946976607a733b6844f6"), looks := true }, kinds := [], alts := [], laidByText := true, laidKinds := [.data], laidTests := true, laidLooks := .later }
def InodeCrashesUptoCardSaid : Prop := Claim7.holds Tryz.pinned (.plain (OpenSpec.upto inodeCrashesSpec)) inodeCrashesUptoCard

/-- THE SECOND FORM's CARD OF 'creellaw07.InodeNil'. -/
def inodeNilUptoCard : Claim7 := { stood := { row := inodeNilUptoRow, standIns := [], harness := (true, "95831e4ee8df87804ed6bf41c07d6cf8297cb37d2c40946976607a733b6844f6"), looks := true }, kinds := [], alts := [], laidByText := true, laidKinds := [.data], laidTests := true, laidLooks := .later }
def InodeNilUptoCardSaid : Prop := Claim7.holds Tryz.pinned (.plain (OpenSpec.upto inodeNilSpec)) inodeNilUptoCard
end Rows
end Go.Proofs.YtfkdpndcoegfpaaGreatDoor
