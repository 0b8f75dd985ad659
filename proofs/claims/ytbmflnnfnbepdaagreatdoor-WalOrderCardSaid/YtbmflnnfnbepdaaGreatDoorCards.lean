/-
  DERIVED. GIVEN WITH THE SEED: THE CARDS: each row of YtbmflnnfnbepdaaGreatDoorRows.lean that lists a variable, with what it lists TIED to the program's text (the seventh form; the later family's looks); each row that meets fmt, with fmt's text TOLD by the authors' own Lean function (tested against real Go, not proved from fmt's source: count such statements apart). THE CARD IS WHAT COUNTS. Prove the row's statement (the work); the ties are given (YtbmflnnfnbepdaaGreatDoorTie.lean); close each card by the builder's one call (the guide's Derived/Test/ToyasCard.lean, 'card_holds'). Laid BY PROGRAM, IN A SANDBOX (cutbox-door.mjs). By AI agents, Wed Nov 11 2026. No macro, syntax, notation, axiom, sorry.
-/
import Derived.Test.YtbmflnnfnbepdaaGreatDoorRows
import GoSem.ClaimSeven
namespace Go.Proofs.YtbmflnnfnbepdaaGreatDoor
namespace Rows

/-- THE TIED CARD OF 'creellaw04.WalOpens'. -/
def walOpensCard : Claim7 := { stood := { row := walOpensRow, standIns := [], harness := (true, "1aa3747e5a84ecc28b10268d3db6645b3f529b6d6ac465f89077a5bc1d6d910a"), looks := false }, kinds := [], alts := [], laidByText := true, laidKinds := [.data], laidTests := true, laidLooks := .later }
def WalOpensCardSaid : Prop := Claim7.holds Tryz.pinned (.plain (OpenSpec.ofChange walOpensSpec)) walOpensCard

/-- THE TIED CARD OF 'creellaw04.WalOrder'. -/
def walOrderCard : Claim7 := { stood := { row := walOrderRow, standIns := [], harness := (true, "1aa3747e5a84ecc28b10268d3db6645b3f529b6d6ac465f89077a5bc1d6d910a"), looks := false }, kinds := [], alts := [], laidByText := true, laidKinds := [.data], laidTests := true, laidLooks := .later }
def WalOrderCardSaid : Prop := Claim7.holds Tryz.pinned (.plain (OpenSpec.ofChange walOrderSpec)) walOrderCard

/-- THE SECOND FORM's CARD OF 'creellaw04.WalOpens'. -/
def walOpensUptoCard : Claim7 := { stood := { row := walOpensUptoRow, standIns := [], harness := (true, "1aa3747e5a84ecc28b10268d3db6645b3f529b6d6ac465f89077a5bc1d6d910a"), looks := false }, kinds := [], alts := [], laidByText := true, laidKinds := [.data], laidTests := true, laidLooks := .later }
def WalOpensUptoCardSaid : Prop := Claim7.holds Tryz.pinned (.plain (OpenSpec.upto walOpensSpec)) walOpensUptoCard

/-- THE SECOND FORM's CARD OF 'creellaw04.WalOrder'. -/
def walOrderUptoCard : Claim7 := { stood := { row := walOrderUptoRow, standIns := [], harness := (true, "1aa3747e5a84ecc28b10268d3db6645b3f529b6d6ac465f89077a5bc1d6d910a"), looks := false }, kinds := [], alts := [], laidByText := true, laidKinds := [.data], laidTests := true, laidLooks := .later }
def WalOrderUptoCardSaid : Prop := Claim7.holds Tryz.pinned (.plain (OpenSpec.upto walOrderSpec)) walOrderUptoCard
end Rows
end Go.Proofs.YtbmflnnfnbepdaaGreatDoor
