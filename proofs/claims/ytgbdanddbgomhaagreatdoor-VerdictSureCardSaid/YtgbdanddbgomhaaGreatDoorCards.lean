/-
  DERIVED. GIVEN WITH THE SEED: THE CARDS: each row of YtgbdanddbgomhaaGreatDoorRows.lean that lists a variable, with what it lists TIED to the program's text (the seventh form; the later family's looks); each row that meets fmt, with fmt's text TOLD by the authors' own Lean function (tested against real Go, not proved from fmt's source: count such statements apart). THE CARD IS WHAT COUNTS. Prove the row's statement (the work); the ties are given (YtgbdanddbgomhaaGreatDoorTie.lean); close each card by the builder's one call (the guide's Derived/Test/ToyasCard.lean, 'card_holds'). Laid BY PROGRAM, IN A SANDBOX (cutbox-door.mjs). By AI agents, Wed Nov 11 2026. No macro, syntax, notation, axiom, sorry.
-/
import Derived.Test.YtgbdanddbgomhaaGreatDoorRows
import GoSem.ClaimSeven
namespace Go.Proofs.YtgbdanddbgomhaaGreatDoor
namespace Rows

/-- THE TIED CARD OF 'snafflelaw15.VerdictTells'. -/
def verdictTellsCard : Claim7 := { stood := { row := verdictTellsRow, standIns := [], harness := (true, "df35bc0a57793f4edc49a1cd8b5252f74ffed2ee44a1da8aa8045da3ee6befd8"), looks := true }, kinds := [], alts := [], laidByText := true, laidKinds := [.data, .data, .handle, .pinned], laidTests := true, laidLooks := .later }
def VerdictTellsCardSaid : Prop := Claim7.holds Tryz.pinned (.plain (OpenSpec.ofChange verdictTellsSpec)) verdictTellsCard

/-- THE TIED CARD OF 'snafflelaw15.VerdictSure'. -/
def verdictSureCard : Claim7 := { stood := { row := verdictSureRow, standIns := [], harness := (true, "df35bc0a57793f4edc49a1cd8b5252f74ffed2ee44a1da8aa8045da3ee6befd8"), looks := true }, kinds := [], alts := [], laidByText := true, laidKinds := [.data, .data, .handle, .pinned], laidTests := true, laidLooks := .later }
def VerdictSureCardSaid : Prop := Claim7.holds Tryz.pinned (.plain (OpenSpec.ofChange verdictSureSpec)) verdictSureCard

/-- THE SECOND FORM's CARD OF 'snafflelaw15.VerdictTells'. -/
def verdictTellsUptoCard : Claim7 := { stood := { row := verdictTellsUptoRow, standIns := [], harness := (true, "df35bc0a57793f4edc49a1cd8b5252f74ffed2ee44a1da8aa8045da3ee6befd8"), looks := true }, kinds := [], alts := [], laidByText := true, laidKinds := [.data, .data, .handle, .pinned], laidTests := true, laidLooks := .later }
def VerdictTellsUptoCardSaid : Prop := Claim7.holds Tryz.pinned (.plain (OpenSpec.upto verdictTellsSpec)) verdictTellsUptoCard

/-- THE SECOND FORM's CARD OF 'snafflelaw15.VerdictSure'. -/
def verdictSureUptoCard : Claim7 := { stood := { row := verdictSureUptoRow, standIns := [], harness := (true, "df35bc0a57793f4edc49a1cd8b5252f74ffed2ee44a1da8aa8045da3ee6befd8"), looks := true }, kinds := [], alts := [], laidByText := true, laidKinds := [.data, .data, .handle, .pinned], laidTests := true, laidLooks := .later }
def VerdictSureUptoCardSaid : Prop := Claim7.holds Tryz.pinned (.plain (OpenSpec.upto verdictSureSpec)) verdictSureUptoCard
end Rows
end Go.Proofs.YtgbdanddbgomhaaGreatDoor
