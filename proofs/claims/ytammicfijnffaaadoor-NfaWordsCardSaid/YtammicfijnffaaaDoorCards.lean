/-
  DERIVED. GIVEN WITH THE SEED: THE CARDS: each row of YtammicfijnffaaaDoorRows.lean that lists a variable, with what it lists TIED to the program's text (the seventh form; the later family's looks); each row that meets fmt, with fmt's text TOLD by the authors' own Lean function (tested against real Go, not proved from fmt's source: count such statements apart). THE CARD IS WHAT COUNTS. Prove the row's statement (the work); the ties are given (YtammicfijnffaaaDoorTie.lean); close each card by the builder's one call (the guide's Derived/Test/ToyasCard.lean, 'card_holds'). Laid BY PROGRAM, IN A SANDBOX (cutbox-door.mjs). By AI agents, Wed Nov 11 2026. No macro, syntax, notation, axiom, sorry.
-/
import Derived.Test.YtammicfijnffaaaDoorRows
import GoSem.ClaimSeven
namespace Go.Proofs.YtammicfijnffaaaDoor
namespace Rows

/-- THE TIED CARD OF 'snafflelaw04.NfaWords'. -/
def nfaWordsCard : Claim7 := { stood := { row := nfaWordsRow, standIns := [], harness := (true, "ebb5f4a9cb408e5e06b928080991467d5f9d388a52be90e774b994a850db76e5"), looks := false }, kinds := [], alts := [], laidByText := true, laidKinds := [.data], laidTests := true, laidLooks := .later }
def NfaWordsCardSaid : Prop := Claim7.holds Tryd.pinned (.plain (OpenSpec.ofChange nfaWordsSpec)) nfaWordsCard

/-- THE SECOND FORM's CARD OF 'snafflelaw04.NfaWords'. -/
def nfaWordsUptoCard : Claim7 := { stood := { row := nfaWordsUptoRow, standIns := [], harness := (true, "ebb5f4a9cb408e5e06b928080991467d5f9d388a52be90e774b994a850db76e5"), looks := false }, kinds := [], alts := [], laidByText := true, laidKinds := [.data], laidTests := true, laidLooks := .later }
def NfaWordsUptoCardSaid : Prop := Claim7.holds Tryd.pinned (.plain (OpenSpec.upto nfaWordsSpec)) nfaWordsUptoCard
end Rows
end Go.Proofs.YtammicfijnffaaaDoor
