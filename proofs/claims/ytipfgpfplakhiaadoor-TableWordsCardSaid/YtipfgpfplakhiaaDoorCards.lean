/-
  DERIVED. GIVEN WITH THE SEED: THE CARDS: each row of YtipfgpfplakhiaaDoorRows.lean that lists a variable, with what it lists TIED to the program's text (the seventh form; the later family's looks); each row that meets fmt, with fmt's text TOLD by the authors' own Lean function (tested against real Go, not proved from fmt's source: count such statements apart). THE CARD IS WHAT COUNTS. Prove the row's statement (the work); the ties are given (YtipfgpfplakhiaaDoorTie.lean); close each card by the builder's one call (the guide's Derived/Test/ToyasCard.lean, 'card_holds'). Laid BY PROGRAM, IN A SANDBOX (cutbox-door.mjs). By AI agents, Wed Nov 11 2026. No macro, syntax, notation, axiom, sorry.
-/
import Derived.Test.YtipfgpfplakhiaaDoorRows
import GoSem.ClaimSeven
namespace Go.Proofs.YtipfgpfplakhiaaDoor
namespace Rows

/-- THE TIED CARD OF 'snafflelaw06.MooreWords'. -/
def mooreWordsCard : Claim7 := { stood := { row := mooreWordsRow, standIns := [], harness := (true, "caf2bfbeb7403c65dc1a4548bd5d275accd3c7a45d8f0bff09be1bbc0117957e"), looks := true }, kinds := [], alts := [], laidByText := true, laidKinds := [.data], laidTests := true, laidLooks := .later }
def MooreWordsCardSaid : Prop := Claim7.holds Tryd.pinned (.plain (OpenSpec.ofChange mooreWordsSpec)) mooreWordsCard

/-- THE TIED CARD OF 'snafflelaw16.TableWords'. -/
def tableWordsCard : Claim7 := { stood := { row := tableWordsRow, standIns := [], harness := (true, "caf2bfbeb7403c65dc1a4548bd5d275accd3c7a45d8f0bff09be1bbc0117957e"), looks := true }, kinds := [], alts := [], laidByText := true, laidKinds := [.data], laidTests := true, laidLooks := .later }
def TableWordsCardSaid : Prop := Claim7.holds Tryd.pinned (.plain (OpenSpec.ofChange tableWordsSpec)) tableWordsCard

/-- THE SECOND FORM's CARD OF 'snafflelaw06.MooreWords'. -/
def mooreWordsUptoCard : Claim7 := { stood := { row := mooreWordsUptoRow, standIns := [], harness := (true, "caf2bfbeb7403c65dc1a4548bd5d275accd3c7a45d8f0bff09be1bbc0117957e"), looks := true }, kinds := [], alts := [], laidByText := true, laidKinds := [.data], laidTests := true, laidLooks := .later }
def MooreWordsUptoCardSaid : Prop := Claim7.holds Tryd.pinned (.plain (OpenSpec.upto mooreWordsSpec)) mooreWordsUptoCard

/-- THE SECOND FORM's CARD OF 'snafflelaw16.TableWords'. -/
def tableWordsUptoCard : Claim7 := { stood := { row := tableWordsUptoRow, standIns := [], harness := (true, "caf2bfbeb7403c65dc1a4548bd5d275accd3c7a45d8f0bff09be1bbc0117957e"), looks := true }, kinds := [], alts := [], laidByText := true, laidKinds := [.data], laidTests := true, laidLooks := .later }
def TableWordsUptoCardSaid : Prop := Claim7.holds Tryd.pinned (.plain (OpenSpec.upto tableWordsSpec)) tableWordsUptoCard
end Rows
end Go.Proofs.YtipfgpfplakhiaaDoor
