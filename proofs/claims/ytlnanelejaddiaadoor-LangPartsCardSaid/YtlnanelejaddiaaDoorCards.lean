/-
  DERIVED. GIVEN WITH THE SEED: THE CARDS: each row of YtlnanelejaddiaaDoorRows.lean that lists a variable, with what it lists TIED to the program's text (the seventh form; the later family's looks); each row that meets fmt, with fmt's text TOLD by the authors' own Lean function (tested against real Go, not proved from fmt's source: count such statements apart). THE CARD IS WHAT COUNTS. Prove the row's statement (the work); the ties are given (YtlnanelejaddiaaDoorTie.lean); close each card by the builder's one call (the guide's Derived/Test/ToyasCard.lean, 'card_holds'). Laid BY PROGRAM, IN A SANDBOX (cutbox-door.mjs). By AI agents, Wed Nov 11 2026. No macro, syntax, notation, axiom, sorry.
-/
import Derived.Test.YtlnanelejaddiaaDoorRows
import GoSem.ClaimSeven
namespace Go.Proofs.YtlnanelejaddiaaDoor
namespace Rows

/-- THE TIED CARD OF 'snafflelaw03.LangTells'. -/
def langTellsCard : Claim7 := { stood := { row := langTellsRow, standIns := [], harness := (true, "5f06e07ed34ada1c3f54aef3ca2f7c69a836ba489f8a19ae347ff3226e98f8de"), looks := false }, kinds := [], alts := [], laidByText := true, laidKinds := [.data], laidTests := true, laidLooks := .later }
def LangTellsCardSaid : Prop := Claim7.holds Tryd.pinned (.plain (OpenSpec.ofChange langTellsSpec)) langTellsCard

/-- THE TIED CARD OF 'snafflelaw03.LangParts'. -/
def langPartsCard : Claim7 := { stood := { row := langPartsRow, standIns := [], harness := (true, "5f06e07ed34ada1c3f54aef3ca2f7c69a836ba489f8a19ae347ff3226e98f8de"), looks := false }, kinds := [], alts := [], laidByText := true, laidKinds := [.data], laidTests := true, laidLooks := .later }
def LangPartsCardSaid : Prop := Claim7.holds Tryd.pinned (.plain (OpenSpec.ofChange langPartsSpec)) langPartsCard

/-- THE TIED CARD OF 'snafflelaw04.NfaWords'. -/
def nfaWordsCard : Claim7 := { stood := { row := nfaWordsRow, standIns := [], harness := (true, "5f06e07ed34ada1c3f54aef3ca2f7c69a836ba489f8a19ae347ff3226e98f8de"), looks := false }, kinds := [], alts := [], laidByText := true, laidKinds := [.data], laidTests := true, laidLooks := .later }
def NfaWordsCardSaid : Prop := Claim7.holds Tryd.pinned (.plain (OpenSpec.ofChange nfaWordsSpec)) nfaWordsCard

/-- THE SECOND FORM's CARD OF 'snafflelaw03.LangTells'. -/
def langTellsUptoCard : Claim7 := { stood := { row := langTellsUptoRow, standIns := [], harness := (true, "5f06e07ed34ada1c3f54aef3ca2f7c69a836ba489f8a19ae347ff3226e98f8de"), looks := false }, kinds := [], alts := [], laidByText := true, laidKinds := [.data], laidTests := true, laidLooks := .later }
def LangTellsUptoCardSaid : Prop := Claim7.holds Tryd.pinned (.plain (OpenSpec.upto langTellsSpec)) langTellsUptoCard

/-- THE SECOND FORM's CARD OF 'snafflelaw03.LangParts'. -/
def langPartsUptoCard : Claim7 := { stood := { row := langPartsUptoRow, standIns := [], harness := (true, "5f06e07ed34ada1c3f54aef3ca2f7c69a836ba489f8a19ae347ff3226e98f8de"), looks := false }, kinds := [], alts := [], laidByText := true, laidKinds := [.data], laidTests := true, laidLooks := .later }
def LangPartsUptoCardSaid : Prop := Claim7.holds Tryd.pinned (.plain (OpenSpec.upto langPartsSpec)) langPartsUptoCard

/-- THE SECOND FORM's CARD OF 'snafflelaw04.NfaWords'. -/
def nfaWordsUptoCard : Claim7 := { stood := { row := nfaWordsUptoRow, standIns := [], harness := (true, "5f06e07ed34ada1c3f54aef3ca2f7c69a836ba489f8a19ae347ff3226e98f8de"), looks := false }, kinds := [], alts := [], laidByText := true, laidKinds := [.data], laidTests := true, laidLooks := .later }
def NfaWordsUptoCardSaid : Prop := Claim7.holds Tryd.pinned (.plain (OpenSpec.upto nfaWordsSpec)) nfaWordsUptoCard
end Rows
end Go.Proofs.YtlnanelejaddiaaDoor
