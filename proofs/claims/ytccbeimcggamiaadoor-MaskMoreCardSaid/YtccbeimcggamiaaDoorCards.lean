/-
  DERIVED. GIVEN WITH THE SEED: THE CARDS: each row of YtccbeimcggamiaaDoorRows.lean that lists a variable, with what it lists TIED to the program's text (the seventh form; the later family's looks); each row that meets fmt, with fmt's text TOLD by the authors' own Lean function (tested against real Go, not proved from fmt's source: count such statements apart). THE CARD IS WHAT COUNTS. Prove the row's statement (the work); the ties are given (YtccbeimcggamiaaDoorTie.lean); close each card by the builder's one call (the guide's Derived/Test/ToyasCard.lean, 'card_holds'). Laid BY PROGRAM, IN A SANDBOX (cutbox-door.mjs). By AI agents, Wed Nov 11 2026. No macro, syntax, notation, axiom, sorry.
-/
import Derived.Test.YtccbeimcggamiaaDoorRows
import GoSem.ClaimSeven
namespace Go.Proofs.YtccbeimcggamiaaDoor
namespace Rows

/-- THE TIED CARD OF 'snafflelaw04.NfaWords'. -/
def nfaWordsCard : Claim7 := { stood := { row := nfaWordsRow, standIns := [], harness := (true, "88c6720a7611b3843353533191917c8dff4c9b3ea03dacb786474d27de57fbcd"), looks := true }, kinds := [], alts := [], laidByText := true, laidKinds := [.data], laidTests := true, laidLooks := .later }
def NfaWordsCardSaid : Prop := Claim7.holds Tryd.pinned (.plain (OpenSpec.ofChange nfaWordsSpec)) nfaWordsCard

/-- THE TIED CARD OF 'snafflelaw06.MooreWords'. -/
def mooreWordsCard : Claim7 := { stood := { row := mooreWordsRow, standIns := [], harness := (true, "88c6720a7611b3843353533191917c8dff4c9b3ea03dacb786474d27de57fbcd"), looks := true }, kinds := [], alts := [], laidByText := true, laidKinds := [.data], laidTests := true, laidLooks := .later }
def MooreWordsCardSaid : Prop := Claim7.holds Tryd.pinned (.plain (OpenSpec.ofChange mooreWordsSpec)) mooreWordsCard

/-- THE TIED CARD OF 'snafflelaw09.MaskTells'. -/
def maskTellsCard : Claim7 := { stood := { row := maskTellsRow, standIns := [], harness := (true, "88c6720a7611b3843353533191917c8dff4c9b3ea03dacb786474d27de57fbcd"), looks := true }, kinds := [], alts := [], laidByText := true, laidKinds := [.data], laidTests := true, laidLooks := .later }
def MaskTellsCardSaid : Prop := Claim7.holds Tryd.pinned (.plain (OpenSpec.ofChange maskTellsSpec)) maskTellsCard

/-- THE TIED CARD OF 'snafflelaw09.MaskMore'. -/
def maskMoreCard : Claim7 := { stood := { row := maskMoreRow, standIns := [], harness := (true, "88c6720a7611b3843353533191917c8dff4c9b3ea03dacb786474d27de57fbcd"), looks := true }, kinds := [], alts := [], laidByText := true, laidKinds := [.data], laidTests := true, laidLooks := .later }
def MaskMoreCardSaid : Prop := Claim7.holds Tryd.pinned (.plain (OpenSpec.ofChange maskMoreSpec)) maskMoreCard

/-- THE SECOND FORM's CARD OF 'snafflelaw04.NfaWords'. -/
def nfaWordsUptoCard : Claim7 := { stood := { row := nfaWordsUptoRow, standIns := [], harness := (true, "88c6720a7611b3843353533191917c8dff4c9b3ea03dacb786474d27de57fbcd"), looks := true }, kinds := [], alts := [], laidByText := true, laidKinds := [.data], laidTests := true, laidLooks := .later }
def NfaWordsUptoCardSaid : Prop := Claim7.holds Tryd.pinned (.plain (OpenSpec.upto nfaWordsSpec)) nfaWordsUptoCard

/-- THE SECOND FORM's CARD OF 'snafflelaw06.MooreWords'. -/
def mooreWordsUptoCard : Claim7 := { stood := { row := mooreWordsUptoRow, standIns := [], harness := (true, "88c6720a7611b3843353533191917c8dff4c9b3ea03dacb786474d27de57fbcd"), looks := true }, kinds := [], alts := [], laidByText := true, laidKinds := [.data], laidTests := true, laidLooks := .later }
def MooreWordsUptoCardSaid : Prop := Claim7.holds Tryd.pinned (.plain (OpenSpec.upto mooreWordsSpec)) mooreWordsUptoCard

/-- THE SECOND FORM's CARD OF 'snafflelaw09.MaskTells'. -/
def maskTellsUptoCard : Claim7 := { stood := { row := maskTellsUptoRow, standIns := [], harness := (true, "88c6720a7611b3843353533191917c8dff4c9b3ea03dacb786474d27de57fbcd"), looks := true }, kinds := [], alts := [], laidByText := true, laidKinds := [.data], laidTests := true, laidLooks := .later }
def MaskTellsUptoCardSaid : Prop := Claim7.holds Tryd.pinned (.plain (OpenSpec.upto maskTellsSpec)) maskTellsUptoCard

/-- THE SECOND FORM's CARD OF 'snafflelaw09.MaskMore'. -/
def maskMoreUptoCard : Claim7 := { stood := { row := maskMoreUptoRow, standIns := [], harness := (true, "88c6720a7611b3843353533191917c8dff4c9b3ea03dacb786474d27de57fbcd"), looks := true }, kinds := [], alts := [], laidByText := true, laidKinds := [.data], laidTests := true, laidLooks := .later }
def MaskMoreUptoCardSaid : Prop := Claim7.holds Tryd.pinned (.plain (OpenSpec.upto maskMoreSpec)) maskMoreUptoCard
end Rows
end Go.Proofs.YtccbeimcggamiaaDoor
