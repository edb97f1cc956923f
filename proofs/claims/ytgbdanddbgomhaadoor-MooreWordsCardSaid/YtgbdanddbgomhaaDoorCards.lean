/-
  DERIVED. GIVEN WITH THE SEED: THE CARDS: each row of YtgbdanddbgomhaaDoorRows.lean that lists a variable, with what it lists TIED to the program's text (the seventh form; the later family's looks); each row that meets fmt, with fmt's text TOLD by the authors' own Lean function (tested against real Go, not proved from fmt's source: count such statements apart). THE CARD IS WHAT COUNTS. Prove the row's statement (the work); the ties are given (YtgbdanddbgomhaaDoorTie.lean); close each card by the builder's one call (the guide's Derived/Test/ToyasCard.lean, 'card_holds'). Laid BY PROGRAM, IN A SANDBOX (cutbox-door.mjs). By AI agents, Wed Nov 11 2026. No macro, syntax, notation, axiom, sorry.
-/
import Derived.Test.YtgbdanddbgomhaaDoorRows
import GoSem.ClaimSeven
namespace Go.Proofs.YtgbdanddbgomhaaDoor
namespace Rows

/-- THE TIED CARD OF 'snafflelaw03.LangTells'. -/
def langTellsCard : Claim7 := { stood := { row := langTellsRow, standIns := [], harness := (true, "2d090f68291f1e6cb35ddfd0630257312d67771f582031fdc465490bea165140"), looks := true }, kinds := [], alts := [], laidByText := true, laidKinds := [.data], laidTests := true, laidLooks := .later }
def LangTellsCardSaid : Prop := Claim7.holds Tryd.pinned (.plain (OpenSpec.ofChange langTellsSpec)) langTellsCard

/-- THE TIED CARD OF 'snafflelaw04.NfaWords'. -/
def nfaWordsCard : Claim7 := { stood := { row := nfaWordsRow, standIns := [], harness := (true, "2d090f68291f1e6cb35ddfd0630257312d67771f582031fdc465490bea165140"), looks := true }, kinds := [], alts := [], laidByText := true, laidKinds := [.data], laidTests := true, laidLooks := .later }
def NfaWordsCardSaid : Prop := Claim7.holds Tryd.pinned (.plain (OpenSpec.ofChange nfaWordsSpec)) nfaWordsCard

/-- THE TIED CARD OF 'snafflelaw06.MooreWords'. -/
def mooreWordsCard : Claim7 := { stood := { row := mooreWordsRow, standIns := [], harness := (true, "2d090f68291f1e6cb35ddfd0630257312d67771f582031fdc465490bea165140"), looks := true }, kinds := [], alts := [], laidByText := true, laidKinds := [.data], laidTests := true, laidLooks := .later }
def MooreWordsCardSaid : Prop := Claim7.holds Tryd.pinned (.plain (OpenSpec.ofChange mooreWordsSpec)) mooreWordsCard

/-- THE TIED CARD OF 'snafflelaw14.RulesTells'. -/
def rulesTellsCard : Claim7 := { stood := { row := rulesTellsRow, standIns := [], harness := (true, "2d090f68291f1e6cb35ddfd0630257312d67771f582031fdc465490bea165140"), looks := true }, kinds := [], alts := [], laidByText := true, laidKinds := [.data, .pinned], laidTests := true, laidLooks := .later }
def RulesTellsCardSaid : Prop := Claim7.holds Tryd.pinned (.plain (OpenSpec.ofChange rulesTellsSpec)) rulesTellsCard

/-- THE SECOND FORM's CARD OF 'snafflelaw03.LangTells'. -/
def langTellsUptoCard : Claim7 := { stood := { row := langTellsUptoRow, standIns := [], harness := (true, "2d090f68291f1e6cb35ddfd0630257312d67771f582031fdc465490bea165140"), looks := true }, kinds := [], alts := [], laidByText := true, laidKinds := [.data], laidTests := true, laidLooks := .later }
def LangTellsUptoCardSaid : Prop := Claim7.holds Tryd.pinned (.plain (OpenSpec.upto langTellsSpec)) langTellsUptoCard

/-- THE SECOND FORM's CARD OF 'snafflelaw04.NfaWords'. -/
def nfaWordsUptoCard : Claim7 := { stood := { row := nfaWordsUptoRow, standIns := [], harness := (true, "2d090f68291f1e6cb35ddfd0630257312d67771f582031fdc465490bea165140"), looks := true }, kinds := [], alts := [], laidByText := true, laidKinds := [.data], laidTests := true, laidLooks := .later }
def NfaWordsUptoCardSaid : Prop := Claim7.holds Tryd.pinned (.plain (OpenSpec.upto nfaWordsSpec)) nfaWordsUptoCard

/-- THE SECOND FORM's CARD OF 'snafflelaw06.MooreWords'. -/
def mooreWordsUptoCard : Claim7 := { stood := { row := mooreWordsUptoRow, standIns := [], harness := (true, "2d090f68291f1e6cb35ddfd0630257312d67771f582031fdc465490bea165140"), looks := true }, kinds := [], alts := [], laidByText := true, laidKinds := [.data], laidTests := true, laidLooks := .later }
def MooreWordsUptoCardSaid : Prop := Claim7.holds Tryd.pinned (.plain (OpenSpec.upto mooreWordsSpec)) mooreWordsUptoCard

/-- THE SECOND FORM's CARD OF 'snafflelaw14.RulesTells'. -/
def rulesTellsUptoCard : Claim7 := { stood := { row := rulesTellsUptoRow, standIns := [], harness := (true, "2d090f68291f1e6cb35ddfd0630257312d67771f582031fdc465490bea165140"), looks := true }, kinds := [], alts := [], laidByText := true, laidKinds := [.data, .pinned], laidTests := true, laidLooks := .later }
def RulesTellsUptoCardSaid : Prop := Claim7.holds Tryd.pinned (.plain (OpenSpec.upto rulesTellsSpec)) rulesTellsUptoCard
end Rows
end Go.Proofs.YtgbdanddbgomhaaDoor
