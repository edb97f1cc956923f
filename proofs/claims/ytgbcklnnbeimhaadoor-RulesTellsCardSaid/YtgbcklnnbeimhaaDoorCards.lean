/-
  DERIVED. GIVEN WITH THE SEED: THE CARDS: each row of YtgbcklnnbeimhaaDoorRows.lean that lists a variable, with what it lists TIED to the program's text (the seventh form; the later family's looks); each row that meets fmt, with fmt's text TOLD by the authors' own Lean function (tested against real Go, not proved from fmt's source: count such statements apart). THE CARD IS WHAT COUNTS. Prove the row's statement (the work); the ties are given (YtgbcklnnbeimhaaDoorTie.lean); close each card by the builder's one call (the guide's Derived/Test/ToyasCard.lean, 'card_holds'). Laid BY PROGRAM, IN A SANDBOX (cutbox-door.mjs). By AI agents, Wed Nov 11 2026. No macro, syntax, notation, axiom, sorry.
-/
import Derived.Test.YtgbcklnnbeimhaaDoorRows
import GoSem.ClaimSeven
namespace Go.Proofs.YtgbcklnnbeimhaaDoor
namespace Rows

/-- THE TIED CARD OF 'snafflelaw14.RulesTells'. -/
def rulesTellsCard : Claim7 := { stood := { row := rulesTellsRow, standIns := [], harness := (true, "881fa07a3dbff21f9c5cbc36d7b1a2fd224e126eb42ddd998b13a9a8fd36b562"), looks := true }, kinds := [], alts := [], laidByText := true, laidKinds := [.data, .pinned], laidTests := true, laidLooks := .later }
def RulesTellsCardSaid : Prop := Claim7.holds Tryd.pinned (.plain (OpenSpec.ofChange rulesTellsSpec)) rulesTellsCard

/-- THE TIED CARD OF 'snafflelaw14.RulesShow'. -/
def rulesShowCard : Claim7 := { stood := { row := rulesShowRow, standIns := [], harness := (true, "881fa07a3dbff21f9c5cbc36d7b1a2fd224e126eb42ddd998b13a9a8fd36b562"), looks := true }, kinds := [], alts := [], laidByText := true, laidKinds := [.data, .pinned], laidTests := true, laidLooks := .later }
def RulesShowCardSaid : Prop := Claim7.holds Tryd.pinned (.plain (OpenSpec.ofChange rulesShowSpec)) rulesShowCard

/-- THE TIED CARD OF 'snafflelaw14.RulesBack'. -/
def rulesBackCard : Claim7 := { stood := { row := rulesBackRow, standIns := [], harness := (true, "881fa07a3dbff21f9c5cbc36d7b1a2fd224e126eb42ddd998b13a9a8fd36b562"), looks := true }, kinds := [], alts := [], laidByText := true, laidKinds := [.data, .pinned], laidTests := true, laidLooks := .later }
def RulesBackCardSaid : Prop := Claim7.holds Tryd.pinned (.plain (OpenSpec.ofChange rulesBackSpec)) rulesBackCard

/-- THE SECOND FORM's CARD OF 'snafflelaw14.RulesTells'. -/
def rulesTellsUptoCard : Claim7 := { stood := { row := rulesTellsUptoRow, standIns := [], harness := (true, "881fa07a3dbff21f9c5cbc36d7b1a2fd224e126eb42ddd998b13a9a8fd36b562"), looks := true }, kinds := [], alts := [], laidByText := true, laidKinds := [.data, .pinned], laidTests := true, laidLooks := .later }
def RulesTellsUptoCardSaid : Prop := Claim7.holds Tryd.pinned (.plain (OpenSpec.upto rulesTellsSpec)) rulesTellsUptoCard

/-- THE SECOND FORM's CARD OF 'snafflelaw14.RulesShow'. -/
def rulesShowUptoCard : Claim7 := { stood := { row := rulesShowUptoRow, standIns := [], harness := (true, "881fa07a3dbff21f9c5cbc36d7b1a2fd224e126eb42ddd998b13a9a8fd36b562"), looks := true }, kinds := [], alts := [], laidByText := true, laidKinds := [.data, .pinned], laidTests := true, laidLooks := .later }
def RulesShowUptoCardSaid : Prop := Claim7.holds Tryd.pinned (.plain (OpenSpec.upto rulesShowSpec)) rulesShowUptoCard

/-- THE SECOND FORM's CARD OF 'snafflelaw14.RulesBack'. -/
def rulesBackUptoCard : Claim7 := { stood := { row := rulesBackUptoRow, standIns := [], harness := (true, "881fa07a3dbff21f9c5cbc36d7b1a2fd224e126eb42ddd998b13a9a8fd36b562"), looks := true }, kinds := [], alts := [], laidByText := true, laidKinds := [.data, .pinned], laidTests := true, laidLooks := .later }
def RulesBackUptoCardSaid : Prop := Claim7.holds Tryd.pinned (.plain (OpenSpec.upto rulesBackSpec)) rulesBackUptoCard
end Rows
end Go.Proofs.YtgbcklnnbeimhaaDoor
