/-
  No cell of these rows narrows 'for every input' (looked for: loops, veiled, ifaces, maps, wideKeys, modest, calm, conditions, laid).
  DERIVED. THE GIVEN ROWS OF THIS SEAT. 3 by the template 'for every input the law returns true; each argument reads behind the call as it read before'; 0 by the template 'total and deterministic' (their statements: YtammicfijnffaaaTotals.lean).
  GIVEN WITH THE SEED: the statements are not yours to turn. If you find one false, say at which input.
  Laid BY PROGRAM, IN A SANDBOX (cutbox-rows.mjs): the forced cells as the released guide's own fill.sh prints them over the translation 1ff1dad8043fc82f… (all of the seat's roots in one cut). By AI agents, Wed Nov 11 2026. No macro, syntax, notation, axiom, sorry.
-/
import Derived.Test.YtammicfijnffaaaChecked
import GoSem.Claim
import GoSem.ClaimJoined
import GoSem.ClaimMapViews
import Derived.JoinedTies
import Derived.KernelRfl
namespace Go.Proofs.Ytammicfijnffaaa
/- THE CELL 'sum', in the pinned program and in every row, IS THE sha256 OF THE DUMP (.gsa) THAT YtammicfijnffaaaProg.lean LOADS. Nothing in Lean hashes anything: it is a label: what it is worth is what the hold of that sum in a sandbox is worth. -/
noncomputable def Try.pinned : Pinned := { name := "ytammicfijnffaaa", sum := "1ff1dad8043fc82f73cb43fda99940c9e754e7719037988e7d082fc91924463a", checked := Try.checked }
namespace Rows
def none {H : Type} : Left H := { results := [], args := [] }

/-- 'snafflelaw04.NfaTells': WHATEVER THE INPUT: true; the input reads as it did. -/
def nfaTellsSpec : ChangeSpec := { name := "nfaTells", fn := fun _ => fun
  | [d1, d2] => { results := [.lit (.bool true)], args := [d1, d2] }
  | _ => none }
def nfaTellsRow : OpenClaim := { program := "ytammicfijnffaaa", sum := "1ff1dad8043fc82f73cb43fda99940c9e754e7719037988e7d082fc91924463a", func := "snaffle/snafflelaw04.NfaTells", spec := "nfaTells", recurses := true, apart := false }
def NfaTellsSaid : Prop := nfaTellsRow.holds Try.pinned (OpenSpec.ofChange nfaTellsSpec)

/-- ITS FALSE NEIGHBOUR: 'it returns false'. Refute it at one input. -/
def nfaTellsWrong : ChangeSpec := { name := "nfaTells", fn := fun _ => fun
  | [d1, d2] => { results := [.lit (.bool false)], args := [d1, d2] }
  | _ => none }
def NfaTellsWrongFalsely : Prop := nfaTellsRow.holds Try.pinned (OpenSpec.ofChange nfaTellsWrong)

/-- 'snafflelaw05.ClassesTells': WHATEVER THE INPUT: true; the input reads as it did. -/
def classesTellsSpec : ChangeSpec := { name := "classesTells", fn := fun _ => fun
  | [d] => { results := [.lit (.bool true)], args := [d] }
  | _ => none }
def classesTellsRow : OpenClaim := { program := "ytammicfijnffaaa", sum := "1ff1dad8043fc82f73cb43fda99940c9e754e7719037988e7d082fc91924463a", func := "snaffle/snafflelaw05.ClassesTells", spec := "classesTells", apart := false }
def ClassesTellsSaid : Prop := classesTellsRow.holds Try.pinned (OpenSpec.ofChange classesTellsSpec)

/-- ITS FALSE NEIGHBOUR: 'it returns false'. Refute it at one input. -/
def classesTellsWrong : ChangeSpec := { name := "classesTells", fn := fun _ => fun
  | [d] => { results := [.lit (.bool false)], args := [d] }
  | _ => none }
def ClassesTellsWrongFalsely : Prop := classesTellsRow.holds Try.pinned (OpenSpec.ofChange classesTellsWrong)

/-- 'snafflelaw05.ClassesApart': WHATEVER THE INPUT: true; the input reads as it did. -/
def classesApartSpec : ChangeSpec := { name := "classesApart", fn := fun _ => fun
  | [d1, d2, d3, d4] => { results := [.lit (.bool true)], args := [d1, d2, d3, d4] }
  | _ => none }
def classesApartRow : OpenClaim := { program := "ytammicfijnffaaa", sum := "1ff1dad8043fc82f73cb43fda99940c9e754e7719037988e7d082fc91924463a", func := "snaffle/snafflelaw05.ClassesApart", spec := "classesApart", apart := false }
def ClassesApartSaid : Prop := classesApartRow.holds Try.pinned (OpenSpec.ofChange classesApartSpec)

/-- ITS FALSE NEIGHBOUR: 'it returns false'. Refute it at one input. -/
def classesApartWrong : ChangeSpec := { name := "classesApart", fn := fun _ => fun
  | [d1, d2, d3, d4] => { results := [.lit (.bool false)], args := [d1, d2, d3, d4] }
  | _ => none }
def ClassesApartWrongFalsely : Prop := classesApartRow.holds Try.pinned (OpenSpec.ofChange classesApartWrong)

/- THE SECOND FORM. 'bulk': how many values and letters a reading holds, each counted each time it is reached (what is shared counts as often as it is met; a slice's spare places count too). A statement '..UptoSaid' is the law's where the arguments, and the package variables that the reading takes, are together of bulk at most 1048576: NARROWER than '..Said'. Prove '..Said' where nothing that the law and all that it calls make is longer than what came in: it says more and counts as full. Else prove '..UptoSaid'. A law counts once. -/
mutual
def uptoBulk {H : Type} : DataW H → Nat
  | .lit (.string bytes) => bytes.length + 1
  | .lit _ => 1
  | .nil => 1
  | .ptr d => uptoBulk d + 1
  | .slice elems spare => uptoBulkAll elems + uptoBulkAll spare + 1
  | .agg parts => uptoBulkAll parts + 1
  | .iface _ d => uptoBulk d + 1
  | .map entries => uptoBulkEntries entries + 1
  | .held _ => 1
def uptoBulkAll {H : Type} : List (DataW H) → Nat
  | [] => 0
  | d :: r => uptoBulk d + uptoBulkAll r
def uptoBulkEntries {H : Type} : List (Lit × DataW H) → Nat
  | [] => 0
  | x :: r => uptoBulkEntry x + uptoBulkEntries r
def uptoBulkEntry {H : Type} : Lit × DataW H → Nat
  | (.string bytes, d) => bytes.length + uptoBulk d + 1
  | (_, d) => uptoBulk d + 1
 end
def uptoSmall : (H : Type) → List (DataW H) → Bool := fun _ ds => decide (uptoBulkAll ds ≤ 1048576)
def OpenSpec.upto (s : _root_.Go.ChangeSpec) : _root_.Go.OpenSpec := { _root_.Go.OpenSpec.ofChange s with cond := some uptoSmall }

/-- 'snafflelaw04.NfaTells', WHERE WHAT IT READS IS OF BULK AT MOST 1048576: true; the input reads as it did. -/
def nfaTellsUptoRow : OpenClaim := { program := "ytammicfijnffaaa", sum := "1ff1dad8043fc82f73cb43fda99940c9e754e7719037988e7d082fc91924463a", func := "snaffle/snafflelaw04.NfaTells", spec := "nfaTells", recurses := true, apart := false, narrowed := true }
def NfaTellsUptoSaid : Prop := nfaTellsUptoRow.holds Try.pinned (OpenSpec.upto nfaTellsSpec)

/-- 'snafflelaw05.ClassesTells', WHERE WHAT IT READS IS OF BULK AT MOST 1048576: true; the input reads as it did. -/
def classesTellsUptoRow : OpenClaim := { program := "ytammicfijnffaaa", sum := "1ff1dad8043fc82f73cb43fda99940c9e754e7719037988e7d082fc91924463a", func := "snaffle/snafflelaw05.ClassesTells", spec := "classesTells", apart := false, narrowed := true }
def ClassesTellsUptoSaid : Prop := classesTellsUptoRow.holds Try.pinned (OpenSpec.upto classesTellsSpec)

/-- 'snafflelaw05.ClassesApart', WHERE WHAT IT READS IS OF BULK AT MOST 1048576: true; the input reads as it did. -/
def classesApartUptoRow : OpenClaim := { program := "ytammicfijnffaaa", sum := "1ff1dad8043fc82f73cb43fda99940c9e754e7719037988e7d082fc91924463a", func := "snaffle/snafflelaw05.ClassesApart", spec := "classesApart", apart := false, narrowed := true }
def ClassesApartUptoSaid : Prop := classesApartUptoRow.holds Try.pinned (OpenSpec.upto classesApartSpec)

end Rows
end Go.Proofs.Ytammicfijnffaaa
