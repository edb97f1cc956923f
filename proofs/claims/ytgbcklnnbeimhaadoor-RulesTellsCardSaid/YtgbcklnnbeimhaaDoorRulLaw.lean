/-
  Layer 14's laws: the head, and RulesTells. No statement of its own: the statements' proofs are other texts.
-/
import Derived.Test.YtgbcklnnbeimhaaDoorRulShow
import Derived.Test.YtgbcklnnbeimhaaDoorSpot
set_option linter.unusedVariables false
set_option linter.unusedSimpArgs false
namespace Go.Proofs.YtgbcklnnbeimhaaDoor
open Go Go.RowKit

def card14 : ByteArray := ⟨#[99, 97, 114, 100, 32, 92, 100, 123, 49, 54, 125, 32, 108, 117, 104, 110, 10]⟩
def bad14 : ByteArray := ⟨#[35, 10, 99, 97, 114, 100, 32, 120]⟩
theorem card_rules : parseR card14 = .ok [⟨⟨#[99, 97, 114, 100]⟩, ⟨#[92, 100, 123, 49, 54, 125]⟩, true⟩] := by kernel_rfl
theorem bad_rules : parseR bad14 = .error (2, 1) := by kernel_rfl
theorem card_p (w : World) (hm : MaxL w) : Calls Tryd.prog 7 #[.string ⟨#[99, 97, 114, 100, 32, 92, 100, 123, 49, 54, 125, 32, 108, 117, 104, 110, 10]⟩] w fun e w' => ∃ A c, e = .returned (.tuple #[.slice A 1 c, .nilIface]) ∧ RdRu w' A [⟨⟨#[99, 97, 114, 100]⟩, ⟨#[92, 100, 123, 49, 54, 125]⟩, true⟩] ∧ Below w.heap.size w w' := by
  refine (parse14_p w card14 (by decide) hm).mono fun e w' h => ?_
  rw [card_rules] at h
  obtain ⟨⟨A, c, h1, h2⟩, h3⟩ := h
  exact ⟨A, c, h1, h2, h3⟩
theorem bad14_p (w : World) (hm : MaxL w) : Calls Tryd.prog 7 #[.string ⟨#[35, 10, 99, 97, 114, 100, 32, 120]⟩] w fun e w' => ∃ gs, e = .returned (.tuple #[.slice none 0 0, .iface 40 (.pointer (some ⟨gs, 0, none⟩))]) ∧ w'.heap[gs]? = some (.cells #[.int .i64 1, .int .i64 2] 43 (0, 0)) ∧ Below w.heap.size w w' := by
  refine (parse14_p w bad14 (by decide) hm).mono fun e w' h => ?_
  rw [bad_rules] at h
  obtain ⟨⟨gs, h1, h2, _⟩, h3⟩ := h
  exact ⟨gs, h1, h2, h3⟩

set_option maxRecDepth 20000 in
set_option maxHeartbeats 2000000 in
theorem up14_p (w : World) (hm : MaxL w) : Calls Tryd.prog 6 #[] w fun e w' => e = .returned (.bool true) ∧ Below w.heap.size w w' := by
  have H1 := Lib.hid (card_p w hm)
  have H2 := Lib.hid (fun (W : World) (hb : Below w.heap.size w W) => bad14_p W (hm.stays hb))
  have hq : ∀ W : World, (binOp .eql 35 (.agg #[.string ⟨#[99, 97, 114, 100]⟩, .string ⟨#[92, 100, 123, 49, 54, 125]⟩, .bool true]) (.agg #[.string ⟨#[99, 97, 114, 100]⟩, .string ⟨#[92, 100, 123, 49, 54, 125]⟩, .bool true])).run Tryd.prog W = .ok (.bool true) W := fun W => by
    rw [run_eql_struct, ru_eq]; rfl
  have hgu : Tryd.prog.eqGuardType Tryd.prog.depth 35 = false := by kernel_rfl
  go_enter Tryd.func6, Tryd.ntmps6
  go_wp2_with (first
    | (go_at_call 7; first
      | ((with_reducible refine H1.out.mono ?_); rintro e w1 ⟨A, c, rfl, hrd, hb1⟩; have HRD := Lib.hid hrd; have HB1 := Lib.hid hb1; clear hrd hb1)
      | ((with_reducible refine (H2.out _ HB1.out).mono ?_); rintro e w2 ⟨gs, rfl, hgs, hb2⟩; have HGS := Lib.hid hgs; have HB2 : Hid (Below w.heap.size w w2) := Lib.hid (gro HB1.out hb2); obtain ⟨g, off, rfl, hg, c0, c1, c2⟩ := (HRD.out.stays hb2) 0 _ rfl; simp only [Nat.zero_mul, Nat.add_zero] at c0 c1 c2; clear hb2 hgs))
    | (go_at_call 9; (with_reducible refine (spot_p _ gs 1 2 HGS.out).mono ?_); rintro e w3 ⟨rfl, n, rfl⟩))
  go_ret
  exact ⟨rfl, below_drN HB2.out _⟩

set_option maxRecDepth 20000 in
set_option maxHeartbeats 2000000 in
theorem rulestells_p (w : World) (s : ByteArray) (hs : s.size ≤ 9223372036854775807) (hm : MaxL w) : Calls Tryd.prog 3 #[.string s] w fun e w' => e = .returned (.bool true) ∧ Below w.heap.size w w' := by
  have HU := Lib.hid (up14_p w hm)
  by_cases hl : 10000 < s.size
  · have hl' : (10000 : Int) < (s.size : Int) := by omega
    clear hl
    go_enter Tryd.func3, Tryd.ntmps3
    go_wp2_with (go_at_call 6; (with_reducible refine HU.out.mono ?_); rintro e w1 ⟨rfl, hb1⟩)
    go_ret
    exact ⟨rfl, hb1⟩
  have hl' : ¬ (10000 : Int) < (s.size : Int) := by omega
  have HP := Lib.hid (fun (W : World) (hb : Below w.heap.size w W) => parse14_p W s (by omega) (hm.stays hb))
  have HD := Lib.hid (fun W => drules_p W s (by omega))
  unfold RetPar at HP
  unfold RetRules14 at HD
  clear hl hs
  cases hr : parseR s with
  | ok l =>
    have hl8 : l.length ≤ 1000 := parseR_len hr
    simp only [hr] at HP HD
    clear hr
    obtain ⟨M, hM⟩ : ∃ M, l.length = M := ⟨_, rfl⟩
    have HSM := Lib.hid (fun W A B c d h1 h2 => same14_p W A B c d l hl8 h1 h2)
    rw [hM] at HP HD HSM
    clear hl8 hM
    go_enter Tryd.func3, Tryd.ntmps3
    go_wp2_with (first
      | (go_at_call 6; (with_reducible refine HU.out.mono ?_); rintro e w1 ⟨rfl, hb1⟩; have HB1 := Lib.hid hb1; clear hb1)
      | (go_at_call 7; (with_reducible refine (HP.out _ HB1.out).mono ?_); rintro e w2 ⟨⟨A, c, rfl, hra⟩, hb2⟩; have HB2 := Lib.hid hb2; have HRA := Lib.hid hra; clear hb2 hra)
      | (go_at_call 8; (with_reducible refine (HD.out _).mono ?_); rintro e w3 ⟨⟨B, d, rfl, hrb⟩, hb3⟩; have HRA3 := Lib.hid (HRA.out.stays hb3); have HRB := Lib.hid hrb; have HB3 := Lib.hid hb3; clear hb3 hrb)
      | (go_at_call 9; (with_reducible refine (spot_nil _).mono ?_); rintro e w4 ⟨rfl, rfl⟩)
      | (go_at_call 10; (with_reducible refine (HSM.out _ _ _ _ _ HRA3.out HRB.out).mono ?_); rintro e w5 ⟨rfl, hb5⟩))
    go_ret
    exact ⟨rfl, gro (gro (gro HB1.out HB2.out) HB3.out) hb5⟩
  | error x =>
    obtain ⟨code, at'⟩ := x
    simp only [hr] at HP HD
    clear hr
    have HSM := Lib.hid (fun W => same14_p W none none 0 0 [] (Nat.zero_le _) (RdRu.nil _ _) (RdRu.nil _ _))
    rw [show ([] : List Ru).length = 0 from rfl] at HSM
    go_enter Tryd.func3, Tryd.ntmps3
    go_wp2_with (first
      | (go_at_call 6; (with_reducible refine HU.out.mono ?_); rintro e w1 ⟨rfl, hb1⟩; have HB1 := Lib.hid hb1; clear hb1)
      | (go_at_call 7; (with_reducible refine (HP.out _ HB1.out).mono ?_); rintro e w2 ⟨⟨gs, rfl, hgs, _⟩, hb2⟩; have HB2 := Lib.hid hb2; have HGS := Lib.hid hgs; clear hb2 hgs)
      | (go_at_call 8; (with_reducible refine (HD.out _).mono ?_); rintro e w3 ⟨rfl, hb3⟩; have HGS3 := Lib.hid ((hb3.block gs (lt_of_some HGS.out)).trans HGS.out); have HB3 := Lib.hid hb3; clear hb3)
      | (go_at_call 9; (with_reducible refine (spot_p _ gs at' code HGS3.out).mono ?_); rintro e w4 ⟨rfl, n, rfl⟩)
      | (go_at_call 10; (with_reducible refine (HSM.out _).mono ?_); rintro e w5 ⟨rfl, hb5⟩))
    go_ret
    exact ⟨rfl, gro (below_drN (gro (gro HB1.out HB2.out) HB3.out) _) hb5⟩
end Go.Proofs.YtgbcklnnbeimhaaDoor
