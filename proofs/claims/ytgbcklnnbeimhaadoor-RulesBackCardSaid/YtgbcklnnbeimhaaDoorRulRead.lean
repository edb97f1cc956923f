/-
  A line's rule: the program's isNamed and read, the document's rule. Contracts for other texts; no statement of its own.
-/
import Derived.Test.YtgbcklnnbeimhaaDoorRulFns
import Derived.BigQuiet
import Derived.Deep.LoopGhost
import Derived.Deep.QuietTactic
import Derived.StillTailTactics
import Derived.BigRegion
set_option linter.unusedVariables false
set_option linter.unusedSimpArgs false
namespace Go.Proofs.YtgbcklnnbeimhaaDoor
open Go Go.RowKit

def hasName (l : List Ru) (s : ByteArray) : Bool := l.any fun y => decide (y.name = s)
theorem hasName_yes (l : List Ru) (s : ByteArray) (k : Nat) (x : Ru) (h : l[k]? = some x) (e : x.name = s) : hasName l s = true := List.any_eq_true.2 ⟨x, List.mem_of_getElem? h, by simp [e]⟩
theorem hasName_no (l : List Ru) (s : ByteArray) (h : ∀ (k : Nat) (x : Ru), l[k]? = some x → x.name ≠ s) : hasName l s = false := by
  rw [Bool.eq_false_iff]
  intro hq
  obtain ⟨x, hx, e⟩ := List.any_eq_true.1 hq
  obtain ⟨k, hk⟩ := List.getElem?_of_mem hx
  exact h k x hk (by simpa using e)

set_option maxHeartbeats 1000000 in
theorem isnamed_p (w : World) (A : Option Addr) (c : Nat) (l : List Ru) (s : ByteArray) (hl : l.length ≤ 1000) (h : RdRu w A l) :
    Calls Tryd.prog 16 #[.slice A l.length c, .string s] w fun e w' => e = .returned (.bool (hasName l s)) ∧ Below w.heap.size w w' := by
  obtain ⟨N, hN⟩ : ∃ N, l.length = N := ⟨_, rfl⟩
  have HR := Lib.hid h
  have HNO := Lib.hid (hasName_no l s)
  rw [hN] at hl ⊢
  clear h
  go_enter Tryd.func16, Tryd.ntmps16
  go_wp2
  go_loopg [9] N (fun mm i wr => ∃ k : Nat, i = .int .i64 (k : Int) ∧ k ≤ N ∧ mm = N - k ∧ (∀ j x, j < k → l[j]? = some x → x.name ≠ s) ∧ Below w.heap.size w wr)
  case atStart => exact ⟨0, rfl, Nat.zero_le _, rfl, fun j x h => absurd h (Nat.not_lt_zero _), Below.refl _ _⟩
  case round =>
    obtain ⟨k, rfl, hk, hmk, hno, hbw⟩ := hrel
    have HMK := Lib.hid hmk
    have HBW := Lib.hid hbw
    have HK := Lib.hid hno
    clear hmk hno hbw
    by_cases hkN : k < N
    · have hkN' : (k : Int) < (N : Int) := by omega
      obtain ⟨x, hx⟩ : ∃ x, l[k]? = some x := ⟨_, List.getElem?_eq_getElem (by omega)⟩
      obtain ⟨g, off, rfl, hg, c0, c1, c2⟩ := (HR.out.stays HBW.out) k x hx
      have HX := Lib.hid hx
      clear hx
      obtain ⟨xn, xp, xl⟩ := x
      simp only at c0 c1 c2
      by_cases he : xn = s
      · have hb : (xn.toList == s.toList) = true := by rw [str_beq, he]; simp
        have HE := Lib.hid he
        clear he
        go_wp2
        go_ret
        exact ⟨by rw [hasName_yes l s k _ HX.out HE.out]; rfl, HBW.out.alloc HBW.out.size _⟩
      · have hb : (xn.toList == s.toList) = false := by rw [str_beq]; simp [he]
        have HE := Lib.hid he
        clear he
        go_wp2
        go_roundg (N - (k + 1))
        case measure => have := HMK.out; omega
        case rel => exact ⟨k + 1, by go_num, by omega, rfl, fun j y hj hy => (by rcases Nat.lt_succ_iff_lt_or_eq.1 hj with h' | rfl; exact HK.out j y h' hy; rw [HX.out] at hy; cases hy; exact HE.out), HBW.out.alloc HBW.out.size _⟩
    · have hkl : k = N := by omega
      subst hkl
      go_wp2
      go_ret
      exact ⟨by rw [HNO.out fun j y hy => HK.out j y (by have := (List.getElem?_eq_some_iff.1 hy).1; omega) hy]; rfl, HBW.out⟩

/-- What reading a line's rule tells. -/
def RetRule (w : World) (s : ByteArray) (e : Ending) (w' : World) : Prop :=
  (∃ r, e = .returned (.tuple #[ruV r, .bool (ruleT s).isSome]) ∧ ∀ x, ruleT s = some x → r = x) ∧ Below w.heap.size w w'
theorem ruleT_few (s : ByteArray) (h : lastI s 32 s.size < firstI s 32 s.size + 2) : ruleT s = none := by unfold ruleT; rw [if_pos h]
/-- What a line is parted into. -/
structure Cutl (s : ByteArray) (F L : Nat) (nm pt kd : ByteArray) : Prop where
  first : firstI s 32 s.size = (F : Int)
  last : lastI s 32 s.size = (L : Int)
  le : F + 2 ≤ L
  lt : L < s.size
  name : s.extract 0 F = nm
  pat : s.extract (F + 1) L = pt
  kind : s.extract (L + 1) s.size = kd
theorem cutl (s : ByteArray) (h : ¬ lastI s 32 s.size < firstI s 32 s.size + 2) : ∃ F L nm pt kd, Cutl s F L nm pt kd := by
  obtain ⟨h1, h2, h3, h4⟩ := first_last s 32 s.size
  exact ⟨(firstI s 32 s.size).toNat, (lastI s 32 s.size).toNat, _, _, _, by omega, by omega, by omega, by omega, rfl, rfl, rfl⟩
theorem Cutl.rule {s : ByteArray} {F L : Nat} {nm pt kd : ByteArray} (h : Cutl s F L nm pt kd) : ruleT s = if nameOk nm = true ∧ (kd = luhnT ∨ kd = plainT) then some ⟨nm, pt, decide (kd = luhnT)⟩ else none := by
  obtain ⟨h1, h2, h3, h4, h5, h6, h7⟩ := h
  unfold ruleT nameOf patOf kindOf
  rw [if_neg (by omega), h1, h2, Int.toNat_natCast, Int.toNat_natCast, h5, h6, h7]
theorem Cutl.small {s : ByteArray} {F L : Nat} {nm pt kd : ByteArray} (h : Cutl s F L nm pt kd) : nm.size ≤ s.size ∧ pt.size ≤ s.size ∧ kd.size ≤ s.size := by
  obtain ⟨h1, h2, h3, h4, h5, h6, h7⟩ := h
  rw [← h5, ← h6, ← h7]
  simp
  omega

set_option maxRecDepth 20000 in
set_option maxHeartbeats 2000000 in
theorem read_p (w : World) (s : ByteArray) (hs : s.size ≤ 100000) : Calls Tryd.prog 15 #[.string s] w (RetRule w s) := by
  have HF := Lib.hid (fun W => sh_strings_IndexByte s 32 W)
  have HL := Lib.hid (fun W => sh_strings_LastIndexByte s 32 (by omega) W)
  simp only [show ((32 : Int).toNat.toUInt8) = 32 from rfl, indexByte_is, show (32 : UInt8).toNat = 32 from rfl] at HF
  simp only [show Lib.lastIndexByte s 32 = lastI s 32 s.size from lastIdx_is s 32 s.size] at HL
  unfold RetRule
  by_cases hfew : lastI s 32 s.size < firstI s 32 s.size + 2
  · rw [ruleT_few s hfew]
    obtain ⟨h1, h2, h3, h4⟩ := first_last s 32 s.size
    obtain ⟨F, hF⟩ : ∃ F, firstI s 32 s.size = F := ⟨_, rfl⟩
    obtain ⟨L, hL⟩ : ∃ L, lastI s 32 s.size = L := ⟨_, rfl⟩
    obtain ⟨N, hN⟩ : ∃ N, s.size = N := ⟨_, rfl⟩
    rw [hF, hL] at h1 h4 hfew
    rw [hF] at h2
    simp only [hF] at HF
    simp only [hL] at HL
    rw [hL] at h3
    rw [hN] at h3 hs
    clear hF hL
    have i1 : IntKind.i64.wrap (L - F) = L - F := IntWalk.i64_in _ (by omega)
    have i2 : L - F < 2 := by omega
    clear h1 h2 h3 h4 hfew
    go_enter Tryd.func15, Tryd.ntmps15
    go_wp2_with (first
      | (go_at_call 23; (with_reducible refine (HF.out _).mono ?_); rintro e w1 ⟨rfl, rfl⟩)
      | (go_at_call 24; (with_reducible refine (HL.out _).mono ?_); rintro e w2 ⟨rfl, rfl⟩))
    exact bodyPost_ret (results_ru Tryd.results15 rfl rfl (RB.new w ⟨⟨#[]⟩, ⟨#[]⟩, false⟩)) rfl ⟨⟨⟨⟨#[]⟩, ⟨#[]⟩, false⟩, rfl, fun x h => by cases h⟩, (Below.refl _ _).alloc (Nat.le_refl _) _⟩
  · obtain ⟨F, L, nm, pt, kd, hc⟩ := cutl s hfew
    clear hfew
    rw [hc.rule]
    obtain ⟨hz1, hz2, hz3⟩ := hc.small
    have HN := Lib.hid (fun W => isname_p W nm (by omega))
    have HC1 := Lib.hid (fun W => clone_p W nm (by omega))
    have HC2 := Lib.hid (fun W => clone_p W pt (by omega))
    obtain ⟨h1, h2, h3, h4, h5, h6, h7⟩ := hc
    simp only [h1] at HF
    simp only [h2] at HL
    obtain ⟨N, hN⟩ : ∃ N, s.size = N := ⟨_, rfl⟩
    rw [hN] at h4 h7 hs
    clear h1 h2 hz1 hz2 hz3
    have i1 : IntKind.i64.wrap ((L : Int) - (F : Int)) = (L : Int) - (F : Int) := IntWalk.i64_in _ (by omega)
    have i2 : ¬ (L : Int) - (F : Int) < 2 := by omega
    have i3 : IntKind.i64.wrap ((F : Int) + 1) = (F : Int) + 1 := IntWalk.i64_in _ (by omega)
    have i4 : IntKind.i64.wrap ((L : Int) + 1) = (L : Int) + 1 := IntWalk.i64_in _ (by omega)
    have k1 : (F : Int) ≤ (N : Int) := by omega
    have k2 : (F : Int) + 1 ≤ (L : Int) := by omega
    have k3 : (L : Int) ≤ (N : Int) := by omega
    have k4 : (L : Int) + 1 ≤ (N : Int) := by omega
    have q1 : (0 : Int) ≤ (F : Int) + 1 := by omega
    have q2 : (0 : Int) ≤ (L : Int) + 1 := by omega
    have t1 : ((F : Int) + 1).toNat = F + 1 := by omega
    have t2 : ((L : Int) + 1).toNat = L + 1 := by omega
    clear h3 h4 hs
    cases hn : nameOk nm with
    | false =>
      simp only [hn] at HN
      rw [if_neg (by simp)]
      go_enter Tryd.func15, Tryd.ntmps15
      go_wp2_with (first
        | (go_at_call 23; (with_reducible refine (HF.out _).mono ?_); rintro e w1 ⟨rfl, rfl⟩)
        | (go_at_call 24; (with_reducible refine (HL.out _).mono ?_); rintro e w2 ⟨rfl, rfl⟩))
      go_quiet (fail)
      obtain ⟨W1, hW1⟩ : ∃ W1, (w.alloc (.cells #[.string ⟨#[]⟩, .string ⟨#[]⟩, .bool false] 35)).drewN nq = W1 := ⟨_, rfl⟩
      have hbx : RB W1 w.heap.size ⟨⟨#[]⟩, ⟨#[]⟩, false⟩ := by rw [← hW1]; exact (RB.new w ⟨⟨#[]⟩, ⟨#[]⟩, false⟩).drewN nq
      have HBW : Hid (Below w.heap.size w W1) := Lib.hid (by rw [← hW1]; exact below_drN ((Below.refl _ _).alloc (Nat.le_refl _) _) nq)
      rw [hW1]
      clear hW1
      obtain ⟨x0, x1, x2⟩ := hbx.cell
      have y0 := hbx.frozen 0
      have y1 := hbx.frozen 1
      have y2 := hbx.frozen 2
      have HBX := Lib.hid hbx
      clear hbx
      go_wp2_with (first
        | (go_at_call 25; (with_reducible refine (HN.out _).mono ?_); rintro e w1 ⟨rfl, rfl⟩))
      exact bodyPost_ret (results_ru Tryd.results15 rfl rfl (HBX.out.put ..)) rfl ⟨⟨⟨⟨#[]⟩, ⟨#[]⟩, false⟩, rfl, fun x h => by cases h⟩, ((HBW.out.setCell (Nat.le_refl _) _).setCell (Nat.le_refl _) _).setCell (Nat.le_refl _) _⟩
    | true =>
      simp only [hn] at HN
      by_cases hp : kd = plainT
      · have hl : ¬ kd = luhnT := by rw [hp]; decide
        rw [if_pos ⟨rfl, .inr hp⟩, decide_eq_false hl]
        have e1 : (kd.toList == [112, 108, 97, 105, 110]) = true := (str_lit kd #[112, 108, 97, 105, 110]).trans (decide_eq_true hp)
        have e2 : (kd.toList == [108, 117, 104, 110]) = false := (str_lit kd #[108, 117, 104, 110]).trans (decide_eq_false hl)
        clear hp hl
        go_enter Tryd.func15, Tryd.ntmps15
        go_wp2_with (first
          | (go_at_call 23; (with_reducible refine (HF.out _).mono ?_); rintro e w1 ⟨rfl, rfl⟩)
          | (go_at_call 24; (with_reducible refine (HL.out _).mono ?_); rintro e w2 ⟨rfl, rfl⟩))
        go_quiet (fail)
        obtain ⟨W1, hW1⟩ : ∃ W1, (w.alloc (.cells #[.string ⟨#[]⟩, .string ⟨#[]⟩, .bool false] 35)).drewN nq = W1 := ⟨_, rfl⟩
        have hbx : RB W1 w.heap.size ⟨⟨#[]⟩, ⟨#[]⟩, false⟩ := by rw [← hW1]; exact (RB.new w ⟨⟨#[]⟩, ⟨#[]⟩, false⟩).drewN nq
        have HBW : Hid (Below w.heap.size w W1) := Lib.hid (by rw [← hW1]; exact below_drN ((Below.refl _ _).alloc (Nat.le_refl _) _) nq)
        rw [hW1]
        clear hW1
        obtain ⟨x0, x1, x2⟩ := hbx.cell
        have y0 := hbx.frozen 0
        have y1 := hbx.frozen 1
        have y2 := hbx.frozen 2
        have HBX := Lib.hid hbx
        clear hbx
        go_wp2_with (first
          | (go_at_call 25; (with_reducible refine (HN.out _).mono ?_); rintro e w1 ⟨rfl, rfl⟩)
          | (go_at_call 26; first
            | ((with_reducible refine (HC1.out _).mono ?_); rintro e w2 ⟨rfl, hb2⟩; have HB2 := Lib.hid hb2; clear hb2)
            | ((with_reducible refine (HC2.out _).mono ?_); rintro e w3 ⟨rfl, hb3⟩; have HB3 := Lib.hid hb3; have hbx3 := (HBX.out.stays HB2.out).stays HB3.out; obtain ⟨z0, z1, z2⟩ := hbx3.cell; have v0 := hbx3.frozen 0; have v1 := hbx3.frozen 1; have v2 := hbx3.frozen 2; have HX3 := Lib.hid hbx3; have HBW3 : Hid (Below w.heap.size w w3) := Lib.hid (gro (gro HBW.out HB2.out) HB3.out); clear hb3 hbx3)))
        exact bodyPost_ret (results_ru Tryd.results15 rfl rfl (HX3.out.put ..)) rfl ⟨⟨_, rfl, fun x h => by cases h; rfl⟩, ((HBW3.out.setCell (Nat.le_refl _) _).setCell (Nat.le_refl _) _).setCell (Nat.le_refl _) _⟩
      by_cases hl : kd = luhnT
      · rw [if_pos ⟨rfl, .inl hl⟩, decide_eq_true hl]
        have e1 : (kd.toList == [112, 108, 97, 105, 110]) = false := (str_lit kd #[112, 108, 97, 105, 110]).trans (decide_eq_false hp)
        have e2 : (kd.toList == [108, 117, 104, 110]) = true := (str_lit kd #[108, 117, 104, 110]).trans (decide_eq_true hl)
        clear hp hl
        go_enter Tryd.func15, Tryd.ntmps15
        go_wp2_with (first
          | (go_at_call 23; (with_reducible refine (HF.out _).mono ?_); rintro e w1 ⟨rfl, rfl⟩)
          | (go_at_call 24; (with_reducible refine (HL.out _).mono ?_); rintro e w2 ⟨rfl, rfl⟩))
        go_quiet (fail)
        obtain ⟨W1, hW1⟩ : ∃ W1, (w.alloc (.cells #[.string ⟨#[]⟩, .string ⟨#[]⟩, .bool false] 35)).drewN nq = W1 := ⟨_, rfl⟩
        have hbx : RB W1 w.heap.size ⟨⟨#[]⟩, ⟨#[]⟩, false⟩ := by rw [← hW1]; exact (RB.new w ⟨⟨#[]⟩, ⟨#[]⟩, false⟩).drewN nq
        have HBW : Hid (Below w.heap.size w W1) := Lib.hid (by rw [← hW1]; exact below_drN ((Below.refl _ _).alloc (Nat.le_refl _) _) nq)
        rw [hW1]
        clear hW1
        obtain ⟨x0, x1, x2⟩ := hbx.cell
        have y0 := hbx.frozen 0
        have y1 := hbx.frozen 1
        have y2 := hbx.frozen 2
        have HBX := Lib.hid hbx
        clear hbx
        go_wp2_with (first
          | (go_at_call 25; (with_reducible refine (HN.out _).mono ?_); rintro e w1 ⟨rfl, rfl⟩)
          | (go_at_call 26; first
            | ((with_reducible refine (HC1.out _).mono ?_); rintro e w2 ⟨rfl, hb2⟩; have HB2 := Lib.hid hb2; clear hb2)
            | ((with_reducible refine (HC2.out _).mono ?_); rintro e w3 ⟨rfl, hb3⟩; have HB3 := Lib.hid hb3; have hbx3 := (HBX.out.stays HB2.out).stays HB3.out; obtain ⟨z0, z1, z2⟩ := hbx3.cell; have v0 := hbx3.frozen 0; have v1 := hbx3.frozen 1; have v2 := hbx3.frozen 2; have HX3 := Lib.hid hbx3; have HBW3 : Hid (Below w.heap.size w w3) := Lib.hid (gro (gro HBW.out HB2.out) HB3.out); clear hb3 hbx3)))
        exact bodyPost_ret (results_ru Tryd.results15 rfl rfl (HX3.out.put ..)) rfl ⟨⟨_, rfl, fun x h => by cases h; rfl⟩, ((HBW3.out.setCell (Nat.le_refl _) _).setCell (Nat.le_refl _) _).setCell (Nat.le_refl _) _⟩
      · rw [if_neg fun h => h.2.elim hl hp]
        have e1 : (kd.toList == [112, 108, 97, 105, 110]) = false := (str_lit kd #[112, 108, 97, 105, 110]).trans (decide_eq_false hp)
        have e2 : (kd.toList == [108, 117, 104, 110]) = false := (str_lit kd #[108, 117, 104, 110]).trans (decide_eq_false hl)
        clear hp hl
        go_enter Tryd.func15, Tryd.ntmps15
        go_wp2_with (first
          | (go_at_call 23; (with_reducible refine (HF.out _).mono ?_); rintro e w1 ⟨rfl, rfl⟩)
          | (go_at_call 24; (with_reducible refine (HL.out _).mono ?_); rintro e w2 ⟨rfl, rfl⟩))
        go_quiet (fail)
        obtain ⟨W1, hW1⟩ : ∃ W1, (w.alloc (.cells #[.string ⟨#[]⟩, .string ⟨#[]⟩, .bool false] 35)).drewN nq = W1 := ⟨_, rfl⟩
        have hbx : RB W1 w.heap.size ⟨⟨#[]⟩, ⟨#[]⟩, false⟩ := by rw [← hW1]; exact (RB.new w ⟨⟨#[]⟩, ⟨#[]⟩, false⟩).drewN nq
        have HBW : Hid (Below w.heap.size w W1) := Lib.hid (by rw [← hW1]; exact below_drN ((Below.refl _ _).alloc (Nat.le_refl _) _) nq)
        rw [hW1]
        clear hW1
        obtain ⟨x0, x1, x2⟩ := hbx.cell
        have y0 := hbx.frozen 0
        have y1 := hbx.frozen 1
        have y2 := hbx.frozen 2
        have HBX := Lib.hid hbx
        clear hbx
        go_wp2_with (first
          | (go_at_call 25; (with_reducible refine (HN.out _).mono ?_); rintro e w1 ⟨rfl, rfl⟩)
          | (go_at_call 26; first
            | ((with_reducible refine (HC1.out _).mono ?_); rintro e w2 ⟨rfl, hb2⟩; have HB2 := Lib.hid hb2; clear hb2)
            | ((with_reducible refine (HC2.out _).mono ?_); rintro e w3 ⟨rfl, hb3⟩; have HB3 := Lib.hid hb3; have hbx3 := (HBX.out.stays HB2.out).stays HB3.out; obtain ⟨z0, z1, z2⟩ := hbx3.cell; have v0 := hbx3.frozen 0; have v1 := hbx3.frozen 1; have v2 := hbx3.frozen 2; have HX3 := Lib.hid hbx3; have HBW3 : Hid (Below w.heap.size w w3) := Lib.hid (gro (gro HBW.out HB2.out) HB3.out); clear hb3 hbx3)))
        exact bodyPost_ret (results_ru Tryd.results15 rfl rfl (HBX.out.put ..)) rfl ⟨⟨⟨⟨#[]⟩, ⟨#[]⟩, false⟩, rfl, fun x h => by cases h⟩, ((HBW.out.setCell (Nat.le_refl _) _).setCell (Nat.le_refl _) _).setCell (Nat.le_refl _) _⟩
end Go.Proofs.YtgbcklnnbeimhaaDoor
