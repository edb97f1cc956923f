/-
  classes.split: the classes parted by one set more. Contracts for other texts; no statement of its own.
-/
import Derived.Test.YtammicfijnffaaaArr
import Derived.Test.YtammicfijnffaaaClsMath
import Derived.Test.YtammicfijnffaaaSetHas
import Derived.Deep.LoopGhost
set_option linter.unusedVariables false
set_option linter.unusedSimpArgs false
namespace Go.Proofs.Ytammicfijnffaaa
open Go Go.RowKit
attribute [local go_sem ↓] Go.wp_at_zero Go.wp_at_succ

/-- What parts holds: both sides, one behind the other. -/
def metA (f g : Nat → List Bool) (p : Nat → Bool) (j : Nat) (i : Nat) : Nat := if i < 256 then metK f g p j false i else metK f g p j true (i - 256)

theorem metA_at (f g : Nat → List Bool) (p : Nat → Bool) (j c : Nat) (b : Bool) (hc : c < 256) : metA f g p j (if b then 256 + c else c) = metK f g p j b c := by
  cases b
  · simp [metA, hc]
  · have h : ¬ 256 + c < 256 := by omega
    simp [metA, h]
theorem metA_step {f g : Nat → List Bool} {p : Nat → Bool} (h : PartsBy f g p) (j : Nat) (hc : numK f j < 256) (i : Nat) :
    (if i = (if p j then 256 + numK f j else numK f j) then numK g j + 1 else metA f g p j i) = metA f g p (j + 1) i := by
  unfold metA
  rw [metK_step h, metK_step h]
  cases hp : p j
  · by_cases hi2 : i < 256
    · by_cases e : i = numK f j <;> simp [hi2, e, hc]
    · have : ¬ i = numK f j := by omega
      simp [hi2, this]
  · by_cases hi2 : i < 256
    · have : ¬ i = 256 + numK f j := by omega
      simp [hi2, this]
    · by_cases e : i = 256 + numK f j
      · subst e; simp [hi2]
      · have : ¬ i - 256 = numK f j := by omega
        simp [hi2, e, this]

set_option maxRecDepth 20000 in
set_option maxHeartbeats 2000000 in
theorem split_p (f g : Nat → List Bool) (p : Nat → Bool) (w : World) (hpg : PartsBy f g p) :
    Calls Try.prog 30 #[.agg (arrV 256 (numK f)), .agg #[.int .u64 (word p 0), .int .u64 (word p 1), .int .u64 (word p 2), .int .u64 (word p 3)]] w
      fun e w' => e = .returned (.tuple #[.agg (arrV 256 (numK g)), .int .i64 (cntK g 256 : Nat)]) ∧ Below w.heap.size w w' := by
  have hz1 : ∀ w : World, Sem.run Try.prog (zeroValue 52) w = .ok (.agg (arrV 256 fun _ => 0)) w := fun _ => by kernel_rfl
  have hz2 : ∀ w : World, Sem.run Try.prog (zeroValue 85) w = .ok (.agg (arrV 512 fun _ => 0)) w := fun _ => by kernel_rfl
  have hz := (BoxN.new w 52 256 (numK f))
  have b2 : BoxN ((((w.alloc (.cells (arrV 256 (numK f)) 52)).alloc (.cells #[.int .u64 (word p 0), .int .u64 (word p 1), .int .u64 (word p 2), .int .u64 (word p 3)] 26)).alloc (.cells (arrV 256 fun _ => 0) 52)).alloc (.cells (arrV 512 fun _ => 0) 85)) w.heap.size 52 256 (numK f) := ((hz.alloc _).alloc _).alloc _
  have b3 := ((Box4.new (w.alloc (.cells (arrV 256 (numK f)) 52)) p).alloc (.cells (arrV 256 fun _ => 0) 52)).alloc (.cells (arrV 512 fun _ => 0) 85)
  have b4 := (BoxN.new ((w.alloc (.cells (arrV 256 (numK f)) 52)).alloc (.cells #[.int .u64 (word p 0), .int .u64 (word p 1), .int .u64 (word p 2), .int .u64 (word p 3)] 26)) 52 256 fun _ => 0).alloc (.cells (arrV 512 fun _ => 0) 85)
  have b6 := BoxN.new (((w.alloc (.cells (arrV 256 (numK f)) 52)).alloc (.cells #[.int .u64 (word p 0), .int .u64 (word p 1), .int .u64 (word p 2), .int .u64 (word p 3)] 26)).alloc (.cells (arrV 256 fun _ => 0) 52)) 85 512 fun _ => 0
  have hB : Below w.heap.size w ((((w.alloc (.cells (arrV 256 (numK f)) 52)).alloc (.cells #[.int .u64 (word p 0), .int .u64 (word p 1), .int .u64 (word p 2), .int .u64 (word p 3)] 26)).alloc (.cells (arrV 256 fun _ => 0) 52)).alloc (.cells (arrV 512 fun _ => 0) 85)) := ((((Below.refl _ _).alloc (Nat.le_refl _) _).alloc (by simp) _).alloc (by simp; omega) _).alloc (by simp; omega) _
  simp only [World.size_alloc] at b3 b4 b6
  have HPG := Lib.hid hpg
  have HB2 := Lib.hid b2
  have HB3 := Lib.hid b3
  have HB4 := Lib.hid b4
  have HB6 := Lib.hid b6
  have HBB := Lib.hid hB
  clear hpg b2 b3 b4 b6 hB hz
  go_enter Try.func30, Try.ntmps30
  go_wp2_with (refine wpList_load256 (g := w.heap.size) (F := numK f) rfl HB2.out ?_; go_simp)
  generalize ((((w.alloc (.cells (arrV 256 (numK f)) 52)).alloc (.cells #[.int .u64 (word p 0), .int .u64 (word p 1), .int .u64 (word p 2), .int .u64 (word p 3)] 26)).alloc (.cells (arrV 256 fun _ => 0) 52)).alloc (.cells (arrV 512 fun _ => 0) 85)) = wA at *
  clear hz1 hz2
  go_loopg [7, 12] 256 (fun m n i wr => ∃ j : Nat, i = .int .i64 (j : Int) ∧ j ≤ 256 ∧ m = 256 - j ∧ n = .int .i64 (cntK g j : Nat) ∧ BoxN wr w.heap.size 52 256 (fun i => if i < j then numK g i else numK f i) ∧ Box4 wr (w.heap.size + 1) p ∧ BoxN wr (w.heap.size + 1 + 1) 52 256 (fun _ => 0) ∧ BoxN wr (w.heap.size + 1 + 1 + 1) 85 512 (metA f g p j) ∧ Below w.heap.size w wr)
  case atStart => exact ⟨0, rfl, Nat.zero_le _, rfl, rfl, HB2.out.congr fun j hj => by simp, HB3.out, HB4.out, HB6.out.congr fun j hj => by simp [metA, metK_none], HBB.out⟩
  case round =>
    obtain ⟨j, rfl, hj, hmj, rfl, bF, bS, bR, bP, hW⟩ := hrel
    have HMJ := Lib.hid hmj
    clear hmj
    obtain ⟨s0, s1, s2, s3⟩ := bS.cell
    have hsz := bP.lt
    by_cases hlt : j < 256
    · have hix : ∀ w : World, (Instr.index 52 (.agg (arrV 256 (numK f))) (.int .i64 (j : Int))).run Try.prog w = .ok (.int .i64 (numK f j : Nat)) w := fun w => index256 w j hlt
      have hc : numK f j < 256 := Nat.lt_of_lt_of_le (numK_bound f hlt) (cntK_le f 256)
      have hle := Nat.le_trans (cntK_le g j) hj
      have hle2 := Nat.lt_of_lt_of_le (numK_bound g hlt) (cntK_le g 256)
      have hmh := metK_here HPG.out j
      have HNEW := Lib.hid (metA_step HPG.out j hc)
      have HF : Hid (isFst g j = true → numK g j = cntK g j ∧ cntK g (j + 1) = cntK g j + 1) := fun h => ⟨numK_fst g h, by simp [cntK, h]⟩
      have HG : Hid (isFst g j = false → cntK g (j + 1) = cntK g j) := fun h => by simp [cntK, h]
      obtain ⟨pj, hpj⟩ : ∃ pj, p j = pj := ⟨_, rfl⟩
      rw [hpj] at hmh HNEW
      rw [← metA_at f g p j _ pj hc] at hmh
      obtain ⟨off, hoff⟩ : ∃ off : Nat, (if pj then 256 + numK f j else numK f j) = off := ⟨_, rfl⟩
      rw [hoff] at hmh HNEW
      have ho2 : off < 512 := by rw [← hoff]; split <;> omega
      have hcl : wr.cell? ⟨w.heap.size + 1 + 1 + 1, off, none⟩ = some (.int .i64 (metA f g p j off : Nat)) := bP.cell off ho2
      have hwr : wr.cell? ⟨w.heap.size, j, none⟩ = some (.int .i64 ((if j < j then numK g j else numK f j : Nat) : Int)) := bF.cell j hlt
      rw [if_neg (Nat.lt_irrefl j)] at hwr
      rw [hmh] at hcl
      have HOLD : Hid (isFst g j = false → ∀ i, i < 512 → metA f g p j i = metA f g p (j + 1) i) := fun hf i hi => by
        rw [← HNEW.out i]
        split
        · rename_i e; subst e; rw [hmh, hf]; rfl
        · rfl
      have HTO : Hid (∀ i, (if i = j then numK g j else if i < j then numK g i else numK f i) = if i < j + 1 then numK g i else numK f i) := fun i => by
        by_cases e : i = j
        · subst e; simp
        · by_cases e2 : i < j
          · have : i < j + 1 := by omega
            simp [e, e2, this]
          · have : ¬ i < j + 1 := by omega
            simp [e, e2, this]
      clear hmh
      generalize numK f j = c at *
      generalize cntK g j = cn at *
      generalize numK g j = nu at *
      cases hfs : isFst g j
      · rw [hfs] at hcl
        simp only [Bool.false_eq_true, if_false] at hcl
        cases pj
        all_goals
          simp only [Bool.false_eq_true, if_false, if_true] at hoff
          subst hoff
          go_wp2_with (go_at_call 19; (with_reducible refine (has_p p (j : Int) _ (by omega) (by omega)).mono ?_); rintro e w1 ⟨rfl, hb1⟩; rw [Int.toNat_natCast, hpj]; have hd1 := cell_stays hcl hb1; have hd2 := cell_stays hwr hb1; have g1 := (bP.stays hb1).frozen c; have g2 := (bP.stays hb1).frozen (256 + c); have g3 := (bF.stays hb1).frozen j)
          go_roundg (256 - (j + 1))
          case measure => have := HMJ.out; omega
          case rel =>
            exact ⟨j + 1, by go_num, by omega, rfl, by rw [HG.out hfs], ((bF.stays hb1).set j nu hlt).congr (fun i _ => HTO.out i), (bS.stays hb1).far (by simp) _, (bR.stays hb1).far (by simp; omega) _, ((bP.stays hb1).far (by simp; omega) _).congr (HOLD.out hfs), (gro hW hb1).setCell (by simp) _⟩
      · rw [hfs] at hcl
        simp only [if_true] at hcl
        obtain ⟨he1, he2⟩ := HF.out hfs
        subst he1
        cases pj
        all_goals
          simp only [Bool.false_eq_true, if_false, if_true] at hoff
          subst hoff
          go_wp2_with (go_at_call 19; (with_reducible refine (has_p p (j : Int) _ (by omega) (by omega)).mono ?_); rintro e w1 ⟨rfl, hb1⟩; rw [Int.toNat_natCast, hpj]; have hd1 := cell_stays hcl hb1; have hd2 := cell_stays hwr hb1; have g1 := (bP.stays hb1).frozen c; have g2 := (bP.stays hb1).frozen (256 + c); have g3 := (bF.stays hb1).frozen j)
          go_roundg (256 - (j + 1))
          case measure => have := HMJ.out; omega
          case rel =>
            exact ⟨j + 1, by go_num, by omega, rfl, by rw [he2]; rfl, (((bF.stays hb1).far (by simp; omega) _).set j nu hlt).congr (fun i _ => HTO.out i), ((bS.stays hb1).far (by simp) _).far (by simp) _, ((bR.stays hb1).far (by simp) _).far (by simp; omega) _, (((bP.stays hb1).set _ (nu + 1) ho2).far (by simp; omega) _).congr (fun i _ => HNEW.out i), ((gro hW hb1).setCell (by simp; omega) _).setCell (by simp) _⟩
    · have hj6 : j = 256 := by omega
      subst hj6
      have bG := bF.congr (G := numK g) fun i hi => by simp [hi]
      go_wp2_with (first | (refine wpList_load256 (g := w.heap.size) (F := numK g) rfl bG ?_; go_simp) | (refine wpList_store256 (g := w.heap.size + 1 + 1) (F := fun _ => 0) (G := numK g) rfl rfl bR ?_; go_simp))
      have hz3 := bR.lt
      exact bodyPost_ret (v := .tuple #[.agg (arrV 256 (numK g)), .int .i64 (cntK g 256 : Nat)]) (results_arr Try.results30 rfl rfl (bR.put (numK g))) rfl ⟨rfl, below_setRow hW (by omega) _⟩
end Go.Proofs.Ytammicfijnffaaa
