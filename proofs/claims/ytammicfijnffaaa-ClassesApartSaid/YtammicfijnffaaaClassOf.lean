/-
  classes.Of: the classes of any sets; a slice of sets as it lies in memory. Contracts for other texts; no statement of its own.
-/
import Derived.Test.YtammicfijnffaaaSplit
set_option linter.unusedVariables false
set_option linter.unusedSimpArgs false
namespace Go.Proofs.Ytammicfijnffaaa
open Go Go.RowKit
attribute [local go_sem ↓] Go.wp_at_zero Go.wp_at_succ

theorem numK_nil (b : Nat) : numK (keyL []) b = 0 := by
  have h : numK (keyL []) b = numK (keyL []) 0 := (numK_eq _ _ _).2 rfl
  have := numK_le (keyL []) 0
  have e : cntK (keyL []) 0 = 0 := rfl
  omega
theorem cntK_nil : ∀ n, cntK (keyL []) (n + 1) = 1
  | 0 => rfl
  | n + 1 => by rw [cntK_step, cntK_nil n, numK_nil]; rfl
theorem parts_take (l : List (Nat → Bool)) (j : Nat) (h : j < l.length) : PartsBy (keyL (l.take j)) (keyL (l.take (j + 1))) (l[j]'h) := fun a b => keyL_eq l j h a b

/-- The sets that lie from A on, in blocks below B. -/
def RdS (w : World) (B : Nat) (A : Option Addr) (l : List (Nat → Bool)) : Prop :=
  ∀ k (h : k < l.length), ∃ b off, A = some ⟨b, off, none⟩ ∧ b < B ∧ ∀ q, q < 4 → w.cell? ⟨b, off + k * 4 + q, none⟩ = some (.int .u64 (word (l[k]'h) q))
section
variable {w w' : World} {B B' : Nat} {A : Option Addr} {l : List (Nat → Bool)}
theorem RdS.below (h : RdS w B A l) (hb : Below B w w') : RdS w' B A l := fun k hk => by
  obtain ⟨b, off, e, hB, hc⟩ := h k hk
  exact ⟨b, off, e, hB, fun q hq => (hb.cell (p := ⟨b, off + k * 4 + q, none⟩) hB).trans (hc q hq)⟩
theorem RdS.more (h : RdS w B A l) (hB : B ≤ B') : RdS w B' A l := fun k hk => by
  obtain ⟨b, off, e, hb, hc⟩ := h k hk
  exact ⟨b, off, e, by omega, hc⟩
end

/-- What Of tells: each byte's class, and how many there are. -/
def RetCls (w : World) (l : List (Nat → Bool)) (e : Ending) (w' : World) : Prop :=
  e = .returned (.tuple #[.agg (arrV 256 (numK (keyL l))), .int .i64 (cntK (keyL l) 256 : Nat)]) ∧ Below w.heap.size w w'

set_option maxRecDepth 20000 in
set_option maxHeartbeats 2000000 in
theorem classof_p (w : World) (A : Option Addr) (c : Nat) (l : List (Nat → Bool)) (hr : RdS w w.heap.size A l) (hlen : l.length ≤ 9223372036854775807) :
    Calls Try.prog 17 #[.slice A l.length c] w (RetCls w l) := by
  have hz1 : ∀ w : World, Sem.run Try.prog (zeroValue 52) w = .ok (.agg (arrV 256 fun _ => 0)) w := fun _ => by kernel_rfl
  have b2 := (BoxN.new w 52 256 fun _ => 0).alloc (.cells (arrV 256 fun _ => 0) 52)
  have b4 := (BoxN.new (w.alloc (.cells (arrV 256 fun _ => 0) 52)) 52 256 fun _ => 0)
  have hB : Below w.heap.size w ((w.alloc (.cells (arrV 256 fun _ => 0) 52)).alloc (.cells (arrV 256 fun _ => 0) 52)) := ((Below.refl _ _).alloc (Nat.le_refl _) _).alloc (by simp) _
  simp only [World.size_alloc] at b4
  have HB2 := Lib.hid b2
  have HB4 := Lib.hid b4
  have HBB := Lib.hid hB
  have HR := Lib.hid hr
  clear b2 b4 hB hr
  generalize hL : l.length = L at *
  have HL := Lib.hid hL
  clear hL
  go_enter Try.func17, Try.ntmps17
  go_wp2
  clear hz1
  go_loopg [5, 10] L (fun m n i wr => ∃ j : Nat, i = .int .i64 (j : Int) ∧ j ≤ L ∧ m = L - j ∧ n = .int .i64 (cntK (keyL (l.take j)) 256 : Nat) ∧ BoxN wr w.heap.size 52 256 (fun _ => 0) ∧ BoxN wr (w.heap.size + 1) 52 256 (numK (keyL (l.take j))) ∧ Below w.heap.size w wr)
  case atStart => exact ⟨0, rfl, Nat.zero_le _, rfl, by rw [List.take_zero, cntK_nil 255]; rfl, HB2.out, HB4.out.congr fun j hj => by rw [List.take_zero, numK_nil], HBB.out⟩
  case round =>
    obtain ⟨j, rfl, hj, hmj, rfl, bR, bC, hW⟩ := hrel
    have HMJ := Lib.hid hmj
    clear hmj
    have hsz := bC.lt
    by_cases hlt : j < L
    · have hlt' : j < l.length := by rw [HL.out]; exact hlt
      obtain ⟨b, off, rfl, hbB, hc⟩ := HR.out j hlt'
      have hp := parts_take l j hlt'
      generalize l[j]'hlt' = p at *
      have HP := Lib.hid hp
      clear hp
      have c0 := (hW.cell (p := ⟨b, off + j * 4 + 0, none⟩) hbB).trans (hc 0 (by omega))
      have c1 := (hW.cell (p := ⟨b, off + j * 4 + 1, none⟩) hbB).trans (hc 1 (by omega))
      have c2 := (hW.cell (p := ⟨b, off + j * 4 + 2, none⟩) hbB).trans (hc 2 (by omega))
      have c3 := (hW.cell (p := ⟨b, off + j * 4 + 3, none⟩) hbB).trans (hc 3 (by omega))
      have k0 : (0 : Int) ≤ (j : Int) := by omega
      have k1 : (j : Int) < (L : Int) := by omega
      clear hc
      rw [Nat.add_zero] at c0
      go_wp2_with (first
        | (refine wpList_load256 (g := w.heap.size + 1) (F := numK (keyL (l.take j))) rfl (bC.alloc _) ?_; go_simp)
        | (go_at_call 30; (with_reducible refine (split_p _ _ p _ HP.out).mono ?_); rintro e w1 ⟨rfl, hb1⟩; have hC1 := (bC.alloc _).stays hb1)
        | (refine wpList_store256 (g := w.heap.size + 1) (F := numK (keyL (l.take j))) (G := numK (keyL (l.take (j + 1)))) rfl rfl hC1 ?_; go_simp))
      go_roundg (L - (j + 1))
      case measure => have := HMJ.out; omega
      case rel => exact ⟨j + 1, by go_num, by omega, rfl, rfl, ((bR.alloc _).stays hb1).row (by omega) _, hC1.put _, below_setRow (gro1 hW hb1) (by omega) _⟩
    · have hj : j = l.length := by rw [HL.out]; omega
      rw [hj, List.take_length] at bC ⊢
      go_wp2_with (first | (refine wpList_load256 (g := w.heap.size + 1) (F := numK (keyL l)) rfl bC ?_; go_simp) | (refine wpList_store256 (g := w.heap.size) (F := fun _ => 0) (G := numK (keyL l)) rfl rfl bR ?_; go_simp))
      have hz3 := bR.lt
      exact bodyPost_ret (v := .tuple #[.agg (arrV 256 (numK (keyL l))), .int .i64 (cntK (keyL l) 256 : Nat)]) (results_arr Try.results17 rfl rfl (bR.put (numK (keyL l)))) rfl ⟨rfl, below_setRow hW (by omega) _⟩
end Go.Proofs.Ytammicfijnffaaa
