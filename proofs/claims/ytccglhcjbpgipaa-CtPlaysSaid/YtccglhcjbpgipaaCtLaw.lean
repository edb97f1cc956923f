/-
  Layer 10's law: an error's number, a number modulo another, the head that all statements of the layer begin with. Contracts for other texts; no statement of its own.
-/
import Derived.Test.YtccglhcjbpgipaaCtDo
import Derived.Test.YtccglhcjbpgipaaCtNew
import Derived.BigQuiet
import Derived.Deep.LoopGhost
set_option linter.unusedVariables false
set_option linter.unusedSimpArgs false
namespace Go.Proofs.Ytccglhcjbpgipaa
open Go Go.RowKit

set_option maxRecDepth 20000 in
set_option maxHeartbeats 2000000 in
theorem code_p (w : World) (b : Bool) : Calls Try.prog 13 #[errM b] w fun e w' => e = .returned (.int .i64 (if b = true then 0 else 1)) ∧ w = w' := by
  cases b
  · have e1 : ∀ w : World, (binOp .eql 40 (.iface 100 (.int .i64 1)) (.iface 100 (.int .i64 1))).run Try.prog w = .ok (.bool true) w := fun w => by kernel_rfl
    unfold errM
    simp only [Bool.false_eq_true, if_false]
    go_enter Try.func13, Try.ntmps13
    go_wp2
    go_loopg [3] 3 (fun m c wr => c = .int .i64 1 ∧ wr = w)
    case atStart => exact ⟨by first | rfl | trivial, rfl⟩
    case round =>
      obtain ⟨rfl, hww⟩ := hrel
      obtain rfl := hww.symm
      go_wp2
      go_ret
      exact ⟨rfl, rfl⟩
  · unfold errM
    simp only [if_true]
    go_enter Try.func13, Try.ntmps13
    go_wp2
    go_ret
    exact ⟨rfl, rfl⟩
theorem pick_p (w : World) (n by' : Int) (hn : -9223372036854775808 ≤ n ∧ n ≤ 9223372036854775807) (hb : 1 ≤ by' ∧ by' ≤ 1000000) :
    Calls Try.prog 30 #[.int .i64 n, .int .i64 by'] w fun e w' => ∃ p : Nat, e = .returned (.int .i64 p) ∧ (p : Int) < by' ∧ w' = w := by
  have hne : ¬ by' = 0 := by omega
  have hne2 : (by' == 0) = false := by simp; omega
  have hbd : n.tmod by' < by' ∧ -by' < n.tmod by' := by
    have h1 := Int.tmod_lt_of_pos n (show 0 < by' by omega)
    have h2 := Int.lt_tmod_of_pos n (show 0 < by' by omega)
    exact ⟨h1, h2⟩
  obtain ⟨q, hq⟩ : ∃ q, n.tmod by' = q := ⟨_, rfl⟩
  rw [hq] at hbd
  by_cases h0 : q < 0
  · have hw : IntKind.i64.wrap (q + by') = q + by' := IntWalk.i64_in _ (by omega)
    go_enter Try.func30, Try.ntmps30
    go_wp2
    go_ret
    exact ⟨(q + by').toNat, by show Ending.returned (.int .i64 (q + by')) = _; rw [Int.toNat_of_nonneg (by omega)], by omega, rfl⟩
  · go_enter Try.func30, Try.ntmps30
    go_wp2
    go_ret
    exact ⟨q.toNat, by show Ending.returned (.int .i64 q) = _; rw [Int.toNat_of_nonneg (by omega)], by omega, rfl⟩

theorem fits_of {o d a b c n : Int} (h : I64 o ∧ I64 d ∧ I64 a ∧ I64 b ∧ I64 c ∧ U64 n) : Ins.fits ⟨o, d, a, b, c, n⟩ := ⟨h.1, h.2.1, h.2.2.1, h.2.2.2.1, h.2.2.2.2.1, h.2.2.2.2.2⟩
theorem i64_of {v : Int} (h : -9223372036854775808 ≤ v ∧ v ≤ 9223372036854775807) : I64 v := h
theorem u64_of {v : Int} (h : 0 ≤ v ∧ v ≤ 18446744073709551615) : U64 v := h
/-- What Do does, said of what was there at an older time. -/
structure At (w0 w : World) (F : Nat → Prop) (p m : Nat) (f : Int → Int) (tr : List Ins) : Prop where
  mach : Mach w F p m f tr
  new : ∀ b, F b → w0.heap.size ≤ b
  bel : Below w0.heap.size w0 w
theorem At.mk' {w0 w w' : World} {F F' : Nat → Prop} {p m : Nat} {f f' : Int → Int} {tr tr' : List Ins} (h : At w0 w F p m f tr) (hm : Mach w' F' p m f' tr') (hk : Kept F w w') (hn : ∀ b, F' b → F b ∨ w.heap.size ≤ b) : At w0 w' F' p m f' tr' :=
  ⟨hm, fun b e => (hn b e).elim (h.new b) fun e' => Nat.le_trans h.bel.size e', h.bel.trans (hk.below h.bel.size h.new)⟩
theorem up_do {w0 w : World} {F : Nat → Prop} {p m : Nat} {f : Int → Int} {tr : List Ins} (h : At w0 w F p m f tr) (x : Ins) (hx : x.fits) (hm : m ≤ 200000) (hlen : tr.length ≤ 99999) {v : Int} {b : Bool} (hv : toldM x m f = v) (hb : may x m = b) :
    Calls Try.prog 26 #[.pointer (some ⟨p, 0, none⟩), insV x] w fun e w' => e = .returned (.tuple #[.int .u64 v, errM b]) ∧ ∃ F', At w0 w' F' p m (nextM x m f) (nextT x m tr) := by
  refine (do_p h.mach x hx hm hlen).mono fun e w' ⟨h1, F', h2, h3, h4⟩ => ⟨by rw [h1, hv, hb], F', h.mk' h2 h3 h4⟩

set_option maxRecDepth 20000 in
set_option maxHeartbeats 4000000 in
theorem up10_p (w : World) : Calls Try.prog 23 #[] w fun e w' => e = .returned (.bool true) ∧ Below w.heap.size w w' := by
  have hn3 := new_p w 3 (i64_of (by decide))
  unfold RetNew at hn3
  simp only [show ((1 : Int) ≤ 3 ∧ (3 : Int) ≤ 200000) from by decide, if_true, and_self, show Int.toNat 3 = 3 from rfl] at hn3
  have hn0 := fun W => new_p W 0 (i64_of (by decide))
  unfold RetNew at hn0
  simp only [show ¬ ((1 : Int) ≤ 0 ∧ (0 : Int) ≤ 200000) from by decide, if_false] at hn0
  have x1 : Ins.fits ⟨10, 0, 0, 0, 0, 7⟩ := fits_of ⟨i64_of (by decide), i64_of (by decide), i64_of (by decide), i64_of (by decide), i64_of (by decide), u64_of (by decide)⟩
  have x2 : Ins.fits ⟨11, 0, 0, 0, 0, 0⟩ := fits_of ⟨i64_of (by decide), i64_of (by decide), i64_of (by decide), i64_of (by decide), i64_of (by decide), u64_of (by decide)⟩
  have x3 : Ins.fits ⟨11, 0, 3, 0, 0, 0⟩ := fits_of ⟨i64_of (by decide), i64_of (by decide), i64_of (by decide), i64_of (by decide), i64_of (by decide), u64_of (by decide)⟩
  obtain ⟨f1, hf1⟩ : ∃ f1, nextM ⟨10, 0, 0, 0, 0, 7⟩ 3 (fun _ => 0) = f1 := ⟨_, rfl⟩
  obtain ⟨t1, ht1⟩ : ∃ t1, nextT ⟨10, 0, 0, 0, 0, 7⟩ 3 [] = t1 := ⟨_, rfl⟩
  obtain ⟨f2, hf2⟩ : ∃ f2, nextM ⟨11, 0, 0, 0, 0, 0⟩ 3 f1 = f2 := ⟨_, rfl⟩
  obtain ⟨t2, ht2⟩ : ∃ t2, nextT ⟨11, 0, 0, 0, 0, 0⟩ 3 t1 = t2 := ⟨_, rfl⟩
  obtain ⟨f3, hf3⟩ : ∃ f3, nextM ⟨11, 0, 3, 0, 0, 0⟩ 3 f2 = f3 := ⟨_, rfl⟩
  obtain ⟨t3, ht3⟩ : ∃ t3, nextT ⟨11, 0, 3, 0, 0, 0⟩ 3 t2 = t3 := ⟨_, rfl⟩
  have l1 : t1.length = 1 := by rw [← ht1]; rfl
  have l2 : t2.length = 2 := by rw [← ht2, ← ht1]; rfl
  have l3 : t3.length = 2 := by rw [← ht3, ← ht2, ← ht1]; rfl
  have d1 := fun (W : World) F p (h : At w W F p 3 (fun _ => 0) []) => up_do h ⟨10, 0, 0, 0, 0, 7⟩ x1 (by omega) (by simp) (v := 0) (b := true) (by rfl) (by rfl)
  have d2 := fun (W : World) F p (h : At w W F p 3 f1 t1) => up_do h ⟨11, 0, 0, 0, 0, 0⟩ x2 (by omega) (by omega) (v := 7) (b := true) (by rw [← hf1]; rfl) (by rfl)
  have d3 := fun (W : World) F p (h : At w W F p 3 f2 t2) => up_do h ⟨11, 0, 3, 0, 0, 0⟩ x3 (by omega) (by omega) (v := 0) (b := false) (by rfl) (by rfl)
  have dt := fun (W : World) F p (h : At w W F p 3 f3 t3) => take_p h.mach (by omega)
  rw [hf1, ht1] at d1
  rw [hf2, ht2] at d2
  rw [hf3, ht3] at d3
  have hco := fun W => code_p W false
  unfold errM at d1 d2 d3 hco
  unfold insV at d1 d2 d3
  simp only [if_true, Bool.false_eq_true, if_false] at d1 d2 d3 hco
  have D1 := Lib.hid d1
  have D2 := Lib.hid d2
  have D3 := Lib.hid d3
  have DT := Lib.hid dt
  have HCO := Lib.hid hco
  have HN3 := Lib.hid hn3
  have HN0 := Lib.hid hn0
  clear d1 d2 d3 dt hco hn3 hn0 hf1 ht1 hf2 ht2 hf3 ht3 x1 x2 x3 l1 l2
  go_enter Try.func23, Try.ntmps23
  go_wp2_with (first
    | (go_at_call 24; (with_reducible refine HN3.out.mono ?_); rintro e w1 ⟨p, F1, rfl, m1, b1, n1⟩; have A1 := Lib.hid (At.mk m1 n1 b1); clear m1 n1 b1)
    | (go_at_call 26; first
        | ((with_reducible refine (D1.out _ _ _ A1.out).mono ?_); rintro e w2 ⟨rfl, F2, a2⟩; have A2 := Lib.hid a2; clear a2)
        | ((with_reducible refine (D2.out _ _ _ A2.out).mono ?_); rintro e w3 ⟨rfl, F3, a3⟩; have A3 := Lib.hid a3; clear a3)
        | ((with_reducible refine (D3.out _ _ _ A3.out).mono ?_); rintro e w4 ⟨rfl, F4, a4⟩; have A4 := Lib.hid a4; clear a4))
    | (go_at_call 13; (with_reducible refine (HCO.out _).mono ?_); rintro e w5 ⟨rfl, rfl⟩)
    | (go_at_call 29; (with_reducible refine (DT.out _ _ _ A4.out).mono ?_); rintro e w6 ⟨v6, rfl, o6, m6, k6⟩; obtain ⟨A6, c6, rfl⟩ := own_form o6; rw [l3]; have A7 := Lib.hid (A4.out.mk' m6 k6 fun b e => .inl e); clear o6 m6 k6)
    | (go_at_call 24; (with_reducible refine (HN0.out _).mono ?_); rintro e w8 ⟨rfl, b8⟩; have B8 := Lib.hid (gro A7.out.bel b8); clear b8)
    | fail)
  go_ret
  exact ⟨rfl, B8.out⟩
end Go.Proofs.Ytccglhcjbpgipaa
