/-
  Several texts of this proof in one file: Eq4, Law3, Open. No statement of its own.
-/
import Derived.Test.YtlnanelejaddiaaDoorMa1
import Derived.Laws.StructEq
import Derived.Test.YtlnanelejaddiaaDoorMa8
import Derived.Test.YtlnanelejaddiaaDoorMa10
import Derived.Lib.SlBytesConst
import Derived.ProofKit
import Derived.OpenShut
import Derived.Laws.IdiomArrays
import Derived.Lib.SmallJoins
set_option linter.unusedVariables false
set_option linter.unusedSimpArgs false
set_option maxRecDepth 20000

/-
  How Go's == on two sets (arrays of four words) goes in the model: true just if all four words are the same. A law for other texts; no statement of its own.
-/
namespace Go.Proofs.YtlnanelejaddiaaDoor
open Go Go.RowKit

theorem eq4 (a0 a1 a2 a3 b0 b1 b2 b3 : Int) (w : World) :
    (Op.equalIn 10000 26 (.agg #[.int .u64 a0, .int .u64 a1, .int .u64 a2, .int .u64 a3]) (.agg #[.int .u64 b0, .int .u64 b1, .int .u64 b2, .int .u64 b3])).run Tryd.prog w = .ok (a0 == b0 && a1 == b1 && a2 == b2 && a3 == b3) w := by
  have hs : ∀ w : World, (sizeOf 24).run Tryd.prog w = .ok 1 w := fun _ => by kernel_rfl
  have p0 : ∀ (c0 c1 c2 c3 : Int) (w : World), (part 24 #[.int .u64 c0, .int .u64 c1, .int .u64 c2, .int .u64 c3] 0).run Tryd.prog w = .ok (.int .u64 c0) w := fun _ _ _ _ _ => by kernel_rfl
  have p1 : ∀ (c0 c1 c2 c3 : Int) (w : World), (part 24 #[.int .u64 c0, .int .u64 c1, .int .u64 c2, .int .u64 c3] 1).run Tryd.prog w = .ok (.int .u64 c1) w := fun _ _ _ _ _ => by kernel_rfl
  have p2 : ∀ (c0 c1 c2 c3 : Int) (w : World), (part 24 #[.int .u64 c0, .int .u64 c1, .int .u64 c2, .int .u64 c3] 2).run Tryd.prog w = .ok (.int .u64 c2) w := fun _ _ _ _ _ => by kernel_rfl
  have p3 : ∀ (c0 c1 c2 c3 : Int) (w : World), (part 24 #[.int .u64 c0, .int .u64 c1, .int .u64 c2, .int .u64 c3] 3).run Tryd.prog w = .ok (.int .u64 c3) w := fun _ _ _ _ _ => by kernel_rfl
  have pe : ∀ (a b : Int) (w : World), (Op.equalIn 9999 24 (.int .u64 a) (.int .u64 b)).run Tryd.prog w = .ok (a == b) w := fun a b w => run_equalIn_int (P := Tryd.prog) w 9998 24 .u64 .u64 a b Tryd.underlying24
  rw [show (10000 : Nat) = 9999 + 1 from rfl]
  unfold Op.equalIn
  simp only [Sem.run_bind, run_underlying Tryd.underlying26, Result.andThen_ok, hs]
  simp only [Std.Legacy.Range.forIn_eq_forIn_range', Std.Legacy.Range.size]
  simp only [show List.range' 0 ((4 - 0 + 1 - 1) / 1) 1 = [0, 1, 2, 3] from rfl, List.forIn_cons, List.forIn_nil, Sem.run_bind, p0, p1, p2, p3, pe, Result.andThen_ok, Nat.zero_mul, Nat.one_mul, Nat.mul_one]
  cases h0 : a0 == b0 <;> cases h1 : a1 == b1 <;> cases h2 : a2 == b2 <;> cases h3 : a3 == b3 <;> simp [p1, p2, p3, pe, go_sem, h1, h2, h3]

end Go.Proofs.YtlnanelejaddiaaDoor

/-
  The law LangTells of layer 3 as a walk: the head that all statements of the layer begin with, and the law itself. Contracts for other texts; no statement of its own.
-/
namespace Go.Proofs.YtlnanelejaddiaaDoor
open Go Go.RowKit
attribute [local go_sem ↓] Go.wp_at_zero Go.wp_at_succ

/-- The pattern of the head's example. -/
def upT : T := .mk 4 noneP 2 3 [.one (rangeP 97 97)]
theorem up_tree : parse ⟨#[97, 123, 50, 44, 51, 125]⟩ = .ok upT := by kernel_rfl
theorem up_wf : WF upT := wf_parse up_tree
theorem upE (xs : List Int) (j : Nat) : E xs upT 0 j ↔ ∃ m : Nat, 2 ≤ m ∧ m ≤ 3 ∧ iter (E xs (.one (rangeP 97 97))) m 0 j := by
  unfold upT
  rw [E_rep]
  constructor
  · rintro ⟨m, h1, h2, h3⟩
    rw [EAny_one] at h3
    exact ⟨m, by omega, by omega, h3⟩
  · rintro ⟨m, h1, h2, h3⟩
    exact ⟨m, by omega, by omega, by rw [EAny_one]; exact h3⟩
theorem r97 : rangeP 97 97 97 = true := by decide +kernel
theorem up_aa : E [97, 97] upT 0 2 := by
  rw [upE]
  refine ⟨2, by omega, by omega, 1, ⟨0, rfl, ?_⟩, ?_⟩
  · unfold T.one
    rw [E_one]
    exact ⟨by simp, r97, rfl⟩
  · unfold T.one
    rw [E_one]
    exact ⟨by simp, r97, rfl⟩
theorem up_a : ¬ E [97] upT 0 1 := fun h => by
  have := E_len up_wf 0 1 (by simp) h
  have e : LenU false upT = 2 := by decide +kernel
  omega

theorem cell_mark (w : World) (C : Array Value) (ty : TypeId) (fr : Nat × Nat) (k : Nat) : (w.alloc (.cells C ty fr)).cell? ⟨w.heap.size, k, none⟩ = C[k]? := by
  have h := World.alloc_heap_new w (.cells C ty fr)
  unfold World.cell?
  dsimp only
  rw [h]
  rfl
theorem rd_mark2 (w : World) (g : Nat) (hg : g = w.heap.size) (v u : Int) (fr : Nat × Nat) : RdB (w.alloc (.cells #[.int .u8 v, .int .u8 u] 5 fr)) (w.alloc (.cells #[.int .u8 v, .int .u8 u] 5 fr)).heap.size (some ⟨g, 0, none⟩) [v, u] := by
  subst hg
  intro k hk
  refine ⟨w.heap.size, 0, rfl, by simp, ?_⟩
  rw [cell_mark]
  simp at hk
  match k, hk with
  | 0, _ => rfl
  | 1, _ => rfl
theorem rd_mark1 (w : World) (g : Nat) (hg : g = w.heap.size) (v : Int) (fr : Nat × Nat) : RdB (w.alloc (.cells #[.int .u8 v] 5 fr)) (w.alloc (.cells #[.int .u8 v] 5 fr)).heap.size (some ⟨g, 0, none⟩) [v] := by
  subst hg
  intro k hk
  refine ⟨w.heap.size, 0, rfl, by simp, ?_⟩
  rw [cell_mark]
  have hk0 : k = 0 := by have h1 : k < 1 := hk; omega
  subst hk0
  rfl

theorem upparse_p (w : World) : Calls Tryd.prog 20 #[.string ⟨#[97, 123, 50, 44, 51, 125]⟩] w fun e w' => ∃ A n c, e = .returned (.tuple #[nodeV upT (.slice A n c), .int .i64 0, .int .i64 0]) ∧ Tree w' (fun b => w.heap.size ≤ b) upT (.slice A n c) ∧ Below w.heap.size w w' := by
  refine (rparse_p w _ (by simp [ByteArray.size])).mono fun e w' h => ?_
  obtain ⟨t, k, bad, at_, rfl, ht, hb, hm⟩ := h
  rw [up_tree] at hm
  obtain ⟨rfl, rfl, rfl⟩ := hm
  obtain ⟨A, n, c, rfl⟩ := ht.form
  exact ⟨A, n, c, rfl, ht, hb⟩

set_option maxRecDepth 20000 in
set_option maxHeartbeats 2000000 in
theorem up3_p (w : World) (htab : Tab w) : Calls Tryd.prog 6 #[] w fun e w' => e = .returned (.bool true) ∧ Below w.heap.size w w' := by
  have hhas : ∀ (W : World) (k : Value) (ok : Nat → Prop) (A : Option Addr) (c : Nat), Tree W ok upT k → RdB W W.heap.size A [97, 97] → Tab W → Calls Tryd.prog 8 #[nodeP upT k, .slice A 2 c] W fun e w' => e = .returned (.bool true) ∧ Below W.heap.size W w' := fun W k ok A c ht hr hb => (langhas_p (xs := [97, 97]) up_wf ht hr (fun k hk => by match k, hk with | 0, _ => simp | 1, _ => simp) (by simp) hb).mono fun e w' ⟨b, h1, h2, h3⟩ => ⟨by rw [h1, h2.2 up_aa], h3⟩
  have hhas1 : ∀ (W : World) (k : Value) (ok : Nat → Prop) (A : Option Addr) (c : Nat), Tree W ok upT k → RdB W W.heap.size A [97] → Tab W → Calls Tryd.prog 8 #[nodeP upT k, .slice A 1 c] W fun e w' => e = .returned (.bool false) ∧ Below W.heap.size W w' := fun W k ok A c ht hr hb => (langhas_p (xs := [97]) up_wf ht hr (fun k hk => by match k, hk with | 0, _ => simp) (by simp) hb).mono fun e w' ⟨b, h1, h2, h3⟩ => ⟨by
    have : b = false := by
      cases b with
      | false => rfl
      | true => exact absurd (h2.1 rfl) up_a
    rw [h1, this], h3⟩
  have hle : ∀ (W : World) (k : Value) (ok : Nat → Prop), Tree W ok upT k → Calls Tryd.prog 10 #[nodeP upT k] W (RetInt W 2) := fun W k ok ht => by
    have := least_p W up_wf ht
    rwa [show lenN false upT = 2 by decide +kernel] at this
  have hmo : ∀ (W : World) (k : Value) (ok : Nat → Prop), Tree W ok upT k → Calls Tryd.prog 12 #[nodeP upT k] W (RetInt W 3) := fun W k ok ht => by
    have := most_p W up_wf ht
    rwa [show lenN true upT = 3 by decide +kernel] at this
  unfold nodeP at hhas hhas1 hle hmo
  unfold RetInt at hle hmo
  have HHAS := Lib.hid hhas
  have HHAS1 := Lib.hid hhas1
  have HLE := Lib.hid hle
  have HMO := Lib.hid hmo
  have HTB := Lib.hid htab
  have HTB1 := Lib.hid htab.1
  have HUP := Lib.hid (upparse_p w)
  clear hhas hhas1 hle hmo htab
  go_enter Tryd.func6, Tryd.ntmps6
  have hcv1 := fun W => Lib.run_convert_bytes_const (P := Tryd.prog) W 22 5 #[.int .u8 97] 1 1 Tryd.underlying22 Tryd.underlying5
  go_wp2_with (first
    | (go_at_call 20; (with_reducible refine HUP.out.mono ?_); rintro e w1 ⟨A, n, c, rfl, ht, hb1⟩; have HT := Lib.hid (ht.alloc (.cells #[.int .i64 upT.op, .int .u64 (word upT.set 0), .int .u64 (word upT.set 1), .int .u64 (word upT.set 2), .int .u64 (word upT.set 3), .int .i64 upT.lo, .int .i64 upT.hi, .slice A n c] 29)); have HB1 := Lib.hid (hb1.alloc hb1.size (.cells #[.int .i64 upT.op, .int .u64 (word upT.set 0), .int .u64 (word upT.set 1), .int .u64 (word upT.set 2), .int .u64 (word upT.set 3), .int .i64 upT.lo, .int .i64 upT.hi, .slice A n c] 29)); have b1 := Box8.new w1 upT (.slice A n c); have BX := Lib.hid b1; have hcv2 := Lib.run_convert_bytes_const (P := Tryd.prog) (w1.alloc (.cells #[.int .i64 upT.op, .int .u64 (word upT.set 0), .int .u64 (word upT.set 1), .int .u64 (word upT.set 2), .int .u64 (word upT.set 3), .int .i64 upT.lo, .int .i64 upT.hi, .slice A n c] 29)) 22 5 #[.int .u8 97, .int .u8 97] 2 2 Tryd.underlying22 Tryd.underlying5; rw [World.size_alloc] at hcv2; clear ht hb1 b1; unfold nodeV)
    | (go_at_call 8; (with_reducible refine (HHAS.out _ _ _ _ _ (HT.out.alloc _) (rd_mark2 _ _ (by simp) _ _ _) (HTB.out.below (HB1.out.alloc HB1.out.size _) HTB1.out)).mono ?_); rintro e w2 ⟨rfl, hb2⟩; have HB2 := Lib.hid (gro1 HB1.out hb2); have HT2 := Lib.hid ((HT.out.alloc _).stays hb2); have BX2 := Lib.hid ((BX.out.alloc _).stays hb2); obtain ⟨r0, r1, r2, r3, r4, r5, r6, r7⟩ := BX2.out.cell; clear hb2)
    | (go_at_call 8; (with_reducible refine (HHAS1.out _ _ _ _ _ (HT2.out.alloc _) (rd_mark1 _ _ rfl _ _) (HTB.out.below (HB2.out.alloc HB2.out.size _) HTB1.out)).mono ?_); rintro e w3 ⟨rfl, hb3⟩; have HB3 := Lib.hid (gro1 HB2.out hb3); have HT3 := Lib.hid ((HT2.out.alloc _).stays hb3); have BX3 := Lib.hid ((BX2.out.alloc _).stays hb3); obtain ⟨s0, s1, s2, s3, s4, s5, s6, s7⟩ := BX3.out.cell; clear hb3)
    | (go_at_call 10; (with_reducible refine (HLE.out _ _ _ HT3.out).mono ?_); rintro e w4 ⟨rfl, hb4⟩; have HB4 := Lib.hid (gro HB3.out hb4); have HT4 := Lib.hid (HT3.out.stays hb4); have BX4 := Lib.hid (BX3.out.stays hb4); obtain ⟨z0, z1, z2, z3, z4, z5, z6, z7⟩ := BX4.out.cell; clear hb4)
    | (go_at_call 12; (with_reducible refine (HMO.out _ _ _ HT4.out).mono ?_); rintro e w5 ⟨rfl, hb5⟩; have HB5 := Lib.hid (gro HB4.out hb5); clear hb5))
  go_ret
  exact ⟨rfl, HB5.out⟩

theorem pattern_ok {w : World} {s : ByteArray} {t : T} (hs : s.size ≤ 9223372036854775807) (hp : parse s = .ok t) (hpl : plN t ≤ 60) : Calls Tryd.prog 7 #[.string s] w fun e w' => ∃ A n c, e = .returned (.tuple #[nodeV t (.slice A n c), .int .i64 1]) ∧ Tree w' (fun b => w.heap.size ≤ b) t (.slice A n c) ∧ Below w.heap.size w w' := by
  refine (pattern0_p w s hs).mono fun e w' h => ?_
  obtain ⟨t', k, ok, rfl, ht, hb, h⟩ := h
  rcases h with ⟨rfl, h1, h2, h3⟩ | ⟨rfl, h1, h2, h3⟩
  · rw [hp] at h1
    injection h1 with h1
    subst h1
    obtain ⟨A, n, c, rfl⟩ := ht.form
    exact ⟨A, n, c, rfl, ht, hb⟩
  · exact absurd hpl (h3 t hp)
theorem pattern_no {w : World} {s : ByteArray} (hs : s.size ≤ 9223372036854775807) (hp : ¬ ∃ t, parse s = .ok t ∧ plN t ≤ 60) : Calls Tryd.prog 7 #[.string s] w fun e w' => e = .returned (.tuple #[nodeV T.zero (.slice none 0 0), .int .i64 0]) ∧ Below w.heap.size w w' := by
  refine (pattern0_p w s hs).mono fun e w' h => ?_
  obtain ⟨t', k, ok, rfl, ht, hb, h⟩ := h
  rcases h with ⟨rfl, h1, h2, h3⟩ | ⟨rfl, rfl, rfl, h3⟩
  · exact absurd ⟨t', h1, h3⟩ hp
  · exact ⟨rfl, hb⟩

set_option maxRecDepth 20000 in
set_option maxHeartbeats 4000000 in
theorem langtells_p {w : World} {s : ByteArray} {c : Nat} {xs : List Int} {A : Option Addr} (hs : s.size ≤ 9223372036854775807) (hrd : RdB w w.heap.size A xs) (hby : ∀ k, k < xs.length → 0 ≤ xs.getD k 0 ∧ xs.getD k 0 ≤ 255) (htab : Tab w) :
    Calls Tryd.prog 3 #[.string s, .slice A xs.length c] w fun e w' => e = .returned (.bool true) ∧ Below w.heap.size w w' := by
  have HU := Lib.hid (up3_p w htab)
  by_cases hp : ∃ t, parse s = .ok t ∧ plN t ≤ 60
  · obtain ⟨t, hp, hpl⟩ := hp
    have hwf := wf_parse hp
    have hpat := fun W => pattern_ok (w := W) hs hp hpl
    have HPAT := Lib.hid hpat
    clear hpat hp hpl hs
    by_cases hlen : xs.length ≤ 60
    · obtain ⟨bv, hbv⟩ : ∃ bv : Bool, (bv = true ↔ E xs t 0 xs.length) := by
        by_cases hE : E xs t 0 xs.length
        · exact ⟨true, by simp [hE]⟩
        · exact ⟨false, by simp [hE]⟩
      have hhas : ∀ (W : World) (k : Value) (ok : Nat → Prop), Tree W ok t k → Below w.heap.size w W → Calls Tryd.prog 8 #[nodeP t k, .slice A xs.length c] W fun e w' => e = .returned (.bool bv) ∧ Below W.heap.size W w' := fun W k ok ht hb => (langhas_p hwf ht ((hrd.below hb).more hb.size) hby (by omega) (htab.below hb htab.1)).mono fun e w' ⟨b, h1, h2, h3⟩ => ⟨by rw [h1, show b = bv from Bool.eq_iff_iff.2 (h2.trans hbv.symm)], h3⟩
      have hword : ∀ (W : World) (k : Value) (ok : Nat → Prop), Tree W ok t k → Below w.heap.size w W → Calls Tryd.prog 9 #[nodeP t k, .slice A xs.length c] W fun e w' => e = .returned (.bool bv) ∧ Below W.heap.size W w' := fun W k ok ht hb => (word_p (c := c) ⟨hwf, ht, (hrd.below hb).more hb.size, hby, by omega, Nat.zero_le _⟩).mono fun e w' ⟨b, h1, h2, h3⟩ => ⟨by rw [h1, show b = bv from Bool.eq_iff_iff.2 (h2.trans hbv.symm)], h3⟩
      have hle : ∀ (W : World) (k : Value) (ok : Nat → Prop), Tree W ok t k → Calls Tryd.prog 10 #[nodeP t k] W (RetInt W (lenN false t)) := fun W k ok ht => least_p W hwf ht
      have hmo : ∀ (W : World) (k : Value) (ok : Nat → Prop), Tree W ok t k → Calls Tryd.prog 12 #[nodeP t k] W (RetInt W (lenN true t)) := fun W k ok ht => most_p W hwf ht
      have hln : ∀ (W : World) (k : Value) (ok : Nat → Prop) (m : Bool), Tree W ok t k → Calls Tryd.prog 11 #[nodeP t k, .bool m] W (RetInt W (lenN m t)) := fun W k ok m ht => length_p m W hwf ht
      have hla : ∀ (W : World) (k : Value) (ok : Nat → Prop), Tree W ok t k → Calls Tryd.prog 13 #[nodeP t k] W (RetSetOf W (anyP t)) := fun W k ok ht => langany_p W hwf ht
      have hra : ∀ (W : World) (k : Value) (ok : Nat → Prop), Tree W ok t k → Calls Tryd.prog 14 #[nodeP t k] W (RetSetOf W (anyP t)) := fun W k ok ht => anyref_p W hwf ht
      unfold nodeP at hhas hword hle hmo hln hla hra
      unfold RetInt at hle hmo hln
      unfold RetSetOf setV at hla hra
      have HHAS := Lib.hid hhas
      have HWORD := Lib.hid hword
      have HLE := Lib.hid hle
      have HMO := Lib.hid hmo
      have HLN := Lib.hid hln
      have HLA := Lib.hid hla
      have HRA := Lib.hid hra
      have eq4 := eq4
      have hi60 : ¬ ((60 : Int) < (xs.length : Int)) := by omega
      clear hhas hword hle hmo hln hla hra hrd hby htab hbv hwf hlen
      go_enter Tryd.func3, Tryd.ntmps3
      go_wp2_with (first
        | (go_at_call 6; (with_reducible refine HU.out.mono ?_); rintro e w1 ⟨rfl, hb1⟩; have HB1 := Lib.hid hb1; clear hb1)
        | (go_at_call 7; (with_reducible refine (HPAT.out _).mono ?_); rintro e w2 ⟨A', n, c', rfl, ht, hb2⟩; have hb3 := gro HB1.out hb2; have HT := Lib.hid (ht.alloc (.cells #[.int .i64 t.op, .int .u64 (word t.set 0), .int .u64 (word t.set 1), .int .u64 (word t.set 2), .int .u64 (word t.set 3), .int .i64 t.lo, .int .i64 t.hi, .slice A' n c'] 29)); have HB := Lib.hid (hb3.alloc hb3.size (.cells #[.int .i64 t.op, .int .u64 (word t.set 0), .int .u64 (word t.set 1), .int .u64 (word t.set 2), .int .u64 (word t.set 3), .int .i64 t.lo, .int .i64 t.hi, .slice A' n c'] 29)); have BX := Lib.hid (Box8.new w2 t (.slice A' n c')); obtain ⟨r0, r1, r2, r3, r4, r5, r6, r7⟩ := BX.out.cell; clear ht hb2 hb3; unfold nodeV))
      have hd := (Below.refl (w2.alloc (.cells #[.int .i64 t.op, .int .u64 (word t.set 0), .int .u64 (word t.set 1), .int .u64 (word t.set 2), .int .u64 (word t.set 3), .int .i64 t.lo, .int .i64 t.hi, .slice A' n c'] 29)).heap.size (w2.alloc (.cells #[.int .i64 t.op, .int .u64 (word t.set 0), .int .u64 (word t.set 1), .int .u64 (word t.set 2), .int .u64 (word t.set 3), .int .i64 t.lo, .int .i64 t.hi, .slice A' n c'] 29))).drew
      have HT := Lib.hid (HT.out.stays hd)
      have HB := Lib.hid (gro HB.out hd)
      have BX := Lib.hid (BX.out.stays hd)
      have hmx : Tryd.prog.follows .mixedOrders = true := by kernel_rfl
      clear r0 r1 r2 r3 r4 r5 r6 r7 hd
      obtain ⟨r0, r1, r2, r3, r4, r5, r6, r7⟩ := BX.out.cell
      go_region_held (fun w' => w'.cell? ⟨w2.heap.size, 0, none⟩ = some (.int .i64 t.op) ∧ w'.cell? ⟨w2.heap.size, 1, none⟩ = some (.int .u64 (word t.set 0)) ∧ w'.cell? ⟨w2.heap.size, 2, none⟩ = some (.int .u64 (word t.set 1)) ∧ w'.cell? ⟨w2.heap.size, 3, none⟩ = some (.int .u64 (word t.set 2)) ∧ w'.cell? ⟨w2.heap.size, 4, none⟩ = some (.int .u64 (word t.set 3)) ∧ w'.cell? ⟨w2.heap.size, 5, none⟩ = some (.int .i64 t.lo) ∧ w'.cell? ⟨w2.heap.size, 6, none⟩ = some (.int .i64 t.hi) ∧ w'.cell? ⟨w2.heap.size, 7, none⟩ = some (.slice A' n c'))
        (exact ⟨r0, r1, r2, r3, r4, r5, r6, r7⟩) (first
        | (go_at_call 8; (with_reducible refine (HHAS.out _ _ _ HT.out HB.out).mono ?_); rintro e w3 ⟨rfl, hbx⟩; have HB := Lib.hid (gro HB.out hbx); have HT := Lib.hid (HT.out.stays hbx); have BX := Lib.hid (BX.out.stays hbx); clear r0 r1 r2 r3 r4 r5 r6 r7; obtain ⟨r0, r1, r2, r3, r4, r5, r6, r7⟩ := BX.out.cell; clear hbx)
        | (go_at_call 9; (with_reducible refine (HWORD.out _ _ _ HT.out HB.out).mono ?_); rintro e w4 ⟨rfl, hbx⟩; have HB := Lib.hid (gro HB.out hbx); have HT := Lib.hid (HT.out.stays hbx); have BX := Lib.hid (BX.out.stays hbx); clear r0 r1 r2 r3 r4 r5 r6 r7; obtain ⟨r0, r1, r2, r3, r4, r5, r6, r7⟩ := BX.out.cell; clear hbx)
        | (go_at_call 10; (with_reducible refine (HLE.out _ _ _ HT.out).mono ?_); rintro e w5 ⟨rfl, hbx⟩; have HB := Lib.hid (gro HB.out hbx); have HT := Lib.hid (HT.out.stays hbx); have BX := Lib.hid (BX.out.stays hbx); clear r0 r1 r2 r3 r4 r5 r6 r7; obtain ⟨r0, r1, r2, r3, r4, r5, r6, r7⟩ := BX.out.cell; clear hbx)
        | (go_at_call 11; (with_reducible refine (HLN.out _ _ _ false HT.out).mono ?_); rintro e w6 ⟨rfl, hbx⟩; have HB := Lib.hid (gro HB.out hbx); have HT := Lib.hid (HT.out.stays hbx); have BX := Lib.hid (BX.out.stays hbx); clear r0 r1 r2 r3 r4 r5 r6 r7; obtain ⟨r0, r1, r2, r3, r4, r5, r6, r7⟩ := BX.out.cell; clear hbx)
        | (go_at_call 12; (with_reducible refine (HMO.out _ _ _ HT.out).mono ?_); rintro e w7 ⟨rfl, hbx⟩; have HB := Lib.hid (gro HB.out hbx); have HT := Lib.hid (HT.out.stays hbx); have BX := Lib.hid (BX.out.stays hbx); clear r0 r1 r2 r3 r4 r5 r6 r7; obtain ⟨r0, r1, r2, r3, r4, r5, r6, r7⟩ := BX.out.cell; clear hbx)
        | (go_at_call 11; (with_reducible refine (HLN.out _ _ _ true HT.out).mono ?_); rintro e w8 ⟨rfl, hbx⟩; have HB := Lib.hid (gro HB.out hbx); have HT := Lib.hid (HT.out.stays hbx); have BX := Lib.hid (BX.out.stays hbx); clear r0 r1 r2 r3 r4 r5 r6 r7; obtain ⟨r0, r1, r2, r3, r4, r5, r6, r7⟩ := BX.out.cell; clear hbx)
        | (go_at_call 13; (with_reducible refine (HLA.out _ _ _ HT.out).mono ?_); rintro e w9 ⟨rfl, hbx⟩; have HB := Lib.hid (gro HB.out hbx); have HT := Lib.hid (HT.out.stays hbx); have BX := Lib.hid (BX.out.stays hbx); clear r0 r1 r2 r3 r4 r5 r6 r7; obtain ⟨r0, r1, r2, r3, r4, r5, r6, r7⟩ := BX.out.cell; clear hbx)
        | (go_at_call 14; (with_reducible refine (HRA.out _ _ _ HT.out).mono ?_); rintro e w10 ⟨rfl, hbx⟩; have HB := Lib.hid (gro HB.out hbx); have HT := Lib.hid (HT.out.stays hbx); have BX := Lib.hid (BX.out.stays hbx); clear r0 r1 r2 r3 r4 r5 r6 r7; obtain ⟨r0, r1, r2, r3, r4, r5, r6, r7⟩ := BX.out.cell; clear hbx))
      all_goals go_wp2
      go_ret
      exact ⟨rfl, HB.out⟩
    · have hi60 : (60 : Int) < (xs.length : Int) := by omega
      clear hlen hwf hrd hby htab
      go_enter Tryd.func3, Tryd.ntmps3
      go_wp2_with (first
        | (go_at_call 6; (with_reducible refine HU.out.mono ?_); rintro e w1 ⟨rfl, hb1⟩; have HB1 := Lib.hid hb1; clear hb1)
        | (go_at_call 7; (with_reducible refine (HPAT.out _).mono ?_); rintro e w2 ⟨A', n, c', rfl, ht, hb2⟩; have hb3 := gro HB1.out hb2; have HB := Lib.hid (hb3.alloc hb3.size (.cells #[.int .i64 t.op, .int .u64 (word t.set 0), .int .u64 (word t.set 1), .int .u64 (word t.set 2), .int .u64 (word t.set 3), .int .i64 t.lo, .int .i64 t.hi, .slice A' n c'] 29)); clear ht hb2 hb3; unfold nodeV))
      go_ret
      exact ⟨rfl, HB.out⟩
  · have hpat := fun W => pattern_no (w := W) hs hp
    unfold nodeV at hpat
    have HPAT := Lib.hid hpat
    clear hpat hp hs hrd hby htab
    go_enter Tryd.func3, Tryd.ntmps3
    go_wp2_with (first
      | (go_at_call 6; (with_reducible refine HU.out.mono ?_); rintro e w1 ⟨rfl, hb1⟩; have HB1 := Lib.hid hb1; clear hb1)
      | (go_at_call 7; (with_reducible refine (HPAT.out _).mono ?_); rintro e w2 ⟨rfl, hb2⟩; have hb3 := gro HB1.out hb2; have HB := Lib.hid (hb3.alloc hb3.size (.cells #[.int .i64 T.zero.op, .int .u64 (word T.zero.set 0), .int .u64 (word T.zero.set 1), .int .u64 (word T.zero.set 2), .int .u64 (word T.zero.set 3), .int .i64 T.zero.lo, .int .i64 T.zero.hi, .slice none 0 0] 29)); clear hb2 hb3))
    go_ret
    exact ⟨rfl, HB.out⟩

end Go.Proofs.YtlnanelejaddiaaDoor

/-
  How arguments that came in are opened for a walk: a set (an array of four words), a byte, a slice of bytes. No statement of its own.
-/
namespace Go.Proofs.YtlnanelejaddiaaDoor
open Go Go.ChangeShapes Go.WideShapes Go.ChangeAt Go.RowKit

theorem Tryd.ownKnobNone : ownKnob Tryd.prog.godebug = none := by kernel_rfl
theorem Tryd.laidOutOk : laidOutB Tryd.prog = true := by kernel_rfl
theorem Tryd.cellsSet : Tryd.prog.cellsOf 26 = 4 := by kernel_rfl
theorem Tryd.cellsWord : Tryd.prog.cellsOf 24 = 1 := by kernel_rfl

section
variable {H : Type} {enc : TypeId × Value → H} {W : World} {base : Nat} {spare : Nat → Bool} {held : Bool} {v : Value} {d : DataW H} {ps : List MemPlace}
theorem open_set (hv : Value.okWide Tryd.prog W .any base 26 v) (h : DataW.Trod enc Tryd.prog W 0 spare held 26 v d ps) :
    ∃ p : Nat → Bool, v = .agg #[.int .u64 (word p 0), .int .u64 (word p 1), .int .u64 (word p 2), .int .u64 (word p 3)] := by
  obtain ⟨cs, rfl, hsz, _⟩ : ∃ cs, v = .agg cs ∧ cs.size = Tryd.prog.cellsOf 26 ∧ Row.okWide Tryd.prog W .any base 26 cs := by
    simpa [Value.okWide, Tryd.underlying26] using hv
  rw [Tryd.cellsSet] at hsz
  obtain ⟨c0, c1, c2, c3, rfl⟩ := Go.Joins.array4 hsz
  obtain ⟨fuel, hf⟩ := h
  obtain ⟨y0, y1, y2, y3, m, hx, hy0, hy1, hy2, hy3⟩ := trod_array4 Tryd.underlying26 Tryd.cellsWord hf
  obtain ⟨x0, e0, _, w0⟩ := DataW.trod_int Tryd.underlying24 hy0
  obtain ⟨x1, e1, _, w1⟩ := DataW.trod_int Tryd.underlying24 hy1
  obtain ⟨x2, e2, _, w2⟩ := DataW.trod_int Tryd.underlying24 hy2
  obtain ⟨x3, e3, _, w3⟩ := DataW.trod_int Tryd.underlying24 hy3
  simp at e0 e1 e2 e3
  subst e0 e1 e2 e3
  obtain ⟨p, rfl, rfl, rfl, rfl⟩ := words_of x0 x1 x2 x3 (bounds_u64 w0) (bounds_u64 w1) (bounds_u64 w2) (bounds_u64 w3)
  exact ⟨p, rfl⟩
theorem open_byte (hv : Value.okWide Tryd.prog W .any base 5 v) (h : DataW.Trod enc Tryd.prog W 0 spare held 5 v d ps) :
    ∃ n : Int, v = .int .u8 n ∧ 0 ≤ n ∧ n ≤ 255 := by
  obtain ⟨x, rfl, _, _, wx⟩ := open_int Tryd.underlying5 hv h
  exact ⟨x, rfl, bounds_u8 wx⟩
/-- A slice of bytes that came in: its elements xs. -/
theorem open_bytes (hv : Value.okWide Tryd.prog W .any base 22 v) (h : DataW.Trod enc Tryd.prog W 0 (fun _ => true) held 22 v d ps) :
    ∃ A n cap xs, v = .slice A n cap ∧ n = xs.length ∧ RdB W W.heap.size A xs ∧ (∀ k, k < xs.length → 0 ≤ xs.getD k 0 ∧ xs.getD k 0 ≤ 255) ∧ n ≤ cap ∧ cap ≤ maxLen := by
  obtain ⟨A, n, cap, rfl⟩ := okWide_slice Tryd.underlying22 hv
  obtain ⟨fuel, hf⟩ := h
  rcases open_ints Tryd.underlying22 Tryd.underlying5 (by kernel_rfl) hf with ⟨hcs, _⟩ | ⟨x, l, c, zs, hcs, _, hl, hm, hz, _, hcell, hwz⟩
  · simp [Value.cells] at hcs
    obtain ⟨rfl, rfl, rfl⟩ := hcs
    exact ⟨none, 0, 0, [], rfl, rfl, fun k hk => by simp at hk, fun k hk => by simp at hk, Nat.le_refl _, Nat.zero_le _⟩
  · simp [Value.cells] at hcs
    obtain ⟨rfl, rfl, rfl⟩ := hcs
    simp at hz
    refine ⟨_, n, cap, zs.take n, rfl, by simp; omega, ?_, ?_, hl, hm⟩
    · intro k hk
      simp at hk
      obtain ⟨b, off, rfl, hc⟩ := ints_at hcell (by omega)
      have hck := hc k (by omega)
      refine ⟨b, off, rfl, World.block_lt_of_cell? W ⟨b, off + k, none⟩ hck, ?_⟩
      rw [hck, List.getD_eq_getElem?_getD, List.getD_eq_getElem?_getD, List.getElem?_take_of_lt (by omega)]
    · intro k hk
      have hk' := hk
      simp at hk'
      have hb := range_u8 hwz k
      rw [List.getD_eq_getElem?_getD, List.getElem?_take_of_lt (by omega)]
      exact hb
end

end Go.Proofs.YtlnanelejaddiaaDoor
