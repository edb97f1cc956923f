/-
  The law LangParts of layer 3 as a walk: where the second word is one, and the first is none. Contracts for other texts; no statement of its own.
-/
import Derived.Test.YtlnanelejaddiaaDoorMbLaw3c
set_option linter.unusedVariables false
set_option linter.unusedSimpArgs false
namespace Go.Proofs.YtlnanelejaddiaaDoor
open Go Go.RowKit
attribute [local go_sem ↓] Go.wp_at_zero Go.wp_at_succ

set_option maxRecDepth 20000 in
set_option maxHeartbeats 8000000 in
theorem langparts_01 {w : World} {s s' : ByteArray} {c c' : Nat} {xs ys : List Int} {A A' : Option Addr} {t u : T} (hs : s.size ≤ 9223372036854775807) (hs' : s'.size ≤ 9223372036854775807) (htab : Tab w)
    (hrd : RdB w w.heap.size A xs) (hby : ∀ k, k < xs.length → 0 ≤ xs.getD k 0 ∧ xs.getD k 0 ≤ 255) (hrd' : RdB w w.heap.size A' ys) (hby' : ∀ k, k < ys.length → 0 ≤ ys.getD k 0 ∧ ys.getD k 0 ≤ 255)
    (hp1 : parse s = .ok t) (hp2 : plN t ≤ 60) (hq1 : parse s' = .ok u) (hq2 : plN u ≤ 60) (hx : xs.length ≤ 40) (hy : ys.length ≤ 40) (h1 : ¬ E xs t 0 xs.length) (h2 : E ys u 0 ys.length) :
    Calls Tryd.prog 4 #[.string s, .string s', .slice A xs.length c, .slice A' ys.length c'] w fun e w' => e = .returned (.bool true) ∧ Below w.heap.size w w' := by
  have HU := Lib.hid (up3_p w htab)
  have hpat := fun W => pattern_ok (w := W) hs hp1 hp2
  have HPAT := Lib.hid hpat
  have hpat' := fun W => pattern_ok (w := W) hs' hq1 hq2
  have HPAT' := Lib.hid hpat'
  have hwf := wf_parse hp1
  have hwf' := wf_parse hq1
  have hhas : ∀ (W : World) (t0 : T) (k : Value) (ok : Nat → Prop) (B : Option Addr) (zs : List Int) (cz : Nat), WF t0 → Tree W ok t0 k → Below w.heap.size w W → RdB W W.heap.size B zs → (∀ k, k < zs.length → 0 ≤ zs.getD k 0 ∧ zs.getD k 0 ≤ 255) → zs.length ≤ 100 → E zs t0 0 zs.length → Calls Tryd.prog 8 #[nodeP t0 k, .slice B zs.length cz] W fun e w' => e = .returned (.bool true) ∧ Below W.heap.size W w' := fun W t0 k ok B zs cz hw ht hb hr hbz hl hE => (langhas_p hw ht hr hbz (by omega) (htab.below hb htab.1)).mono fun e w' ⟨b, h1, h2, h3⟩ => ⟨by rw [h1, h2.2 hE], h3⟩
  have hhasG : ∀ (W : World) (k : Value) (ok : Nat → Prop) (cz : Nat), Tree W ok t k → Below w.heap.size w W → Calls Tryd.prog 8 #[nodeP t k, .slice A xs.length cz] W fun e w' => e = .returned (.bool false) ∧ Below W.heap.size W w' := fun W k ok cz ht hb => (langhas_p hwf ht ((hrd.below hb).more hb.size) hby (by omega) (htab.below hb htab.1)).mono fun e w' ⟨b, h3, h4, h5⟩ => ⟨by
    have : b = false := by
      cases b with
      | false => rfl
      | true => exact absurd (h4.1 rfl) h1
    rw [h3, this], h5⟩
  have hle : ∀ (W : World) (k : Value) (ok : Nat → Prop), Tree W ok t k → Calls Tryd.prog 10 #[nodeP t k] W (RetInt W (lenN false t)) := fun W k ok ht => least_p W hwf ht
  have hmo : ∀ (W : World) (k : Value) (ok : Nat → Prop), Tree W ok t k → Calls Tryd.prog 12 #[nodeP t k] W (RetInt W (lenN true t)) := fun W k ok ht => most_p W hwf ht
  have hla : ∀ (W : World) (k : Value) (ok : Nat → Prop), Tree W ok t k → Calls Tryd.prog 13 #[nodeP t k] W (RetSetOf W (anyP t)) := fun W k ok ht => langany_p W hwf ht
  unfold nodeP at hhas hhasG hle hmo hla
  unfold RetInt at hle hmo
  unfold RetSetOf at hla
  have HHAS := Lib.hid hhas
  have HHASG := Lib.hid hhasG
  have HLE := Lib.hid hle
  have HMO := Lib.hid hmo
  have HLA := Lib.hid hla
  have HRD := Lib.hid hrd
  have HBY := Lib.hid hby
  have HRD' := Lib.hid hrd'
  have HBY' := Lib.hid hby'
  have HWF := Lib.hid hwf
  have HWF' := Lib.hid hwf'
  have HE1 := Lib.hid h1
  have HE2 := Lib.hid h2
  have hi40 : ¬ ((40 : Int) < (xs.length : Int)) := by omega
  have hi41 : ¬ ((40 : Int) < (ys.length : Int)) := by omega
  clear hpat hpat' hp1 hp2 hq1 hq2 hhas hhasG hle hmo hla hrd hby hrd' hby' hwf hwf' h1 h2 htab
  go_enter Tryd.func4, Tryd.ntmps4
  go_wp2_with (first
    | (go_at_call 6; (with_reducible refine HU.out.mono ?_); rintro e w1 ⟨rfl, hb1⟩; have HB := Lib.hid hb1; clear hb1)
    | (go_at_call 7; (with_reducible refine (HPAT.out _).mono ?_); rintro e w2 ⟨Ak, n, c2, rfl, ht, hb2⟩; have hb3 := gro HB.out hb2; have HB := Lib.hid (hb3.alloc hb3.size (.cells #[.int .i64 t.op, .int .u64 (word t.set 0), .int .u64 (word t.set 1), .int .u64 (word t.set 2), .int .u64 (word t.set 3), .int .i64 t.lo, .int .i64 t.hi, .slice Ak n c2] 29)); have HTA := Lib.hid (ht.alloc (.cells #[.int .i64 t.op, .int .u64 (word t.set 0), .int .u64 (word t.set 1), .int .u64 (word t.set 2), .int .u64 (word t.set 3), .int .i64 t.lo, .int .i64 t.hi, .slice Ak n c2] 29)); have BXA := Lib.hid (Box8.new w2 t (.slice Ak n c2)); clear ht hb2 hb3; unfold nodeV)
    | (go_at_call 7; (with_reducible refine (HPAT'.out _).mono ?_); rintro e w3 ⟨Ak3, n3, c3, rfl, ht, hb2⟩; have hb3 := gro HB.out hb2; have HB := Lib.hid (hb3.alloc hb3.size (.cells #[.int .i64 u.op, .int .u64 (word u.set 0), .int .u64 (word u.set 1), .int .u64 (word u.set 2), .int .u64 (word u.set 3), .int .i64 u.lo, .int .i64 u.hi, .slice Ak3 n3 c3] 29)); have HTA := Lib.hid ((HTA.out.stays hb2).alloc (.cells #[.int .i64 u.op, .int .u64 (word u.set 0), .int .u64 (word u.set 1), .int .u64 (word u.set 2), .int .u64 (word u.set 3), .int .i64 u.lo, .int .i64 u.hi, .slice Ak3 n3 c3] 29)); have BXA := Lib.hid ((BXA.out.stays hb2).alloc (.cells #[.int .i64 u.op, .int .u64 (word u.set 0), .int .u64 (word u.set 1), .int .u64 (word u.set 2), .int .u64 (word u.set 3), .int .i64 u.lo, .int .i64 u.hi, .slice Ak3 n3 c3] 29)); have HTB := Lib.hid (ht.alloc (.cells #[.int .i64 u.op, .int .u64 (word u.set 0), .int .u64 (word u.set 1), .int .u64 (word u.set 2), .int .u64 (word u.set 3), .int .i64 u.lo, .int .i64 u.hi, .slice Ak3 n3 c3] 29)); have BXB := Lib.hid (Box8.new w3 u (.slice Ak3 n3 c3)); obtain ⟨r0, r1, r2, r3, r4, r5, r6, r7⟩ := BXA.out.cell; obtain ⟨s0, s1, s2, s3, s4, s5, s6, s7⟩ := BXB.out.cell; clear ht hb2 hb3; unfold nodeV)
    | (go_at_call 8; (with_reducible refine (HHASG.out _ _ _ _ HTA.out HB.out).mono ?_); rintro e w4 ⟨rfl, hbx⟩; have HB := Lib.hid (gro HB.out hbx); have HTA := Lib.hid (HTA.out.stays hbx); have BXA := Lib.hid (BXA.out.stays hbx); have HTB := Lib.hid (HTB.out.stays hbx); have BXB := Lib.hid (BXB.out.stays hbx); clear r0 r1 r2 r3 r4 r5 r6 r7 s0 s1 s2 s3 s4 s5 s6 s7; obtain ⟨r0, r1, r2, r3, r4, r5, r6, r7⟩ := BXA.out.cell; obtain ⟨s0, s1, s2, s3, s4, s5, s6, s7⟩ := BXB.out.cell; clear hbx)
    | (go_at_call 8; (with_reducible refine (HHAS.out _ u _ _ _ ys _ HWF'.out HTB.out HB.out ((HRD'.out.below HB.out).more HB.out.size) HBY'.out (by omega) HE2.out).mono ?_); rintro e w5 ⟨rfl, hbx⟩; have HB := Lib.hid (gro HB.out hbx); have HTA := Lib.hid (HTA.out.stays hbx); have BXA := Lib.hid (BXA.out.stays hbx); have HTB := Lib.hid (HTB.out.stays hbx); have BXB := Lib.hid (BXB.out.stays hbx); clear r0 r1 r2 r3 r4 r5 r6 r7 s0 s1 s2 s3 s4 s5 s6 s7; obtain ⟨r0, r1, r2, r3, r4, r5, r6, r7⟩ := BXA.out.cell; obtain ⟨s0, s1, s2, s3, s4, s5, s6, s7⟩ := BXB.out.cell; clear hbx)
    | (go_at_call 10; (with_reducible refine (HLE.out _ _ _ HTA.out).mono ?_); rintro e w6 ⟨rfl, hbx⟩; have HB := Lib.hid (gro HB.out hbx); have HTA := Lib.hid (HTA.out.stays hbx); have BXA := Lib.hid (BXA.out.stays hbx); have HTB := Lib.hid (HTB.out.stays hbx); have BXB := Lib.hid (BXB.out.stays hbx); clear r0 r1 r2 r3 r4 r5 r6 r7 s0 s1 s2 s3 s4 s5 s6 s7; obtain ⟨r0, r1, r2, r3, r4, r5, r6, r7⟩ := BXA.out.cell; obtain ⟨s0, s1, s2, s3, s4, s5, s6, s7⟩ := BXB.out.cell; clear hbx)
    | (go_at_call 12; (with_reducible refine (HMO.out _ _ _ HTA.out).mono ?_); rintro e w7 ⟨rfl, hbx⟩; have HB := Lib.hid (gro HB.out hbx); have HTA := Lib.hid (HTA.out.stays hbx); have BXA := Lib.hid (BXA.out.stays hbx); have HTB := Lib.hid (HTB.out.stays hbx); have BXB := Lib.hid (BXB.out.stays hbx); clear r0 r1 r2 r3 r4 r5 r6 r7 s0 s1 s2 s3 s4 s5 s6 s7; obtain ⟨r0, r1, r2, r3, r4, r5, r6, r7⟩ := BXA.out.cell; obtain ⟨s0, s1, s2, s3, s4, s5, s6, s7⟩ := BXB.out.cell; clear hbx))
  have HT1 := Lib.hid (HTA.out.mono (ok' := fun _ => True) fun b _ _ _ => ⟨rfl, trivial⟩)
  have HT2 := Lib.hid (HTB.out.mono (ok' := fun _ => True) fun b _ _ _ => ⟨rfl, trivial⟩)
  have hmx : Tryd.prog.follows .mixedOrders = true := by kernel_rfl
  clear r0 r1 r2 r3 r4 r5 r6 r7 s0 s1 s2 s3 s4 s5 s6 s7 HTA HTB hi40 hi41
  go_loopg [16] xs.length (fun m' i wr => ∃ j : Nat, i = .int .i64 (j : Int) ∧ j ≤ xs.length ∧ m' = xs.length - j ∧ Below w.heap.size w wr ∧ Tree wr (fun _ => True) t (.slice Ak n c2) ∧ Box8 wr w2.heap.size t (.slice Ak n c2) ∧ Tree wr (fun _ => True) u (.slice Ak3 n3 c3) ∧ Box8 wr w3.heap.size u (.slice Ak3 n3 c3))
  case atStart => exact ⟨0, rfl, Nat.zero_le _, rfl, HB.out, HT1.out, BXA.out, HT2.out, BXB.out⟩
  case round =>
    obtain ⟨j, rfl, hj, hmj, hb, ht1, bx1, ht2, bx2⟩ := hrel
    have HMJ := Lib.hid hmj
    clear HB HT1 BXA HT2 BXB hmj
    by_cases hlt : j < xs.length
    · have hji : (j : Int) < (xs.length : Int) := by omega
      have HB := Lib.hid hb
      have HT1 := Lib.hid ht1
      have BXA := Lib.hid bx1
      have HT2 := Lib.hid ht2
      have BXB := Lib.hid bx2
      clear hb ht1 bx1 ht2 bx2
      go_wp2
      refine wp_region_still_lit hmx (by kernel_rfl) ?_
      iterate 11
        with_reducible refine wpStill_step (fun K hK => ?_)
        have HK := Lib.hid hK
        clear hK
        go_simp
        with_reducible refine HK.out _ ?_
        clear HK K
      with_reducible refine wpStill_nil ?_
      go_wp2
      have hd := (Below.refl wr.heap.size wr).drew
      go_roundg (xs.length - (j + 1))
      case measure => have := HMJ.out; omega
      case rel => exact ⟨j + 1, by go_num, by omega, rfl, gro HB.out hd, HT1.out.stays hd, BXA.out.stays hd, HT2.out.stays hd, BXB.out.stays hd⟩
    · have hji : ¬ ((j : Int) < (xs.length : Int)) := by omega
      have HB := Lib.hid hb
      have HT1 := Lib.hid ht1
      have BXA := Lib.hid bx1
      have HT2 := Lib.hid ht2
      have BXB := Lib.hid bx2
      obtain ⟨r0, r1, r2, r3, r4, r5, r6, r7⟩ := BXA.out.cell
      obtain ⟨s0, s1, s2, s3, s4, s5, s6, s7⟩ := BXB.out.cell
      clear hb ht1 bx1 ht2 bx2 hlt
      obtain ⟨i0, hi, hz0, hz1, hz2⟩ := info_parts Tryd.infoByte
      have hnA : A = none → xs.length = 0 := fun e => by
        rcases Nat.eq_zero_or_pos xs.length with h | h
        · exact h
        · obtain ⟨b, off, e2, _⟩ := HRD.out 0 h
          rw [e] at e2
          cases e2
      have hnA' : A' = none → ys.length = 0 := fun e => by
        rcases Nat.eq_zero_or_pos ys.length with h | h
        · exact h
        · obtain ⟨b, off, e2, _⟩ := HRD'.out 0 h
          rw [e] at e2
          cases e2
      have HNA := Lib.hid hnA
      have HNA' := Lib.hid hnA'
      have hown1 : (wr.alloc (.cells #[] 5)).ownsRow wr.heap.size 5 1 (.slice (some ⟨wr.heap.size, 0, none⟩) 0 0) 0 [] := World.ownsRow_lit wr #[] 0 (Nat.le_refl _) (by decide) rfl
      have HOWN1 := Lib.hid hown1
      have HI := Lib.hid hi
      clear hnA hnA' hown1 hi
      go_upto_region 16 with (first
        | (at_builtin; refine wpList_app _ rfl _ _ 22 rfl wr.heap.size 5 i0 (.int .u8 0) 1 1 Tryd.underlying22 HI.out hz0 hz1 hz2 rfl (by decide) _ 0 [] rfl HOWN1.out A xs.length c (xs.map (Value.int .u8)) rfl (by simp) HNA.out (news_rd (HRD.out.below (HB.out.alloc HB.out.size _))) (bytes_oneCell xs) (by unfold maxLen; omega) (by omega) (by simp) ?_; intro v1 wA hwA hgA; have hbA : Below wr.heap.size wr wA := (((Below.refl _ wr).alloc (Nat.le_refl _) (.cells #[] 5))).grown hgA (by simp) (fun k e => by cases e; exact Nat.le_refl _); have HWA := Lib.hid hwA; have HBA := Lib.hid hbA; clear hwA hgA hbA)
        | (at_builtin; refine wpList_app _ rfl _ _ 22 rfl wr.heap.size 5 i0 (.int .u8 0) 1 1 Tryd.underlying22 HI.out hz0 hz1 hz2 rfl (by decide) _ (0 + xs.length) _ rfl HWA.out A' ys.length c' (ys.map (Value.int .u8)) rfl (by simp) HNA'.out (news_rd ((HRD'.out.below HB.out).below (HBA.out.mono HB.out.size))) (bytes_oneCell ys) (by unfold maxLen; omega) (by omega) HBA.out.size ?_; intro v2 wB hwB hgB; have hbB : Below wr.heap.size wr wB := HBA.out.grown hgB HBA.out.size (fun k e => (World.ownsRow.lt HWA.out k e).1); have HWB := Lib.hid hwB; have HBB := Lib.hid hbB; clear hwB hgB hbB; have BXA := Lib.hid (BXA.out.stays HBB.out); have BXB := Lib.hid (BXB.out.stays HBB.out); clear r0 r1 r2 r3 r4 r5 r6 r7 s0 s1 s2 s3 s4 s5 s6 s7; obtain ⟨r0, r1, r2, r3, r4, r5, r6, r7⟩ := BXA.out.cell; obtain ⟨s0, s1, s2, s3, s4, s5, s6, s7⟩ := BXB.out.cell; have hl2 := BXA.out.lt; have hl3 := BXB.out.lt; have n20 : w2.heap.size ≠ wB.heap.size := (by omega); have n21 : w2.heap.size ≠ wB.heap.size + 1 := (by omega); have n22 : w2.heap.size ≠ wB.heap.size + 1 + 1 := (by omega); have n23 : w2.heap.size ≠ wB.heap.size + 1 + 1 + 1 := (by omega); have n24 : w2.heap.size ≠ wB.heap.size + 1 + 1 + 1 + 1 := (by omega); have n25 : w2.heap.size ≠ wB.heap.size + 1 + 1 + 1 + 1 + 1 := (by omega); have n26 : w2.heap.size ≠ wB.heap.size + 1 + 1 + 1 + 1 + 1 + 1 := (by omega); have n30 : w3.heap.size ≠ wB.heap.size := (by omega); have n31 : w3.heap.size ≠ wB.heap.size + 1 := (by omega); have n32 : w3.heap.size ≠ wB.heap.size + 1 + 1 := (by omega); have n33 : w3.heap.size ≠ wB.heap.size + 1 + 1 + 1 := (by omega); have n34 : w3.heap.size ≠ wB.heap.size + 1 + 1 + 1 + 1 := (by omega); have n35 : w3.heap.size ≠ wB.heap.size + 1 + 1 + 1 + 1 + 1 := (by omega); have n36 : w3.heap.size ≠ wB.heap.size + 1 + 1 + 1 + 1 + 1 + 1 := (by omega); have hwB2 : wB.ownsRow wr.heap.size 5 1 v2 (xs ++ ys).length ((xs ++ ys).map (Value.int .u8)) := (by have h := HWB.out; rw [List.nil_append, ← List.map_append] at h; rwa [show 0 + xs.length + ys.length = (xs ++ ys).length by simp] at h); obtain ⟨Ab, cb, rfl, _, hrdb, hnilb⟩ := rd_own hwB2; have HRB := Lib.hid hrdb; clear hwB2 HWB hrdb hnilb))
      have HB := Lib.hid (HB.out.trans (HBB.out.mono HB.out.size))
      have HT1 := Lib.hid (HT1.out.stays HBB.out)
      have HT2 := Lib.hid (HT2.out.stays HBB.out)
      clear hl2 hl3 r0 r1 r2 r3 r4 r5 r6 r7 s0 s1 s2 s3 s4 s5 s6 s7 n20 n21 n22 n23 n24 n25 n26 n30 n31 n32 n33 n34 n35 n36
      obtain ⟨r0, r1, r2, r3, r4, r5, r6, r7⟩ := BXA.out.cell
      obtain ⟨s0, s1, s2, s3, s4, s5, s6, s7⟩ := BXB.out.cell
      have hl2 := BXA.out.lt
      have hl3 := BXB.out.lt
      go_upto_region 17 with fail
      have htC := tree_two 2 0 0 noneP HT1.out HT2.out
      have hbC := box_made (wB.alloc (.cells #[.int .i64 t.op, .int .u64 (word t.set 0), .int .u64 (word t.set 1), .int .u64 (word t.set 2), .int .u64 (word t.set 3), .int .i64 t.lo, .int .i64 t.hi, .slice Ak n c2, .int .i64 u.op, .int .u64 (word u.set 0), .int .u64 (word u.set 1), .int .u64 (word u.set 2), .int .u64 (word u.set 3), .int .i64 u.lo, .int .i64 u.hi, .slice Ak3 n3 c3] 29)) 2 0 0 [t, u] (.slice (some ⟨wB.heap.size, 0, none⟩) 2 2)
      have hzC : (wB.alloc (.cells #[.int .i64 t.op, .int .u64 (word t.set 0), .int .u64 (word t.set 1), .int .u64 (word t.set 2), .int .u64 (word t.set 3), .int .i64 t.lo, .int .i64 t.hi, .slice Ak n c2, .int .i64 u.op, .int .u64 (word u.set 0), .int .u64 (word u.set 1), .int .u64 (word u.set 2), .int .u64 (word u.set 3), .int .i64 u.lo, .int .i64 u.hi, .slice Ak3 n3 c3] 29)).heap.size = wB.heap.size + 1 := by simp
      have hdC : Below wB.heap.size wB ((wB.alloc (.cells #[.int .i64 t.op, .int .u64 (word t.set 0), .int .u64 (word t.set 1), .int .u64 (word t.set 2), .int .u64 (word t.set 3), .int .i64 t.lo, .int .i64 t.hi, .slice Ak n c2, .int .i64 u.op, .int .u64 (word u.set 0), .int .u64 (word u.set 1), .int .u64 (word u.set 2), .int .u64 (word u.set 3), .int .i64 u.lo, .int .i64 u.hi, .slice Ak3 n3 c3] 29)).alloc (.cells #[.int .i64 2, .int .u64 0, .int .u64 0, .int .u64 0, .int .u64 0, .int .i64 0, .int .i64 0, .slice (some ⟨wB.heap.size, 0, none⟩) 2 2] 29)) := ((Below.refl _ _).alloc (Nat.le_refl _) _).alloc (by simp) _
      have huC := htC.alloc (.cells #[.int .i64 2, .int .u64 0, .int .u64 0, .int .u64 0, .int .u64 0, .int .i64 0, .int .i64 0, .slice (some ⟨wB.heap.size, 0, none⟩) 2 2] 29)
      rw [hzC] at hbC
      have hsC := Lib.hid (show ((wB.alloc (.cells #[.int .i64 t.op, .int .u64 (word t.set 0), .int .u64 (word t.set 1), .int .u64 (word t.set 2), .int .u64 (word t.set 3), .int .i64 t.lo, .int .i64 t.hi, .slice Ak n c2, .int .i64 u.op, .int .u64 (word u.set 0), .int .u64 (word u.set 1), .int .u64 (word u.set 2), .int .u64 (word u.set 3), .int .i64 u.lo, .int .i64 u.hi, .slice Ak3 n3 c3] 29)).alloc (.cells #[.int .i64 2, .int .u64 0, .int .u64 0, .int .u64 0, .int .u64 0, .int .i64 0, .int .i64 0, .slice (some ⟨wB.heap.size, 0, none⟩) 2 2] 29)).heap.size = wB.heap.size + 2 by simp)
      clear htC hzC r0 r1 r2 r3 r4 r5 r6 r7 s0 s1 s2 s3 s4 s5 s6 s7 hl2 hl3
      generalize ((wB.alloc (.cells #[.int .i64 t.op, .int .u64 (word t.set 0), .int .u64 (word t.set 1), .int .u64 (word t.set 2), .int .u64 (word t.set 3), .int .i64 t.lo, .int .i64 t.hi, .slice Ak n c2, .int .i64 u.op, .int .u64 (word u.set 0), .int .u64 (word u.set 1), .int .u64 (word u.set 2), .int .u64 (word u.set 3), .int .i64 u.lo, .int .i64 u.hi, .slice Ak3 n3 c3] 29)).alloc (.cells #[.int .i64 2, .int .u64 0, .int .u64 0, .int .u64 0, .int .u64 0, .int .i64 0, .int .i64 0, .slice (some ⟨wB.heap.size, 0, none⟩) 2 2] 29)) = w17 at *
      have HB := Lib.hid (HB.out.trans (hdC.mono HB.out.size))
      have HT1 := Lib.hid (HT1.out.stays hdC)
      have HT2 := Lib.hid (HT2.out.stays hdC)
      have BXA := Lib.hid (BXA.out.stays hdC)
      have BXB := Lib.hid (BXB.out.stays hdC)
      have HRB := Lib.hid ((HRB.out.below hdC).more hdC.size)
      have HTNC := Lib.hid huC
      have HBNC := Lib.hid hbC
      obtain ⟨r0, r1, r2, r3, r4, r5, r6, r7⟩ := BXA.out.cell
      obtain ⟨s0, s1, s2, s3, s4, s5, s6, s7⟩ := BXB.out.cell
      have hl2 := BXA.out.lt
      have hl3 := BXB.out.lt
      go_upto_region 18 with fail
      have htD := tree_two 3 0 0 noneP HT1.out HT2.out
      have hbD := box_made (w17.alloc (.cells #[.int .i64 t.op, .int .u64 (word t.set 0), .int .u64 (word t.set 1), .int .u64 (word t.set 2), .int .u64 (word t.set 3), .int .i64 t.lo, .int .i64 t.hi, .slice Ak n c2, .int .i64 u.op, .int .u64 (word u.set 0), .int .u64 (word u.set 1), .int .u64 (word u.set 2), .int .u64 (word u.set 3), .int .i64 u.lo, .int .i64 u.hi, .slice Ak3 n3 c3] 29)) 3 0 0 [t, u] (.slice (some ⟨w17.heap.size, 0, none⟩) 2 2)
      have hzD : (w17.alloc (.cells #[.int .i64 t.op, .int .u64 (word t.set 0), .int .u64 (word t.set 1), .int .u64 (word t.set 2), .int .u64 (word t.set 3), .int .i64 t.lo, .int .i64 t.hi, .slice Ak n c2, .int .i64 u.op, .int .u64 (word u.set 0), .int .u64 (word u.set 1), .int .u64 (word u.set 2), .int .u64 (word u.set 3), .int .i64 u.lo, .int .i64 u.hi, .slice Ak3 n3 c3] 29)).heap.size = w17.heap.size + 1 := by simp
      have hdD : Below w17.heap.size w17 ((w17.alloc (.cells #[.int .i64 t.op, .int .u64 (word t.set 0), .int .u64 (word t.set 1), .int .u64 (word t.set 2), .int .u64 (word t.set 3), .int .i64 t.lo, .int .i64 t.hi, .slice Ak n c2, .int .i64 u.op, .int .u64 (word u.set 0), .int .u64 (word u.set 1), .int .u64 (word u.set 2), .int .u64 (word u.set 3), .int .i64 u.lo, .int .i64 u.hi, .slice Ak3 n3 c3] 29)).alloc (.cells #[.int .i64 3, .int .u64 0, .int .u64 0, .int .u64 0, .int .u64 0, .int .i64 0, .int .i64 0, .slice (some ⟨w17.heap.size, 0, none⟩) 2 2] 29)) := ((Below.refl _ _).alloc (Nat.le_refl _) _).alloc (by simp) _
      have huD := htD.alloc (.cells #[.int .i64 3, .int .u64 0, .int .u64 0, .int .u64 0, .int .u64 0, .int .i64 0, .int .i64 0, .slice (some ⟨w17.heap.size, 0, none⟩) 2 2] 29)
      rw [hzD] at hbD
      have hsD := Lib.hid (show ((w17.alloc (.cells #[.int .i64 t.op, .int .u64 (word t.set 0), .int .u64 (word t.set 1), .int .u64 (word t.set 2), .int .u64 (word t.set 3), .int .i64 t.lo, .int .i64 t.hi, .slice Ak n c2, .int .i64 u.op, .int .u64 (word u.set 0), .int .u64 (word u.set 1), .int .u64 (word u.set 2), .int .u64 (word u.set 3), .int .i64 u.lo, .int .i64 u.hi, .slice Ak3 n3 c3] 29)).alloc (.cells #[.int .i64 3, .int .u64 0, .int .u64 0, .int .u64 0, .int .u64 0, .int .i64 0, .int .i64 0, .slice (some ⟨w17.heap.size, 0, none⟩) 2 2] 29)).heap.size = w17.heap.size + 2 by simp)
      clear htD hzD r0 r1 r2 r3 r4 r5 r6 r7 s0 s1 s2 s3 s4 s5 s6 s7 hl2 hl3
      generalize ((w17.alloc (.cells #[.int .i64 t.op, .int .u64 (word t.set 0), .int .u64 (word t.set 1), .int .u64 (word t.set 2), .int .u64 (word t.set 3), .int .i64 t.lo, .int .i64 t.hi, .slice Ak n c2, .int .i64 u.op, .int .u64 (word u.set 0), .int .u64 (word u.set 1), .int .u64 (word u.set 2), .int .u64 (word u.set 3), .int .i64 u.lo, .int .i64 u.hi, .slice Ak3 n3 c3] 29)).alloc (.cells #[.int .i64 3, .int .u64 0, .int .u64 0, .int .u64 0, .int .u64 0, .int .i64 0, .int .i64 0, .slice (some ⟨w17.heap.size, 0, none⟩) 2 2] 29)) = w18 at *
      have HB := Lib.hid (HB.out.trans (hdD.mono HB.out.size))
      have HT1 := Lib.hid (HT1.out.stays hdD)
      have HT2 := Lib.hid (HT2.out.stays hdD)
      have BXA := Lib.hid (BXA.out.stays hdD)
      have BXB := Lib.hid (BXB.out.stays hdD)
      have HRB := Lib.hid ((HRB.out.below hdD).more hdD.size)
      have HTNC := Lib.hid (HTNC.out.stays hdD)
      have HBNC := Lib.hid (HBNC.out.stays hdD)
      have HTND := Lib.hid huD
      have HBND := Lib.hid hbD
      obtain ⟨r0, r1, r2, r3, r4, r5, r6, r7⟩ := BXA.out.cell
      obtain ⟨s0, s1, s2, s3, s4, s5, s6, s7⟩ := BXB.out.cell
      have hl2 := BXA.out.lt
      have hl3 := BXB.out.lt
      go_upto_region 19 with fail
      have htF := tree_one 4 1 2 noneP HT1.out
      have hbF := box_made (w18.alloc (.cells #[.int .i64 t.op, .int .u64 (word t.set 0), .int .u64 (word t.set 1), .int .u64 (word t.set 2), .int .u64 (word t.set 3), .int .i64 t.lo, .int .i64 t.hi, .slice Ak n c2] 29)) 4 1 2 [t] (.slice (some ⟨w18.heap.size, 0, none⟩) 1 1)
      have hzF : (w18.alloc (.cells #[.int .i64 t.op, .int .u64 (word t.set 0), .int .u64 (word t.set 1), .int .u64 (word t.set 2), .int .u64 (word t.set 3), .int .i64 t.lo, .int .i64 t.hi, .slice Ak n c2] 29)).heap.size = w18.heap.size + 1 := by simp
      have hdF : Below w18.heap.size w18 ((w18.alloc (.cells #[.int .i64 t.op, .int .u64 (word t.set 0), .int .u64 (word t.set 1), .int .u64 (word t.set 2), .int .u64 (word t.set 3), .int .i64 t.lo, .int .i64 t.hi, .slice Ak n c2] 29)).alloc (.cells #[.int .i64 4, .int .u64 0, .int .u64 0, .int .u64 0, .int .u64 0, .int .i64 1, .int .i64 2, .slice (some ⟨w18.heap.size, 0, none⟩) 1 1] 29)) := ((Below.refl _ _).alloc (Nat.le_refl _) _).alloc (by simp) _
      have huF := htF.alloc (.cells #[.int .i64 4, .int .u64 0, .int .u64 0, .int .u64 0, .int .u64 0, .int .i64 1, .int .i64 2, .slice (some ⟨w18.heap.size, 0, none⟩) 1 1] 29)
      rw [hzF] at hbF
      have hsF := Lib.hid (show ((w18.alloc (.cells #[.int .i64 t.op, .int .u64 (word t.set 0), .int .u64 (word t.set 1), .int .u64 (word t.set 2), .int .u64 (word t.set 3), .int .i64 t.lo, .int .i64 t.hi, .slice Ak n c2] 29)).alloc (.cells #[.int .i64 4, .int .u64 0, .int .u64 0, .int .u64 0, .int .u64 0, .int .i64 1, .int .i64 2, .slice (some ⟨w18.heap.size, 0, none⟩) 1 1] 29)).heap.size = w18.heap.size + 2 by simp)
      clear htF hzF r0 r1 r2 r3 r4 r5 r6 r7 s0 s1 s2 s3 s4 s5 s6 s7 hl2 hl3
      generalize ((w18.alloc (.cells #[.int .i64 t.op, .int .u64 (word t.set 0), .int .u64 (word t.set 1), .int .u64 (word t.set 2), .int .u64 (word t.set 3), .int .i64 t.lo, .int .i64 t.hi, .slice Ak n c2] 29)).alloc (.cells #[.int .i64 4, .int .u64 0, .int .u64 0, .int .u64 0, .int .u64 0, .int .i64 1, .int .i64 2, .slice (some ⟨w18.heap.size, 0, none⟩) 1 1] 29)) = w19 at *
      have HB := Lib.hid (HB.out.trans (hdF.mono HB.out.size))
      have HT1 := Lib.hid (HT1.out.stays hdF)
      have HT2 := Lib.hid (HT2.out.stays hdF)
      have BXA := Lib.hid (BXA.out.stays hdF)
      have BXB := Lib.hid (BXB.out.stays hdF)
      have HRB := Lib.hid ((HRB.out.below hdF).more hdF.size)
      have HTNC := Lib.hid (HTNC.out.stays hdF)
      have HBNC := Lib.hid (HBNC.out.stays hdF)
      have HTND := Lib.hid (HTND.out.stays hdF)
      have HBND := Lib.hid (HBND.out.stays hdF)
      have HTNF := Lib.hid huF
      have HBNF := Lib.hid hbF
      have hown9 : (w19.alloc (.cells #[] 5)).ownsRow w19.heap.size 5 1 (.slice (some ⟨w19.heap.size, 0, none⟩) 0 0) 0 [] := World.ownsRow_lit w19 #[] 0 (Nat.le_refl _) (by decide) rfl
      have HOWN9 := Lib.hid hown9
      clear hown9
      go_upto_region 20 with (first
        | (at_builtin; refine wpList_app _ rfl _ _ 22 rfl w19.heap.size 5 i0 (.int .u8 0) 1 1 Tryd.underlying22 HI.out hz0 hz1 hz2 rfl (by decide) _ 0 [] rfl HOWN9.out A xs.length c (xs.map (Value.int .u8)) rfl (by simp) HNA.out (news_rd (HRD.out.below (HB.out.alloc HB.out.size _))) (bytes_oneCell xs) (by unfold maxLen; omega) (by omega) (by simp) ?_; intro v3 wC hwC hgC; have hbC : Below w19.heap.size w19 wC := (((Below.refl _ w19).alloc (Nat.le_refl _) (.cells #[] 5))).grown hgC (by simp) (fun k e => by cases e; exact Nat.le_refl _); have HWC := Lib.hid hwC; have HBC := Lib.hid hbC; clear hwC hgC hbC)
        | (at_builtin; refine wpList_app _ rfl _ _ 22 rfl w19.heap.size 5 i0 (.int .u8 0) 1 1 Tryd.underlying22 HI.out hz0 hz1 hz2 rfl (by decide) _ (0 + xs.length) _ rfl HWC.out A xs.length c (xs.map (Value.int .u8)) rfl (by simp) HNA.out (news_rd ((HRD.out.below HB.out).below (HBC.out.mono HB.out.size))) (bytes_oneCell xs) (by unfold maxLen; omega) (by omega) HBC.out.size ?_; intro v4 wD hwD hgD; have hbD : Below w19.heap.size w19 wD := HBC.out.grown hgD HBC.out.size (fun k e => (World.ownsRow.lt HWC.out k e).1); have HBD := Lib.hid hbD; have hwD2 : wD.ownsRow w19.heap.size 5 1 v4 (xs ++ xs).length ((xs ++ xs).map (Value.int .u8)) := (by have h := hwD; rw [List.nil_append, ← List.map_append] at h; rwa [show 0 + xs.length + xs.length = (xs ++ xs).length by simp] at h); obtain ⟨Ac, cc, rfl, _, hrdc, _⟩ := rd_own hwD2; have HRC := Lib.hid hrdc; clear hwD hgD hbD hwD2 hrdc))
      have HB := Lib.hid (HB.out.trans (HBD.out.mono HB.out.size))
      have HT1 := Lib.hid (HT1.out.stays HBD.out)
      have HT2 := Lib.hid (HT2.out.stays HBD.out)
      have BXA := Lib.hid (BXA.out.stays HBD.out)
      have BXB := Lib.hid (BXB.out.stays HBD.out)
      have HRB := Lib.hid ((HRB.out.below HBD.out).more HBD.out.size)
      have HTNC := Lib.hid (HTNC.out.stays HBD.out)
      have HBNC := Lib.hid (HBNC.out.stays HBD.out)
      have HTND := Lib.hid (HTND.out.stays HBD.out)
      have HBND := Lib.hid (HBND.out.stays HBD.out)
      have HTNF := Lib.hid (HTNF.out.stays HBD.out)
      have HBNF := Lib.hid (HBNF.out.stays HBD.out)
      have hq3 : ∀ (W : World) (k : Value) (ok : Nat → Prop), Tree W ok (.mk 3 noneP 0 0 [t, u]) k → Below w.heap.size w W → RdB W W.heap.size A' ys → Calls Tryd.prog 8 #[.agg #[.int .i64 3, .int .u64 0, .int .u64 0, .int .u64 0, .int .u64 0, .int .i64 0, .int .i64 0, k], .slice A' ys.length c'] W fun e w' => e = .returned (.bool true) ∧ Below W.heap.size W w' := fun W k ok ht hb hr => by
        have h := HHAS.out W (.mk 3 noneP 0 0 [t, u]) k ok A' ys c' (WF.alt [t, u] (by simp) (by simp) (by simp [HWF.out, HWF'.out])) ht hb hr HBY'.out (by first | omega | (rw [List.length_append]; omega)) (E_alt2 HE2.out)
        simp only [T.op, T.set, T.lo, T.hi, word_none] at h
        exact h
      have HQ3 := Lib.hid hq3
      clear hq3
      obtain ⟨a0, a1, a2, a3, a4, a5, a6, a7⟩ := box_lits HBNC.out
      obtain ⟨b0, b1, b2, b3, b4, b5, b6, b7⟩ := box_lits HBND.out
      obtain ⟨d0, d1, d2, d3, d4, d5, d6, d7⟩ := box_lits HBNF.out
      go_upto_region 22 with (first
        | (go_at_call 8; (with_reducible refine (HQ3.out _ _ _ HTND.out HB.out ((HRD'.out.below HB.out).more HB.out.size)).mono ?_); rintro e wz ⟨rfl, hbx⟩; have HB := Lib.hid (gro HB.out hbx); have HT1 := Lib.hid (HT1.out.stays hbx); have HT2 := Lib.hid (HT2.out.stays hbx); have BXA := Lib.hid (BXA.out.stays hbx); have BXB := Lib.hid (BXB.out.stays hbx); have HTNC := Lib.hid (HTNC.out.stays hbx); have HBNC := Lib.hid (HBNC.out.stays hbx); have HTND := Lib.hid (HTND.out.stays hbx); have HBND := Lib.hid (HBND.out.stays hbx); have HTNF := Lib.hid (HTNF.out.stays hbx); have HBNF := Lib.hid (HBNF.out.stays hbx); have HRB := Lib.hid ((HRB.out.below hbx).more hbx.size); have HRC := Lib.hid ((HRC.out.below hbx).more hbx.size); clear a0 a1 a2 a3 a4 a5 a6 a7 b0 b1 b2 b3 b4 b5 b6 b7 d0 d1 d2 d3 d4 d5 d6 d7; obtain ⟨a0, a1, a2, a3, a4, a5, a6, a7⟩ := box_lits HBNC.out; obtain ⟨b0, b1, b2, b3, b4, b5, b6, b7⟩ := box_lits HBND.out; obtain ⟨d0, d1, d2, d3, d4, d5, d6, d7⟩ := box_lits HBNF.out; clear hbx))
      clear a0 a1 a2 a3 a4 a5 a6 a7 b0 b1 b2 b3 b4 b5 b6 b7 d0 d1 d2 d3 d4 d5 d6 d7
      by_cases hy1 : ys.length = 1
      · have hb1 : ((ys.length : Int) != 1) = false := by simp [hy1]
        have hla : ∀ (W : World) (k : Value) (ok : Nat → Prop), Tree W ok u k → Calls Tryd.prog 13 #[nodeP u k] W (RetSetOf W (anyP u)) := fun W k ok ht => langany_p W HWF'.out ht
        unfold nodeP at hla
        unfold RetSetOf setV at hla
        have HLB := Lib.hid hla
        obtain ⟨b, off, hA, hbB, hcb⟩ := (HRD'.out.below HB.out).at (k := 0) (by omega)
        have hcj := hcb 0 (by omega)
        obtain ⟨y0, y1⟩ := HBY'.out 0 (by omega)
        have han := E_any HWF'.out 0 ys.length (Nat.zero_le _) HE2.out 0 (Nat.zero_le _) (by omega)
        have HHK := Lib.hid (fun W => (rhas_p (anyP u) (ys.getD 0 0) W y0 y1).mono (R' := fun e w' => e = .returned (.bool true) ∧ Below W.heap.size W w') fun e w' k => ⟨by rw [k.1, han], k.2⟩)
        generalize hx0 : ys.getD 0 0 = x0 at *
        subst hA
        have hji : (0 : Int) < (ys.length : Int) := by omega
        rw [Nat.add_zero] at hcj
        have hcj2 : wz.drew.cell? ⟨b, off, none⟩ = some (.int .u8 x0) := hcj
        obtain ⟨s0, s1, s2, s3, s4, s5, s6, s7⟩ := BXB.out.cell
        have hd := (Below.refl wz.heap.size wz).drew
        have HB := Lib.hid (gro HB.out hd)
        have HT2 := Lib.hid (HT2.out.stays hd)
        have BXB := Lib.hid (BXB.out.stays hd)
        obtain ⟨s0, s1, s2, s3, s4, s5, s6, s7⟩ := BXB.out.cell
        clear hla hcb han hx0 y0 y1 hcj hy1 hd
        go_region_held (fun w' => w'.cell? ⟨b, off, none⟩ = some (.int .u8 x0) ∧ w'.cell? ⟨w3.heap.size, 0, none⟩ = some (.int .i64 u.op) ∧ w'.cell? ⟨w3.heap.size, 1, none⟩ = some (.int .u64 (word u.set 0)) ∧ w'.cell? ⟨w3.heap.size, 2, none⟩ = some (.int .u64 (word u.set 1)) ∧ w'.cell? ⟨w3.heap.size, 3, none⟩ = some (.int .u64 (word u.set 2)) ∧ w'.cell? ⟨w3.heap.size, 4, none⟩ = some (.int .u64 (word u.set 3)) ∧ w'.cell? ⟨w3.heap.size, 5, none⟩ = some (.int .i64 u.lo) ∧ w'.cell? ⟨w3.heap.size, 6, none⟩ = some (.int .i64 u.hi) ∧ w'.cell? ⟨w3.heap.size, 7, none⟩ = some (.slice Ak3 n3 c3))
          (exact ⟨hcj2, s0, s1, s2, s3, s4, s5, s6, s7⟩) (first
          | (go_at_call 13; (with_reducible refine (HLB.out _ _ _ HT2.out).mono ?_); rintro e wq ⟨rfl, hbx⟩; have hcj2 := cell_stays hcj2 hbx; have HB := Lib.hid (gro HB.out hbx); have HT2 := Lib.hid (HT2.out.stays hbx); have BXB := Lib.hid (BXB.out.stays hbx); clear s0 s1 s2 s3 s4 s5 s6 s7; obtain ⟨s0, s1, s2, s3, s4, s5, s6, s7⟩ := BXB.out.cell; clear hbx)
          | (go_at_call 16; (with_reducible refine (HHK.out _).mono ?_); rintro e wr2 ⟨rfl, hbx⟩; have hcj2 := cell_stays hcj2 hbx; have HB := Lib.hid (gro HB.out hbx); have HT2 := Lib.hid (HT2.out.stays hbx); have BXB := Lib.hid (BXB.out.stays hbx); clear s0 s1 s2 s3 s4 s5 s6 s7; obtain ⟨s0, s1, s2, s3, s4, s5, s6, s7⟩ := BXB.out.cell; clear hbx))
        all_goals
          go_wp2
          go_ret
          exact ⟨rfl, HB.out⟩
      · have hb1 : ((ys.length : Int) != 1) = true := by simp; omega
        clear hy1
        refine wp_region_still_lit hmx (by kernel_rfl) ?_
        iterate 19
          with_reducible refine wpStill_step (fun K hK => ?_)
          have HK := Lib.hid hK
          clear hK
          go_simp
          with_reducible refine HK.out _ ?_
          clear HK K
        with_reducible refine wpStill_nil ?_
        go_wp2
        go_ret
        exact ⟨rfl, HB.out.drew⟩

end Go.Proofs.YtlnanelejaddiaaDoor
