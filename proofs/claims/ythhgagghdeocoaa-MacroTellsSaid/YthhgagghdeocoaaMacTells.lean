/-
  The statement MacroTells of layer 11: the walk. Contracts for other texts; no statement of its own.
-/
import Derived.Test.YthhgagghdeocoaaMacLaw
import Derived.Test.YthhgagghdeocoaaMacRun
import Derived.Test.YthhgagghdeocoaaCtCode
import Derived.Deep.RegionHeld3
import Derived.BigQuiet
import Derived.Deep.LoopGhost
set_option linter.unusedVariables false
set_option linter.unusedSimpArgs false
namespace Go.Proofs.Ythhgagghdeocoaa
open Go Go.RowKit

theorem both_new {w w6 w7 w8 : World} {F G : Nat → Prop} {p q m : Nat} (hs : w.heap.size ≤ w6.heap.size) (m7 : Mach w7 F p m (fun _ => 0) []) (b7 : Below w.heap.size w w7) (n7 : ∀ b, F b → w6.heap.size ≤ b) (d8 : Doc w8 G q m (fun _ => 0) []) (b8 : Below w7.heap.size w7 w8) (n8 : ∀ b, G b → w7.heap.size ≤ b) : Both w w8 F G p q m (fun _ => 0) [] [] := by
  refine ⟨m7.stays b8, d8, fun b e e' => ?_, fun b e => Nat.le_trans hs (n7 b e), fun b e => Nat.le_trans b7.size (n8 b e), gro b7 b8⟩
  have h1 := m7.lt b e
  have h2 := n8 b e'
  omega
set_option maxRecDepth 20000 in
set_option maxHeartbeats 4000000 in
theorem macrotells_p {w : World} {A : Option Addr} {ca : Nat} {l : List Ins} (dst key base n step tmp cells : Int) (hdst : I64 dst) (hkey : I64 key) (hbase : I64 base) (hn : I64 n) (hstep : I64 step) (htmp : I64 tmp) (hcells : I64 cells) (hl : RdI w A l) (hfit : ∀ (i : Nat) (x : Ins), l[i]? = some x → x.fits) (hlc : l.length ≤ 9223372036854775807) :
    Calls Try.prog 6 #[.int .i64 dst, .int .i64 key, .int .i64 base, .int .i64 n, .int .i64 step, .int .i64 tmp, .int .i64 cells, .slice A l.length ca] w fun e w' => e = .returned (.bool true) ∧ Below w.heap.size w w' := by
  have HU := Lib.hid (up11_p w)
  obtain ⟨N, hN⟩ : ∃ N, l.length = N := ⟨_, rfl⟩
  rw [hN] at hlc ⊢
  have HN := Lib.hid hN
  have HL := Lib.hid hl
  have HF := Lib.hid hfit
  clear hN hl hfit
  by_cases b1 : (2000 : Int) < n ∧ n ≤ 200000
  · obtain ⟨b1, b2⟩ := b1
    go_enter Try.func6, Try.ntmps6
    go_wp2_with (first
      | (go_at_call 23; (with_reducible refine HU.out.mono ?_); rintro e w1 ⟨rfl, hb1⟩; have HB1 := Lib.hid hb1; clear hb1)
      | fail)
    go_ret
    exact ⟨rfl, HB1.out⟩
  have hn2 : n ≤ 2000 ∨ 200000 < n := by omega
  by_cases b3 : (300 : Int) < (N : Int)
  · rcases (show (¬ (2000 : Int) < n) ∨ ((2000 : Int) < n ∧ ¬ n ≤ 200000) by omega) with b2 | ⟨b2, b2'⟩
    all_goals
      go_enter Try.func6, Try.ntmps6
      go_wp2_with (first
        | (go_at_call 23; (with_reducible refine HU.out.mono ?_); rintro e w1 ⟨rfl, hb1⟩; have HB1 := Lib.hid hb1; clear hb1)
        | fail)
      go_ret
      exact ⟨rfl, HB1.out⟩
  have hlo := fun W => (look_p W dst key base n step tmp hn hbase hstep hn2).mono fun e w' h => look_rd h
  have hld := fun W => (dlook_p W dst key base n step tmp hn hbase hstep hn2).mono fun e w' h => look_rd h
  have hle := lookI_len dst key base n step tmp hn2
  have hcp := fun W => (copy_p W dst key).mono fun e w' h => copy_rd h
  obtain ⟨L, hL⟩ : ∃ L, lookI dst key base n step tmp = L := ⟨_, rfl⟩
  rw [hL] at hlo hld hle
  have hsl := fun (W : World) (A A' : Option Addr) (c c' : Nat) (h : RdI W A L) (h' : RdI W A' L) => same_p (c := c) (c' := c') h h' hle
  have hsc := fun (W : World) (A A' : Option Addr) (c c' : Nat) (h : RdI W A [⟨1, dst, key, key, key, 0⟩]) (h' : RdI W A' [⟨1, dst, key, key, key, 0⟩]) => same_p (c := c) (c' := c') h h' (by simp)
  unfold RetRd at hlo hld hcp
  have hnew := fun W => new_p W cells hcells
  unfold RetNew at hnew
  simp only [show ([⟨1, dst, key, key, key, 0⟩] : List Ins).length = 1 from rfl] at hsc hcp
  obtain ⟨K, hK⟩ : ∃ K, L.length = K := ⟨_, rfl⟩
  rw [hK] at hlo hld
  simp only [hK] at hsl
  have HLO := Lib.hid hlo
  have HLD := Lib.hid hld
  have HCP := Lib.hid hcp
  have HSL := Lib.hid hsl
  have HSC := Lib.hid hsc
  have tok1 : True := trivial
  clear hlo hld hcp hsl hsc hK hL hle
  unfold I64 at hcells
  rcases (show (¬ (2000 : Int) < n) ∨ ((2000 : Int) < n ∧ ¬ n ≤ 200000) by omega) with b2 | ⟨b2, b2'⟩
  all_goals
    by_cases c0 : 1 ≤ cells ∧ cells ≤ 200000
    · simp only [c0, and_self, if_true] at hnew
      have HNW := Lib.hid hnew
      clear hnew
      obtain ⟨c1, c2'⟩ := c0
      obtain ⟨m, rfl⟩ : ∃ m : Nat, cells = (m : Int) := ⟨cells.toNat, by omega⟩
      rw [Int.toNat_natCast] at HNW
      have hm : m ≤ 200000 := by omega
      have hd1 : ¬ (m : Int) < 1 := by omega
      have hd2 : ¬ (200000 : Int) < (m : Int) := by omega
      have hdn := fun W => dnew_p W m hm
      have HDN := Lib.hid hdn
      clear hdn
      go_enter Try.func6, Try.ntmps6
      go_wp2_with (first
          | (go_at_call 23; (with_reducible refine HU.out.mono ?_); rintro e w1 ⟨rfl, hb1⟩; have HB1 := Lib.hid hb1; clear hb1)
          | (go_at_call 25; (with_reducible refine (HLO.out _).mono ?_); rintro e w2 ⟨A2, c2, rfl, r2, b2⟩; have HB2 := Lib.hid (gro HB1.out b2); have R2 := Lib.hid r2; clear r2 b2)
          | (go_at_call 26; (with_reducible refine (HLD.out _).mono ?_); rintro e w3 ⟨A3, c3, rfl, r3, b3⟩; have HB3 := Lib.hid (gro HB2.out b3); have R3 := Lib.hid r3; have R2' := Lib.hid (R2.out.stays b3); clear r3 b3)
          | (go_at_call 24; first
            | (have _t := tok1; (with_reducible refine (HSL.out _ _ _ c2 c3 R2'.out R3.out).mono ?_); rintro e w4 ⟨rfl, b4⟩; have HB4 := Lib.hid (gro HB3.out b4); clear b4 tok1)
            | ((with_reducible refine (HSC.out _ _ _ c5 1 (R5.out.stays ((Below.refl _ _).alloc (Nat.le_refl _) _)) (inss_new w5 #[.int .i64 1, .int .i64 dst, .int .i64 key, .int .i64 key, .int .i64 key, .int .u64 0] 1 0 [⟨1, dst, key, key, key, 0⟩] rfl rfl (by decide) (Nat.zero_le _)).rd).mono ?_); rintro e w6 ⟨rfl, b6⟩; have HB6 := Lib.hid (gro1 HB5.out b6); clear b6))
          | (go_at_call 27; (with_reducible refine (HCP.out _).mono ?_); rintro e w5 ⟨A5, c5, rfl, r5, b5⟩; have HB5 := Lib.hid (gro HB4.out b5); have R5 := Lib.hid r5; clear r5 b5)
          | (go_at_call 28; (with_reducible refine (HNW.out _).mono ?_); rintro e w7 ⟨p, F, rfl, m7, b7, n7⟩; have M7 := Lib.hid m7; have HB7 := Lib.hid (gro HB6.out b7); have N7 := Lib.hid n7; clear m7 b7 n7)
          | (go_at_call 29; (with_reducible refine (HDN.out _).mono ?_); rintro e w8 ⟨q, G, rfl, d8, b8, n8⟩; have hb8 : Both w w8 F G p q m (fun _ => 0) [] [] := both_new HB6.out.size M7.out HB7.out N7.out d8 b8 n8; have HB8 := Lib.hid hb8; clear d8 b8 n8 hb8)
          | fail)
      have hoff : l ≠ [] → ∀ g off, A = some ⟨g, off, none⟩ → g < w.heap.size := fun hne g off e => by
        obtain ⟨x, hx⟩ : ∃ x, l[0]? = some x := by
          cases l with
          | nil => exact absurd rfl hne
          | cons x l => exact ⟨x, rfl⟩
        obtain ⟨g', off', e', hg, _⟩ := HL.out 0 x hx
        rw [e] at e'
        injection e' with e'
        injection e' with e4 e5
        omega
      have hN3 : N ≤ 300 := by omega
      have hb8 := HB8.out
      have hrn := run_p (ca := ca) hb8.mach (HL.out.stays hb8.bel) (fun hne g off e e' => by have := hoff hne g off e; have := hb8.nf g e'; omega) HF.out hm (by rw [HN.out]; simp; omega)
      have hdr := fun (W : World) (hW : Kept F w8 W) => drun_p (ca := ca) (hb8.doc.keep hW fun b e e' => hb8.off b e' e) (HL.out.stays (hb8.bel.trans (hW.below hb8.bel.size hb8.nf))) (fun hne g off e e' => by have := hoff hne g off e; have := hb8.ng g e'; omega) HF.out hm (by rw [HN.out]; simp; omega)
      have htl := runT_len m l []
      unfold RetRun codeD at hdr
      unfold RetRun at hrn
      obtain ⟨out, hout⟩ : ∃ out, runO m l (fun _ => 0) [] = out := ⟨_, rfl⟩
      obtain ⟨f, hf⟩ : ∃ f, runF m l (fun _ => 0) = f := ⟨_, rfl⟩
      obtain ⟨tr, htr⟩ : ∃ tr, runT m l [] = tr := ⟨_, rfl⟩
      rw [htr] at htl
      rw [HN.out] at hrn hdr htl
      simp only [hout, hf, htr] at hrn hdr
      have hco := fun W => code_p W out.isSome
      obtain ⟨bv, hbv⟩ : ∃ bv : Int, (if out.isSome = true then (0 : Int) else 1) = bv := ⟨_, rfl⟩
      obtain ⟨ev, hev⟩ : ∃ ev, errM out.isSome = ev := ⟨_, rfl⟩
      simp only [hbv] at hdr hco
      simp only [hev] at hrn hco
      have HRN := Lib.hid hrn
      have HDR := Lib.hid hdr
      have HCO := Lib.hid hco
      have HTL := Lib.hid htl
      have hol : (out.getD []).length ≤ 300 := by
        cases out with
        | none => simp
        | some o => have := runO_len m l _ _ _ hout; simp at this ⊢; rw [HN.out] at this; omega
      obtain ⟨o, ho⟩ : ∃ o, out.getD [] = o := ⟨_, rfl⟩
      rw [ho] at hol
      have HO := Lib.hid ho
      obtain ⟨M, hM⟩ : ∃ M, o.length = M := ⟨_, rfl⟩
      rw [hM] at hol
      have HMM := Lib.hid hM
      clear hrn hdr hco hbv hev hout hf htr hb8 hoff htl ho hM
      go_wp2_with (first
        | (go_at_call 30; (with_reducible refine HRN.out.mono ?_); rintro e w9 ⟨v9, F9, rfl, o9, m9, k9, n9, f9⟩; have W9 := outV_w64 o9; rw [HO.out] at W9; obtain ⟨A9, c9, rfl⟩ : ∃ A c, v9 = .slice A M c := (by rw [← HMM.out]; exact W9.form); have HW9 := Lib.hid W9; have M9 := Lib.hid m9; have K9 := Lib.hid k9; have N9 := Lib.hid n9; clear o9 m9 k9 n9 f9 W9)
        | (go_at_call 31; (with_reducible refine (HDR.out _ K9.out).mono ?_); rintro e w10 ⟨v10, G10, rfl, o10, d10, k10, n10, f10⟩; have W10 := outV_w64 o10; rw [HO.out] at W10; obtain ⟨A10, c10, rfl⟩ : ∃ A c, v10 = .slice A M c := (by rw [← HMM.out]; exact W10.form); have HW10 := Lib.hid W10; have HB10 := Lib.hid (HB8.out.both M9.out K9.out N9.out d10 k10 n10); have K10 := Lib.hid k10; clear o10 d10 k10 n10 f10 W10)
        | (go_at_call 13; (with_reducible refine (HCO.out _).mono ?_); rintro e w11 ⟨rfl, rfl⟩)
        | fail)
      have hb10 := HB10.out
      have hr9 : RdZ .u64 w10 A9 o := by
        have h9 := HW9.out
        refine W64.rd (h9.off K10.out fun b e e' => ?_)
        have h1 := (h9.in b e).1
        have h2 := HB8.out.doc.lt b e'
        omega
      have hr10 : RdZ .u64 w10 A10 o := HW10.out.rd
      have HR9 := Lib.hid hr9
      have HR10 := Lib.hid hr10
      clear hr9 hr10 hb10
      go_loopg [26] M (fun mm i wr => ∃ k : Nat, i = .int .i64 (k : Int) ∧ k ≤ M ∧ mm = M - k ∧ Below w10.heap.size w10 wr)
      case atStart => exact ⟨0, by first | rfl | trivial, Nat.zero_le _, by first | rfl | trivial, Below.refl _ _⟩
      case round =>
        obtain ⟨k, rfl, hk, hmk, hbw⟩ := hrel
        have HMK := Lib.hid hmk
        have HBW := Lib.hid hbw
        clear hmk
        by_cases hkM : k < M
        · obtain ⟨g1, of1, rfl, _, z1⟩ := (HR9.out.stays hbw) k (by rw [HMM.out]; exact hkM)
          obtain ⟨g2, of2, rfl, _, z2⟩ := (HR10.out.stays hbw) k (by rw [HMM.out]; exact hkM)
          obtain ⟨y, hy⟩ : ∃ y, o.getD k 0 = y := ⟨_, rfl⟩
          rw [hy] at z1 z2
          have i0 : (0 : Int) ≤ (k : Int) := by omega
          have i1 : (k : Int) < (M : Int) := by omega
          clear hy hbw
          go_wp2
          go_quiet (fail)
          go_wp2
          go_roundg (M - (k + 1))
          case measure => have := HMK.out; omega
          case rel => exact ⟨k + 1, by go_num, by omega, rfl, below_dn HBW.out nq⟩
        · have hkl : k = M := by omega
          subst hkl
          have hbo := HB10.out.stays hbw
          have HBO := Lib.hid hbo
          go_wp2
          obtain ⟨mb, lv, D, hd⟩ := id hbo.doc
          obtain ⟨Al, cl, rfl⟩ := own_formD hd.row
          have hgq := hd.fq
          have hfq : ¬ F9 q := fun e => hbo.off q e hgq
          have htl5 : tr.length ≤ 99999 := by have := HTL.out; simp at this; omega
          have htk := fun (W : World) (hW : Below wr.heap.size wr W) => take_p (hbo.mach.stays hW) (by omega)
          have hsm := fun (W : World) (v : Value) (A4 : Option Addr) (c4 : Nat) (hW : Kept F9 wr W) (ho : W.ownsRow 0 68 6 (.slice A4 tr.length c4) tr.length (insL tr)) => same_p (c := c4) (c' := cl) (RdI.of_row ho rfl) (RdI.of_row (hd.keep hW.size fun b e => hW.block b (hd.fl b e) fun e' => hbo.off b e' e).row rfl) (by omega)
          have q2 : wr.cell? ⟨q, 2, none⟩ = some (.slice Al tr.length cl) := hd.c2
          obtain ⟨T, hT⟩ : ∃ T, tr.length = T := ⟨_, rfl⟩
          rw [hT] at q2 htk hsm
          have HTK := Lib.hid htk
          have HSM := Lib.hid hsm
          have HFQ := Lib.hid hfq
          have HTT := Lib.hid hT
          clear htk hsm hd hbo hgq hfq hT hbw htl5
          go_region_held3 (fun W => W.cell? ⟨q, 2, none⟩ = some (.slice Al T cl)) (repeat (first | with_reducible assumption | with_reducible refine cell_dr ?_ | with_reducible refine cell_stays ?_ B6.out)) (first
            | (go_at_call 32; (with_reducible refine (HTK.out _ (by repeat (first | with_reducible exact Below.refl _ _ | with_reducible refine Below.drew ?_))).mono ?_); rintro e w4 ⟨v4, rfl, o4, m4, k4⟩; obtain ⟨A4, c4, rfl⟩ := own_formD o4; have q4 := k4.cell (a := ⟨q, 2, none⟩) (cell_dr q2) HFQ.out; have K4 := Lib.hid ((Kept.of_below F9 (Below.refl wr.heap.size wr).drew).trans k4 fun b e => .inl e); have O4 := Lib.hid (own_lower o4 (Nat.zero_le _)); have M4 := Lib.hid m4; clear o4 m4 k4)
            | (go_at_call 24; (with_reducible refine (HSM.out _ (.nilIface) _ _ K4.out O4.out).mono ?_); rintro e w6 ⟨rfl, b6⟩; have B6 := Lib.hid b6; clear b6)
            | fail)
          have hb6 := (HBO.out.one M4.out K4.out fun b e => .inl e).stays B6.out
          have HB6 := Lib.hid hb6
          clear hb6 q2 q4 HTK HSM K4 O4 M4 B6
          go_wp2
          go_ret
          exact ⟨rfl, HB6.out.bel⟩
    · simp only [c0, if_false] at hnew
      have HNO := Lib.hid hnew
      clear hnew
      rcases (show cells < 1 ∨ (¬ cells < 1 ∧ 200000 < cells) by omega) with d1 | ⟨d1, d2⟩
      all_goals
        go_enter Try.func6, Try.ntmps6
        go_wp2_with (first
          | (go_at_call 23; (with_reducible refine HU.out.mono ?_); rintro e w1 ⟨rfl, hb1⟩; have HB1 := Lib.hid hb1; clear hb1)
          | (go_at_call 25; (with_reducible refine (HLO.out _).mono ?_); rintro e w2 ⟨A2, c2, rfl, r2, b2⟩; have HB2 := Lib.hid (gro HB1.out b2); have R2 := Lib.hid r2; clear r2 b2)
          | (go_at_call 26; (with_reducible refine (HLD.out _).mono ?_); rintro e w3 ⟨A3, c3, rfl, r3, b3⟩; have HB3 := Lib.hid (gro HB2.out b3); have R3 := Lib.hid r3; have R2' := Lib.hid (R2.out.stays b3); clear r3 b3)
          | (go_at_call 24; first
            | (have _t := tok1; (with_reducible refine (HSL.out _ _ _ c2 c3 R2'.out R3.out).mono ?_); rintro e w4 ⟨rfl, b4⟩; have HB4 := Lib.hid (gro HB3.out b4); clear b4 tok1)
            | ((with_reducible refine (HSC.out _ _ _ c5 1 (R5.out.stays ((Below.refl _ _).alloc (Nat.le_refl _) _)) (inss_new w5 #[.int .i64 1, .int .i64 dst, .int .i64 key, .int .i64 key, .int .i64 key, .int .u64 0] 1 0 [⟨1, dst, key, key, key, 0⟩] rfl rfl (by decide) (Nat.zero_le _)).rd).mono ?_); rintro e w6 ⟨rfl, b6⟩; have HB6 := Lib.hid (gro1 HB5.out b6); clear b6))
          | (go_at_call 27; (with_reducible refine (HCP.out _).mono ?_); rintro e w5 ⟨A5, c5, rfl, r5, b5⟩; have HB5 := Lib.hid (gro HB4.out b5); have R5 := Lib.hid r5; clear r5 b5)
          | (go_at_call 28; (with_reducible refine (HNO.out _).mono ?_); rintro e w7 ⟨rfl, b7⟩; have HB7 := Lib.hid (gro HB6.out b7); clear b7)
          | fail)
        go_ret
        exact ⟨rfl, HB7.out⟩
end Go.Proofs.Ythhgagghdeocoaa
