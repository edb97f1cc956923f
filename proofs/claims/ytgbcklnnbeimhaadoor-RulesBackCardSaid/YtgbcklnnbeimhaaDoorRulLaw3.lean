/-
  Layer 14's law RulesBack. No statement of its own: the statement's proof is another text.
-/
import Derived.Test.YtgbcklnnbeimhaaDoorRulLaw
import Derived.Test.YtgbcklnnbeimhaaDoorRulBack
import Derived.IntWalk
set_option linter.unusedVariables false
set_option linter.unusedSimpArgs false
namespace Go.Proofs.YtgbcklnnbeimhaaDoor
open Go Go.RowKit

/-- A number modulo 9, from 0 on. -/
def pk (n : Int) : Nat := if n.tmod 9 < 0 then (n.tmod 9 + 9).toNat else (n.tmod 9).toNat
theorem pk_le (n : Int) : pk n ≤ 8 := by
  have h1 := Int.tmod_lt_of_pos n (show (0 : Int) < 9 by omega)
  unfold pk
  split <;> omega
theorem pick9_p (w : World) (n : Int) (hn : -9223372036854775808 ≤ n ∧ n ≤ 9223372036854775807) :
    Calls Tryd.prog 13 #[.int .i64 n, .int .i64 9] w fun e w' => e = .returned (.int .i64 (pk n : Nat)) ∧ w' = w := by
  have h1 := Int.tmod_lt_of_pos n (show (0 : Int) < 9 by omega)
  have h2 := Int.lt_tmod_of_pos n (show (0 : Int) < 9 by omega)
  obtain ⟨p, hp⟩ : ∃ p, pk n = p := ⟨_, rfl⟩
  rw [hp]
  unfold pk at hp
  obtain ⟨q, hq⟩ : ∃ q, n.tmod 9 = q := ⟨_, rfl⟩
  rw [hq] at hp h1 h2
  by_cases h0 : q < 0
  · rw [if_pos h0] at hp
    have hw : IntKind.i64.wrap (q + 9) = q + 9 := IntWalk.i64_in _ (by omega)
    go_enter Tryd.func13, Tryd.ntmps13
    go_wp2
    go_ret
    exact ⟨by show Ending.returned (.int .i64 (q + 9)) = _; rw [← hp, Int.toNat_of_nonneg (by omega)], rfl⟩
  · rw [if_neg h0] at hp
    go_enter Tryd.func13, Tryd.ntmps13
    go_wp2
    go_ret
    exact ⟨by show Ending.returned (.int .i64 q) = _; rw [← hp, Int.toNat_of_nonneg (by omega)], rfl⟩
theorem gap_add (m : Nat) : toB (gapL m) ++ ⟨#[10, 35, 120, 10]⟩ = toB (gapL (m + 1)) := bytes_ext (by rw [cat_list, toB_data, toB_data, gapL])

set_option maxRecDepth 20000 in
set_option maxHeartbeats 4000000 in
theorem rulesback_p (w : World) (s : ByteArray) (more : Int) (hs : s.size ≤ 9223372036854775807) (hn : -9223372036854775808 ≤ more ∧ more ≤ 9223372036854775807) (hm : MaxL w) :
    Calls Tryd.prog 5 #[.string s, .int .i64 more] w fun e w' => e = .returned (.bool true) ∧ Below w.heap.size w w' := by
  have HU := Lib.hid (up14_p w hm)
  by_cases hl : 3000 < s.size
  · have hl' : (3000 : Int) < (s.size : Int) := by omega
    clear hl
    go_enter Tryd.func5, Tryd.ntmps5
    go_wp2_with (go_at_call 6; (with_reducible refine HU.out.mono ?_); rintro e w1 ⟨rfl, hb1⟩)
    go_ret
    exact ⟨rfl, hb1⟩
  have hl' : ¬ (3000 : Int) < (s.size : Int) := by omega
  have hs3 : s.size ≤ 3000 := by omega
  have HPK := Lib.hid (fun W => pick9_p W more hn)
  have hM8 := pk_le more
  obtain ⟨M, hM⟩ : ∃ M, pk more = M := ⟨_, rfl⟩
  simp only [hM] at HPK
  rw [hM] at hM8
  clear hM hn hl hs
  have HP := Lib.hid (fun (W : World) (hb : Below w.heap.size w W) => parse14_p W s (by omega) (hm.stays hb))
  obtain ⟨g, hg⟩ : ∃ g, toB (gapL M) ++ s = g := ⟨_, rfl⟩
  have hgd : g.data.toList = gapL M ++ s.data.toList := by rw [← hg, cat_list, toB_data]
  have hgz : (toB (gapL M)).size = 4 * M := by rw [toB_size, gapL_len]
  have hgs : g.size = 4 * M + s.size := by rw [← hg, ByteArray.size_append, hgz]
  have HG := Lib.hid (fun (W : World) (hb : Below w.heap.size w W) => parse14_p W g (by omega) (hm.stays hb))
  rw [gap_is M hM8 s g hs3 hgd] at HG
  have ha2 : ∀ W, (Op.stringOp .add (toB (gapL M)) s).run Tryd.prog W = .ok (.string g) W := fun W => by rw [← hg]; exact add_p _ _ (by omega) W
  have ha1 : ∀ k W, k < M → (Op.stringOp .add (toB (gapL k)) ⟨#[10, 35, 120, 10]⟩).run Tryd.prog W = .ok (.string (toB (gapL (k + 1)))) W := fun k W hk => by
    rw [← gap_add]
    exact add_p _ _ (by rw [toB_size, gapL_len]; have e : (ByteArray.mk #[10, 35, 120, 10]).size = 4 := rfl; omega) W
  have HA1 := Lib.hid ha1
  clear ha1 hg hgd hgz hgs
  have HS3 := Lib.hid hs3
  clear hs3
  cases hr : parseR s with
  | error x =>
    obtain ⟨code, at'⟩ := x
    simp only [hr] at HP HG
    unfold RetPar at HP HG
    simp only at HP HG
    have hat := parseR_at hr
    clear hr
    go_enter Tryd.func5, Tryd.ntmps5
    go_wp2_with (first
      | (go_at_call 6; (with_reducible refine HU.out.mono ?_); rintro e w1 ⟨rfl, hb1⟩; have HB1 := Lib.hid hb1; clear hb1)
      | (go_at_call 7; (with_reducible refine (HP.out _ HB1.out).mono ?_); rintro e w2 ⟨⟨gs, rfl, hgs, _⟩, hb2⟩; have HB2 := Lib.hid (gro HB1.out hb2); have HGS := Lib.hid hgs; clear hb2 hgs))
    go_loopg [8, 9] M (fun mm gap i wr => ∃ k : Nat, i = .int .i64 (k : Int) ∧ k ≤ M ∧ mm = M - k ∧ gap = .string (toB (gapL k)) ∧ wr = w2)
    case atStart => exact ⟨0, rfl, Nat.zero_le _, rfl, rfl, rfl⟩
    case round =>
      obtain ⟨k, rfl, hk, hmk, rfl, rfl⟩ := hrel
      have HMK := Lib.hid hmk
      clear hmk
      by_cases hkM : k < M
      · have hkM' : (k : Int) < (M : Int) := by omega
        have ha := fun W => HA1.out k W hkM
        go_wp2_with (first
          | (go_at_call 13; (with_reducible refine (HPK.out _).mono ?_); rintro e w3 ⟨rfl, rfl⟩))
        go_roundg (M - (k + 1))
        case measure => have := HMK.out; omega
        case rel => exact ⟨k + 1, by go_num, by omega, rfl, rfl, rfl⟩
      · have hkl : k = M := by omega
        subst hkl
        have i1 : IntKind.i64.wrap (2 * (k : Int)) = 2 * (k : Int) := IntWalk.i64_in _ (by omega)
        have i2 : IntKind.i64.wrap ((at' : Int) + 2 * (k : Int)) = (at' : Int) + 2 * (k : Int) := IntWalk.i64_in _ (by omega)
        have i3 : (((at' + 2 * k : Nat) : Int)) = (at' : Int) + 2 * (k : Int) := by omega
        rw [i3] at HG
        clear hat
        go_wp2_with (first
          | (go_at_call 13; (with_reducible refine (HPK.out _).mono ?_); rintro e w3 ⟨rfl, rfl⟩)
          | (go_at_call 7; (with_reducible refine (HG.out _ HB2.out).mono ?_); rintro e w4 ⟨⟨gs2, rfl, hgs2, _⟩, hb4⟩; have HB4 := Lib.hid (gro HB2.out hb4); have HGS4 := Lib.hid ((hb4.block gs (lt_of_some HGS.out)).trans HGS.out); have HSP1 := Lib.hid (spot_p w4 gs at' code HGS4.out); have HSP2 := Lib.hid (fun n => spot_p (w4.drewN n) gs2 ((at' : Int) + 2 * (k : Int)) code hgs2); clear hb4 hgs2)
          | (go_at_call 9; first
            | ((with_reducible refine HSP1.out.mono ?_); rintro e w5 ⟨rfl, n5, rfl⟩)
            | ((with_reducible refine (HSP2.out _).mono ?_); rintro e w6 ⟨rfl, n6, rfl⟩)))
        go_ret
        exact ⟨rfl, below_drN HB4.out _⟩
  | ok l =>
    have hl8 := parseR_len8 hr
    obtain ⟨hbk, hap, hz⟩ := back hr (by have := HS3.out; omega)
    have HAP := Lib.hid hap
    simp only [hr] at HP HG
    unfold RetPar at HP HG
    simp only at HP HG
    have HSH := Lib.hid (fun W A c h => show_p W A c l (by omega) (by omega) h)
    have HAG := Lib.hid (fun (W : World) (hb : Below w.heap.size w W) => parse14_p W (toB (showL l)) (by rw [toB_size]; omega) (hm.stays hb))
    rw [hbk] at HAG
    unfold RetPar at HAG
    simp only at HAG
    have HSM := Lib.hid (fun W A B c d h1 h2 => same14_p W A B c d l (by omega) h1 h2)
    obtain ⟨ss, hss⟩ : ∃ ss, toB (showL l) = ss := ⟨_, rfl⟩
    rw [hss] at HAG
    unfold toB at hss
    simp only [hss] at HSH
    obtain ⟨N, hN⟩ : ∃ N, l.length = N := ⟨_, rfl⟩
    have HNN := Lib.hid hN
    simp only [hN] at HP HG HSH HAG HSM
    rw [hN] at hl8
    have h8i : ¬ (8 : Int) < (N : Int) := by omega
    clear hr hbk hap hz hss hN
    go_enter Tryd.func5, Tryd.ntmps5
    go_wp2_with (first
      | (go_at_call 6; (with_reducible refine HU.out.mono ?_); rintro e w1 ⟨rfl, hb1⟩; have HB1 := Lib.hid hb1; clear hb1)
      | (go_at_call 7; (with_reducible refine (HP.out _ HB1.out).mono ?_); rintro e w2 ⟨⟨A, c, rfl, hrd⟩, hb2⟩; have HB2 := Lib.hid (gro HB1.out hb2); have HRD := Lib.hid hrd; clear hb2 hrd))
    go_loopg [8, 9] M (fun mm gap i wr => ∃ k : Nat, i = .int .i64 (k : Int) ∧ k ≤ M ∧ mm = M - k ∧ gap = .string (toB (gapL k)) ∧ wr = w2)
    case atStart => exact ⟨0, rfl, Nat.zero_le _, rfl, rfl, rfl⟩
    case round =>
      obtain ⟨k, rfl, hk, hmk, rfl, rfl⟩ := hrel
      have HMK := Lib.hid hmk
      clear hmk
      by_cases hkM : k < M
      · have hkM' : (k : Int) < (M : Int) := by omega
        have ha := fun W => HA1.out k W hkM
        go_wp2_with (first
          | (go_at_call 13; (with_reducible refine (HPK.out _).mono ?_); rintro e w3 ⟨rfl, rfl⟩))
        go_roundg (M - (k + 1))
        case measure => have := HMK.out; omega
        case rel => exact ⟨k + 1, by go_num, by omega, rfl, rfl, rfl⟩
      · have hkl : k = M := by omega
        subst hkl
        have i1 : IntKind.i64.wrap (2 * (k : Int)) = 2 * (k : Int) := IntWalk.i64_in _ (by omega)
        go_wp2_with (first
          | (go_at_call 13; (with_reducible refine (HPK.out _).mono ?_); rintro e w3 ⟨rfl, rfl⟩)
          | (go_at_call 7; first
            | ((with_reducible refine (HG.out _ HB2.out).mono ?_); rintro e w4 ⟨⟨B, d, rfl, hrb⟩, hb4⟩; have HB4 := Lib.hid (gro HB2.out hb4); have HRD4 := Lib.hid (HRD.out.stays hb4); have HRB := Lib.hid hrb; clear hb4 hrb)
            | ((with_reducible refine (HAG.out _ HB5.out).mono ?_); rintro e w6 ⟨⟨C, f, rfl, hrc⟩, hb6⟩; have HB6 := Lib.hid (gro HB5.out hb6); have HRD6 := Lib.hid (HRD5.out.stays hb6); have HRB6 := Lib.hid (HRB5.out.stays hb6); have HRC := Lib.hid hrc; clear hb6 hrc))
          | (go_at_call 11; (with_reducible refine (HSH.out _ _ _ HRD4.out).mono ?_); rintro e w5 ⟨rfl, hb5⟩; have HB5 := Lib.hid (gro HB4.out hb5); have HRD5 := Lib.hid (HRD4.out.stays hb5); have HRB5 := Lib.hid (HRB.out.stays hb5); clear hb5)
          | (go_at_call 10; first
            | ((with_reducible refine (HSM.out _ A B _ _ HRD6.out HRB6.out).mono ?_); rintro e w65 ⟨rfl, hb65⟩; have HB65 := Lib.hid (gro HB6.out hb65); have HRD65 := Lib.hid (HRD6.out.stays hb65); have HRC65 := Lib.hid (HRC.out.stays hb65); clear hb65)
            | ((with_reducible refine (HSM.out _ A C _ _ HRD65.out HRC65.out).mono ?_); rintro e w7 ⟨rfl, hb7⟩; have HB7 := Lib.hid (gro HB65.out hb7); have HRD7 := Lib.hid (HRD65.out.stays hb7); clear hb7)))
        go_loopg [19] N (fun mm i ws => ∃ j : Nat, i = .int .i64 (j : Int) ∧ j ≤ N ∧ mm = N - j ∧ Below w.heap.size w ws ∧ RdRu ws A l)
        case atStart => exact ⟨0, rfl, Nat.zero_le _, rfl, HB7.out, HRD7.out⟩
        case round =>
          obtain ⟨j, rfl, hj, hmj, hbj, hrj⟩ := hrel
          have HMJ := Lib.hid hmj
          have HBJ := Lib.hid hbj
          have HRJ := Lib.hid hrj
          clear hmj hbj hrj
          by_cases hjN : j < N
          · have hjN' : (j : Int) < (N : Int) := by omega
            obtain ⟨x, hx⟩ : ∃ x, l[j]? = some x := ⟨_, List.getElem?_eq_getElem (by rw [HNN.out]; exact hjN)⟩
            have HX := Lib.hid hx
            go_wp2
            obtain ⟨wj, hwj⟩ : ∃ wj, wr = wj := ⟨_, rfl⟩
            rw [hwj] at HBJ HRJ ⊢
            clear hwj
            go_loopg [20] j (fun mm i ws => ∃ q : Nat, i = .int .i64 (q : Int) ∧ q ≤ j ∧ mm = j - q ∧ Below w.heap.size w ws ∧ RdRu ws A l)
            case atStart => exact ⟨0, rfl, Nat.zero_le _, rfl, HBJ.out, HRJ.out⟩
            case round =>
              obtain ⟨q, rfl, hq, hmq, hbq, hrq⟩ := hrel
              have HMQ := Lib.hid hmq
              have HBQ := Lib.hid hbq
              have HRQ := Lib.hid hrq
              clear hmq hbq hrq
              by_cases hqj : q < j
              · have hqj' : (q : Int) < (j : Int) := by omega
                have hqN' : (q : Int) < (N : Int) := by omega
                obtain ⟨y, hy⟩ : ∃ y, l[q]? = some y := ⟨_, List.getElem?_eq_getElem (by rw [HNN.out]; omega)⟩
                have hne := apart_get l j q x y HAP.out hqj HX.out hy
                obtain ⟨g1, o1, rfl, hg1, c0, c1, c2⟩ := HRQ.out j x HX.out
                obtain ⟨g2, o2, e2, hg2, d0, d1, d2⟩ := HRQ.out q y hy
                injection e2 with e2
                injection e2 with e3 e4 _
                subst e3 e4
                have hb : (x.name.toList == y.name.toList) = false := by rw [str_beq]; simp [hne]
                clear hne hy hx
                go_wp2
                go_quiet (fail)
                go_wp2
                go_roundg (j - (q + 1))
                case measure => have := HMQ.out; omega
                case rel => exact ⟨q + 1, by go_num, by omega, rfl, below_drN HBQ.out _, HRQ.out.drewN _⟩
              · have hql : q = j := by omega
                subst hql
                go_wp2
                go_roundg (N - (q + 1))
                case measure => have := HMJ.out; omega
                case rel => exact ⟨q + 1, by go_num, by omega, rfl, HBQ.out, HRQ.out⟩
          · have hjl : j = N := by omega
            subst hjl
            go_wp2
            go_ret
            exact ⟨rfl, HBJ.out⟩
end Go.Proofs.YtgbcklnnbeimhaaDoor
