/-
  The statement CtBlind of layer 10: the walk. Contracts for other texts; no statement of its own.
-/
import Derived.Test.YtccglhcjbpgipaaCtRd
import Derived.Test.YtccglhcjbpgipaaStoRow
set_option linter.unusedVariables false
set_option linter.unusedSimpArgs false
namespace Go.Proofs.Ytccglhcjbpgipaa
open Go Go.RowKit
attribute [local go_sem ↓] run_stoE

/-- Two machines of one trace. -/
structure Pair (w0 w : World) (F G : Nat → Prop) (p q m : Nat) (f g : Int → Int) (tr : List Ins) : Prop where
  one : Mach w F p m f tr
  two : Mach w G q m g tr
  off : ∀ b, F b → ¬ G b
  nf : ∀ b, F b → w0.heap.size ≤ b
  ng : ∀ b, G b → w0.heap.size ≤ b
  bel : Below w0.heap.size w0 w
section
variable {w0 w w' w'' : World} {F F' G G' : Nat → Prop} {p q m : Nat} {f f' g g' : Int → Int} {tr tr' : List Ins}
theorem Pair.stays (h : Pair w0 w F G p q m f g tr) (hb : Below w.heap.size w w') : Pair w0 w' F G p q m f g tr :=
  ⟨h.one.stays hb, h.two.stays hb, h.off, h.nf, h.ng, h.bel.trans (hb.mono h.bel.size)⟩
theorem Pair.both (h : Pair w0 w F G p q m f g tr) (hm : Mach w' F' p m f' tr') (hk : Kept F w w') (hn : ∀ b, F' b → F b ∨ w.heap.size ≤ b) (hd : Mach w'' G' q m g' tr') (hk' : Kept G w' w'') (hn' : ∀ b, G' b → G b ∨ w'.heap.size ≤ b) : Pair w0 w'' F' G' p q m f' g' tr' := by
  have hB : Below w0.heap.size w0 w' := h.bel.trans (hk.below h.bel.size h.nf)
  have hoff : ∀ b, F' b → ¬ G b := fun b e e' => (hn b e).elim (fun x => h.off b x e') (fun x => by have := h.two.lt b e'; omega)
  exact ⟨hm.kept hk' fun b e e' => hoff b e e', hd, fun b e e' => (hn' b e').elim (fun x => hoff b e x) (fun x => by have := hm.lt b e; omega), fun b e => (hn b e).elim (h.nf b) fun e' => Nat.le_trans h.bel.size e', fun b e => (hn' b e).elim (h.ng b) fun e' => Nat.le_trans hB.size e', hB.trans (hk'.below hB.size h.ng)⟩
end
/-- No instruction names c as D. -/
def Free (l : List Ins) (c : Int) : Prop := ∀ (i : Nat) (x : Ins), l[i]? = some x → x.d ≠ c
theorem next_free {x : Ins} {m : Nat} {f : Int → Int} {c : Int} (h : x.d ≠ c) : nextM x m f c = f c := by
  unfold nextM nextF
  split
  · split
    · rfl
    · exact if_neg (fun e : c = x.d => h e.symm)
  · rfl
/-- What comes in changes neither whether an instruction may be nor what is told of it. -/
theorem in_may (d a b c n v : Int) (m : Nat) : may ⟨10, d, a, b, c, v⟩ m = may ⟨10, d, a, b, c, n⟩ m := by simp [may]
theorem in_trc (d a b c n v : Int) : trc ⟨10, d, a, b, c, v⟩ = trc ⟨10, d, a, b, c, n⟩ := by simp [trc]
theorem nextT_len (x : Ins) (m : Nat) (tr : List Ins) : (nextT x m tr).length ≤ tr.length + 1 := by
  unfold nextT
  split
  · simp
  · omega

theorem take_T {w : World} {F : Nat → Prop} {p m T : Nat} {f : Int → Int} {tr : List Ins} (h : Mach w F p m f tr) (hlen : tr.length ≤ 100000) (hT : tr.length = T) :
    Calls Try.prog 29 #[.pointer (some ⟨p, 0, none⟩)] w fun e w' => ∃ v, e = .returned v ∧ w'.ownsRow w.heap.size 71 6 v T (insL tr) ∧ Mach w' F p m f [] ∧ Kept F w w' := by
  subst hT
  exact take_p h hlen
theorem same_T {W : World} {A1 A2 : Option Addr} {c1 c2 T : Nat} {tf : List Ins} (hlen : tf.length ≤ 100000) (hT : tf.length = T) (h1 : W.ownsRow 0 71 6 (.slice A1 T c1) T (insL tf)) (h2 : W.ownsRow 0 71 6 (.slice A2 T c2) T (insL tf)) :
    Calls Try.prog 28 #[.slice A1 T c1, .slice A2 T c2] W fun e w' => e = .returned (.bool true) ∧ Below W.heap.size W w' := by
  subst hT
  exact same_p (RdI.of_row h1 rfl) (RdI.of_row h2 rfl) hlen
/-- What Emit tells, and what is told of it. -/
theorem emit2_p {w : World} {F : Nat → Prop} {p m : Nat} {f : Int → Int} {tr : List Ins} (h : Mach w F p m f tr) (c : Nat) (hc : c < m) (hm : m ≤ 200000) (hlen : tr.length ≤ 99999) :
    Calls Try.prog 26 #[.pointer (some ⟨p, 0, none⟩), .agg #[.int .i64 11, .int .i64 0, .int .i64 (c : Int), .int .i64 0, .int .i64 0, .int .u64 0]] w fun e w' => e = .returned (.tuple #[.int .u64 (f c), .nilIface]) ∧ ∃ F', Mach w' F' p m f (tr ++ [⟨11, 0, (c : Int), 0, 0, 0⟩]) ∧ Kept F w w' ∧ (∀ b, F' b → F b ∨ w.heap.size ≤ b) := by
  have hmay : may ⟨11, 0, (c : Int), 0, 0, 0⟩ m = true := by simp [may, there]; omega
  refine (do_p h ⟨11, 0, (c : Int), 0, 0, 0⟩ (fits_of ⟨i64_of (by decide), i64_of (by decide), i64_of ⟨by omega, by omega⟩, i64_of (by decide), i64_of (by decide), u64_of (by decide)⟩) hm hlen).mono fun e w' ⟨h1, F', h2, h3, h4⟩ => ?_
  unfold toldM errM at h1
  unfold nextM nextT at h2
  rw [hmay] at h1 h2
  simp only [if_true, nextF, told] at h1 h2
  exact ⟨h1, F', h2, h3, h4⟩

set_option maxRecDepth 20000 in
set_option maxHeartbeats 4000000 in
theorem ctblind_p {w : World} {A B : Option Addr} {ca cb : Nat} {l : List Ins} {zs : List Int} (cells : Int) (hcells : I64 cells) (hl : RdI w A l) (hfit : ∀ (i : Nat) (x : Ins), l[i]? = some x → x.fits) (has : RdZ .u64 w B zs) (hab : ∀ k, k < zs.length → U64 (zs.getD k 0)) (hlc : l.length ≤ 9223372036854775807) (hac : zs.length ≤ 9223372036854775807) :
    Calls Try.prog 7 #[.int .i64 cells, .slice A l.length ca, .slice B zs.length cb] w fun e w' => e = .returned (.bool true) ∧ Below w.heap.size w w' := by
  have tok1 : True := trivial
  have HU := Lib.hid (up10_p w)
  have hc1 := hcells.1
  have hc2 := hcells.2
  have hnew := fun W => new_p W cells hcells
  unfold RetNew at hnew
  obtain ⟨N, hN⟩ : ∃ N, l.length = N := ⟨_, rfl⟩
  obtain ⟨M, hM⟩ : ∃ M, zs.length = M := ⟨_, rfl⟩
  rw [hN] at hlc
  rw [hM] at hac hab
  rw [hN, hM]
  have HN := Lib.hid hN
  have HM := Lib.hid hM
  have HL := Lib.hid hl
  have HF := Lib.hid hfit
  have HA := Lib.hid has
  have HAB := Lib.hid hab
  clear hN hM hl hfit has hab hcells
  by_cases b1 : cells < 1
  · simp only [show ¬ (1 ≤ cells ∧ cells ≤ 200000) from by omega, if_false] at hnew
    have HNO := Lib.hid hnew
    clear hnew
    go_enter Try.func7, Try.ntmps7
    go_wp2_with (first
      | (go_at_call 23; (with_reducible refine HU.out.mono ?_); rintro e w1 ⟨rfl, hb1⟩; have HB1 := Lib.hid hb1; clear hb1)
      | (go_at_call 24; first
          | (have _t := tok1; (with_reducible refine (HNO.out _).mono ?_); rintro e w2 ⟨rfl, b2⟩; have HB2 := Lib.hid (gro HB1.out b2); clear b2 tok1)
          | ((with_reducible refine (HNO.out _).mono ?_); rintro e w3 ⟨rfl, b3⟩; have HB3 := Lib.hid (gro HB2.out b3); clear b3))
      | fail)
    go_ret
    exact ⟨by simp, HB3.out⟩
  by_cases b2 : (200000 : Int) < cells
  · simp only [show ¬ (1 ≤ cells ∧ cells ≤ 200000) from by omega, if_false] at hnew
    have HNO := Lib.hid hnew
    clear hnew
    go_enter Try.func7, Try.ntmps7
    go_wp2_with (first
      | (go_at_call 23; (with_reducible refine HU.out.mono ?_); rintro e w1 ⟨rfl, hb1⟩; have HB1 := Lib.hid hb1; clear hb1)
      | (go_at_call 24; first
          | (have _t := tok1; (with_reducible refine (HNO.out _).mono ?_); rintro e w2 ⟨rfl, b2⟩; have HB2 := Lib.hid (gro HB1.out b2); clear b2 tok1)
          | ((with_reducible refine (HNO.out _).mono ?_); rintro e w3 ⟨rfl, b3⟩; have HB3 := Lib.hid (gro HB2.out b3); clear b3))
      | fail)
    go_ret
    exact ⟨by simp, HB3.out⟩
  simp only [show (1 ≤ cells ∧ cells ≤ 200000) from ⟨by omega, by omega⟩, and_self, if_true] at hnew
  have HNW := Lib.hid hnew
  clear hnew
  obtain ⟨m, rfl⟩ : ∃ m : Nat, cells = (m : Int) := ⟨cells.toNat, by omega⟩
  rw [Int.toNat_natCast] at HNW
  have hm : m ≤ 200000 := by omega
  by_cases b3 : (300 : Int) < (N : Int)
  · go_enter Try.func7, Try.ntmps7
    go_wp2_with (first
      | (go_at_call 23; (with_reducible refine HU.out.mono ?_); rintro e w1 ⟨rfl, hb1⟩; have HB1 := Lib.hid hb1; clear hb1)
      | (go_at_call 24; first
          | (have _t := tok1; (with_reducible refine (HNW.out _).mono ?_); rintro e w2 ⟨p, F, rfl, _, b2', _⟩; have HB2 := Lib.hid (gro HB1.out b2'); clear b2' tok1)
          | ((with_reducible refine (HNW.out _).mono ?_); rintro e w3 ⟨q, G, rfl, _, b3', _⟩; have HB3 := Lib.hid (gro HB2.out b3'); clear b3'))
      | fail)
    go_ret
    exact ⟨by simp, HB3.out⟩
  go_enter Try.func7, Try.ntmps7
  go_wp2_with (first
    | (go_at_call 23; (with_reducible refine HU.out.mono ?_); rintro e w1 ⟨rfl, hb1⟩; have HB1 := Lib.hid hb1; clear hb1)
    | (go_at_call 24; first
        | (have _t := tok1; (with_reducible refine (HNW.out _).mono ?_); rintro e w2 ⟨p, F, rfl, m2, b2', n2⟩; have M2 := Lib.hid m2; have HB2 := Lib.hid (gro HB1.out b2'); have N2 := Lib.hid n2; clear m2 b2' n2 tok1)
        | ((with_reducible refine (HNW.out _).mono ?_); rintro e w3 ⟨q, G, rfl, m3, b3', n3⟩; have M3 := Lib.hid m3; have B3 := Lib.hid b3'; have N3 := Lib.hid n3; clear m3 b3' n3))
    | fail)
  have hb0 : Pair w w3 F G p q m (fun _ => 0) (fun _ => 0) [] := by
    have b23 := B3.out
    have hs := HB2.out.size
    have hs1 := HB1.out.size
    refine ⟨M2.out.stays b23, M3.out, fun b e e' => ?_, fun b e => Nat.le_trans hs1 (N2.out b e), fun b e => Nat.le_trans hs (N3.out b e), gro HB2.out b23⟩
    have h1 := M2.out.lt b e
    have h2 := N3.out b e'
    omega
  have HB0 := Lib.hid hb0
  clear hb0
  have hm1 : (1 : Int) ≤ (m : Int) := by omega
  go_loopg [10, 11] 400 (fun mm fr i wr => ∃ (c : Nat) (z : Int), i = .int .i64 (c : Int) ∧ c ≤ 400 ∧ c ≤ m ∧ mm = 400 - c ∧ fr = .int .i64 z ∧ (z = -1 ∨ (0 ≤ z ∧ z < (m : Int) ∧ Free l z)) ∧ wr = w3)
  case atStart => exact ⟨0, -1, by first | rfl | trivial, Nat.zero_le _, Nat.zero_le _, by first | rfl | trivial, by first | rfl | trivial, .inl rfl, rfl⟩
  case round =>
    obtain ⟨c, z, rfl, hc4, hcm, hmk, rfl, hz, hww⟩ := hrel
    obtain rfl := hww.symm
    have HMK := Lib.hid hmk
    have HZ := Lib.hid hz
    clear hmk
    by_cases hgo : c < 400 ∧ c < m ∧ z < 0
    · obtain ⟨g1, g2, g3⟩ := hgo
      have hz1 : z = -1 := by omega
      subst hz1
      have i1 : (c : Int) < (m : Int) := by omega
      have i2 : (c : Int) < 400 := by omega
      clear hz g3
      go_wp2
      go_loopg [12, 13] N (fun mm nb i wr => ∃ (j : Nat) (b : Bool), i = .int .i64 (j : Int) ∧ j ≤ N ∧ mm = N - j ∧ nb = .bool b ∧ (b = false → ∀ (i : Nat) (x : Ins), i < j → l[i]? = some x → x.d ≠ (c : Int)) ∧ wr = w3)
      case atStart => exact ⟨0, false, by first | rfl | trivial, Nat.zero_le _, by first | rfl | trivial, by first | rfl | trivial, fun _ i x h => by omega, rfl⟩
      case round =>
        obtain ⟨j, b, rfl, hj, hmj, rfl, hb, hww2⟩ := hrel
        obtain rfl := hww2.symm
        have HMJ := Lib.hid hmj
        have HBN := Lib.hid hb
        clear hmj hb
        by_cases hjN : j < N
        · have j1 : (j : Int) < (N : Int) := by omega
          cases b
          · obtain ⟨x, hx⟩ : ∃ x, l[j]? = some x := ⟨_, List.getElem?_eq_getElem (by rw [HN.out]; omega)⟩
            obtain ⟨g, off, rfl, hg, z0, z1, z2, z3, z4, z5⟩ := (HL.out.stays HB0.out.bel).at hx
            have HX := Lib.hid hx
            obtain ⟨o, d, a, b, c', n⟩ := x
            simp only at z0 z1 z2 z3 z4 z5
            have hd1 := (HF.out j _ hx).d
            unfold I64 at hd1
            simp only at hd1
            clear hx hg
            by_cases hdc : d = (c : Int)
            · have hdq : (d == (c : Int)) = true := by simp [hdc]
              clear hdc
              go_wp2
              go_roundg (N - (j + 1))
              case measure => have := HMJ.out; omega
              case rel => exact ⟨j + 1, true, by go_num, by omega, rfl, rfl, fun e => (by cases e), rfl⟩
            · have hdq : (d == (c : Int)) = false := by simp [hdc]
              have HDC := Lib.hid hdc
              clear hdc
              go_wp2
              go_roundg (N - (j + 1))
              case measure => have := HMJ.out; omega
              case rel =>
                refine ⟨j + 1, false, by go_num, by omega, rfl, rfl, fun _ i x hi he => ?_, rfl⟩
                by_cases e : i = j
                · subst e
                  have := HX.out
                  rw [he] at this
                  injection this with this
                  subst this
                  exact HDC.out
                · exact HBN.out trivial i x (by omega) he
          · go_wp2
            go_roundg (N - (j + 1))
            case measure => have := HMJ.out; omega
            case rel => exact ⟨j + 1, true, by go_num, by omega, rfl, rfl, fun e => (by cases e), rfl⟩
        · have hjl : j = N := by omega
          subst hjl
          cases b
          · go_wp2
            go_roundg (400 - (c + 1))
            case measure => have := HMK.out; omega
            case rel => exact ⟨c + 1, c, by go_num, by omega, by omega, rfl, rfl, .inr ⟨by omega, i1, fun i x he => HBN.out trivial i x (by rw [← HN.out]; exact (List.getElem?_eq_some_iff.1 he).1) he⟩, rfl⟩
          · go_wp2
            go_roundg (400 - (c + 1))
            case measure => have := HMK.out; omega
            case rel => exact ⟨c + 1, -1, by go_num, by omega, by omega, rfl, rfl, .inl rfl, rfl⟩
    · have hzb : -1 ≤ z ∧ z < (m : Int) := by omega
      have hcase : ¬ ((c : Int) < (m : Int)) ∨ ((c : Int) < (m : Int) ∧ ¬ ((c : Int) < 400)) ∨ ((c : Int) < (m : Int) ∧ (c : Int) < 400 ∧ ¬ z < 0) := by omega
      clear hgo hz hww hc4 hcm
      rcases hcase with q1 | ⟨q1, q2⟩ | ⟨q1, q2, q3⟩
      all_goals
        go_wp2
        go_loopg [14] N (fun mm i wr => ∃ (k : Nat) (F G : Nat → Prop) (f g : Int → Int) (tr : List Ins), i = .int .i64 (k : Int) ∧ k ≤ N ∧ mm = N - k ∧ Pair w wr F G p q m f g tr ∧ tr.length ≤ k ∧ ∀ c, Free l c → f c = 0 ∧ g c = 0)
        case atStart => exact ⟨0, _, _, _, _, _, by first | rfl | trivial, Nat.zero_le _, by first | rfl | trivial, HB0.out, Nat.le_refl _, fun c _ => ⟨rfl, rfl⟩⟩
        case round =>
          obtain ⟨k, F, G, f, g, tr, rfl, hk, hmk, hbo, htl, hfr⟩ := hrel
          have HMK3 := Lib.hid hmk
          have HBO := Lib.hid hbo
          have HTL := Lib.hid htl
          have HFR := Lib.hid hfr
          clear hmk htl hfr
          by_cases hkN : k < N
          · obtain ⟨x, hx⟩ : ∃ x, l[k]? = some x := ⟨_, List.getElem?_eq_getElem (by rw [HN.out]; omega)⟩
            have hfx := HF.out k x hx
            obtain ⟨ga, off, rfl, hg, z0, z1, z2, z3, z4, z5⟩ := (HL.out.stays hbo.bel).at hx
            have hlx := HL.out
            have HAT := Lib.hid (fun (W : World) (hW : Below w.heap.size w W) => (hlx.stays hW).at hx)
            have HX := Lib.hid hx
            have HFX := Lib.hid hfx
            obtain ⟨o, d, a, b, c', n⟩ := x
            simp only at z0 z1 z2 z3 z4 z5 HAT
            have ho1 := hfx.op
            unfold I64 at ho1
            simp only at ho1
            have i0 : (0 : Int) ≤ (k : Int) := by omega
            have i1 : (k : Int) < (N : Int) := by omega
            clear hx hfx hg hlx
            have tok2 : True := trivial
            by_cases hP : o = 10 ∧ 0 < M
            · obtain ⟨hP1, hP2⟩ := hP
              subst hP1
              obtain ⟨mv, hmv⟩ : ∃ mv, may ⟨10, d, a, b, c', n⟩ m = mv := ⟨_, rfl⟩
              have hn0 : HasO (wr.alloc (.cells #[.int .i64 0, .int .i64 0, .int .i64 0, .int .i64 0, .int .i64 0, .int .u64 0] 71)) wr.heap.size (.cells #[.int .i64 0, .int .i64 0, .int .i64 0, .int .i64 0, .int .i64 0, .int .u64 0] 71 (0, 0)) := has_new _ _ _ _ rfl
              have hst := sto_of (ty := 71) (cs := #[.int .i64 10, .int .i64 d, .int .i64 a, .int .i64 b, .int .i64 c', .int .u64 n]) hn0 (by kernel_rfl) rfl (by simp [Value.oneCell'])
              have hy := has_sto (cs := #[.int .i64 10, .int .i64 d, .int .i64 a, .int .i64 b, .int .i64 c', .int .u64 n]) hn0
              have y0 := cell_of_row _ wr.heap.size 0 _ _ (0, 0) hy
              have y5 := cell_of_row _ wr.heap.size 5 _ _ (0, 0) hy
              have fy5 := frozen_of_row _ wr.heap.size 5 _ _ hy
              have hbv0 : Below wr.heap.size wr (stoW (wr.alloc (.cells #[.int .i64 0, .int .i64 0, .int .i64 0, .int .i64 0, .int .i64 0, .int .u64 0] 71)) (.pointer (some ⟨wr.heap.size, 0, none⟩)) (.agg #[.int .i64 10, .int .i64 d, .int .i64 a, .int .i64 b, .int .i64 c', .int .u64 n])) := below_sto ((Below.refl _ _).alloc (Nat.le_refl _) _) (Nat.le_refl _)
              have hkM : k % M < M := Nat.mod_lt _ hP2
              obtain ⟨gz, oz, hBe, hgz, zz⟩ := (HA.out.stays hbo.bel) (k % M) (by rw [HM.out]; exact hkM)
              have hvu := HAB.out (k % M) hkM
              obtain ⟨v, hv⟩ : ∃ v, zs.getD (k % M) 0 = v := ⟨_, rfl⟩
              rw [hv] at zz hvu
              subst hBe
              have zz2 := cell_sto (cs := #[.int .i64 10, .int .i64 d, .int .i64 a, .int .i64 b, .int .i64 c', .int .u64 n]) (cell_al zz (.cells #[.int .i64 0, .int .i64 0, .int .i64 0, .int .i64 0, .int .i64 0, .int .u64 0] 71)) (show gz ≠ wr.heap.size by omega)
              have hp1 : (0 : Int) < (M : Int) := by omega
              have hp2 : ((M : Int) == 0) = false := by simp; omega
              have htm : (k : Int).tmod (M : Int) = ((k % M : Nat) : Int) := by rw [Int.tmod_eq_emod_of_nonneg (by omega)]; simp
              have hp3 : (0 : Int) ≤ ((k % M : Nat) : Int) := by omega
              have hp4 : ((k % M : Nat) : Int) < (M : Int) := by omega
              obtain ⟨km, hkm⟩ : ∃ km, k % M = km := ⟨_, rfl⟩
              rw [hkm] at zz zz2 htm hp3 hp4
              clear hkm hkM hv hgz zz
              have hdo1 := fun (W : World) (hW : Below wr.heap.size wr W) => do_p (hbo.one.stays hW) ⟨10, d, a, b, c', n⟩ HFX.out hm (by have := HTL.out; omega)
              have hdo2 := fun (W : World) (hW : Kept F wr W) => do_p (hbo.two.kept hW fun b e e' => hbo.off b e' e) ⟨10, d, a, b, c', v⟩ ⟨HFX.out.op, HFX.out.d, HFX.out.a, HFX.out.b, HFX.out.c, hvu⟩ hm (by have := HTL.out; omega)
              unfold RetDo at hdo1 hdo2
              have hmay2 : may ⟨10, d, a, b, c', v⟩ m = mv := (in_may d a b c' n v m).trans hmv
              have hnt2 : nextT ⟨10, d, a, b, c', v⟩ m tr = nextT ⟨10, d, a, b, c', n⟩ m tr := by unfold nextT; rw [in_may d a b c' n v m, in_trc d a b c' n v]
              rw [hmay2, hnt2] at hdo2
              rw [hmv] at hdo1
              unfold insV at hdo1 hdo2
              simp only at hdo1 hdo2
              have hfr2 : ∀ c, Free l c → nextM ⟨10, d, a, b, c', n⟩ m f c = 0 ∧ nextM ⟨10, d, a, b, c', v⟩ m g c = 0 := fun c hc => by
                have hd := hc k _ HX.out
                obtain ⟨h1, h2⟩ := HFR.out c hc
                exact ⟨(next_free hd).trans h1, (next_free (x := ⟨10, d, a, b, c', v⟩) hd).trans h2⟩
              have hlen2 := nextT_len ⟨10, d, a, b, c', n⟩ m tr
              obtain ⟨f', hf'⟩ : ∃ f', nextM ⟨10, d, a, b, c', n⟩ m f = f' := ⟨_, rfl⟩
              obtain ⟨g', hg'⟩ : ∃ g', nextM ⟨10, d, a, b, c', v⟩ m g = g' := ⟨_, rfl⟩
              obtain ⟨t', ht'⟩ : ∃ t', nextT ⟨10, d, a, b, c', n⟩ m tr = t' := ⟨_, rfl⟩
              obtain ⟨v1, hv1⟩ : ∃ v1, toldM ⟨10, d, a, b, c', n⟩ m f = v1 := ⟨_, rfl⟩
              obtain ⟨v2, hv2⟩ : ∃ v2, toldM ⟨10, d, a, b, c', v⟩ m g = v2 := ⟨_, rfl⟩
              rw [hf', ht', hv1] at hdo1
              rw [hg', ht', hv2] at hdo2
              rw [ht'] at hlen2
              have hfr3 : ∀ c, Free l c → f' c = 0 ∧ g' c = 0 := fun c hc => by rw [← hf', ← hg']; exact hfr2 c hc
              have HD1 := Lib.hid hdo1
              have HD2 := Lib.hid hdo2
              have HFR3 := Lib.hid hfr3
              have HLEN2 := Lib.hid hlen2
              have HBXV := Lib.hid (show BoxI ((stoW (wr.alloc (.cells #[.int .i64 0, .int .i64 0, .int .i64 0, .int .i64 0, .int .i64 0, .int .u64 0] 71)) (.pointer (some ⟨wr.heap.size, 0, none⟩)) (.agg #[.int .i64 10, .int .i64 d, .int .i64 a, .int .i64 b, .int .i64 c', .int .u64 n])).setCell ⟨wr.heap.size, 5, none⟩ (.int .u64 v)) wr.heap.size ⟨10, d, a, b, c', v⟩ from heap_setCell_same _ wr.heap.size 5 _ _ (.int .u64 v) hy)
              have HBV := Lib.hid (show Below wr.heap.size wr ((stoW (wr.alloc (.cells #[.int .i64 0, .int .i64 0, .int .i64 0, .int .i64 0, .int .i64 0, .int .u64 0] 71)) (.pointer (some ⟨wr.heap.size, 0, none⟩)) (.agg #[.int .i64 10, .int .i64 d, .int .i64 a, .int .i64 b, .int .i64 c', .int .u64 n])).setCell ⟨wr.heap.size, 5, none⟩ (.int .u64 v)) from Below.setCell (p := ⟨wr.heap.size, 5, none⟩) hbv0 (Nat.le_refl _) (.int .u64 v))
              obtain ⟨ga', off', e', _, s0, s1, s2, s3, s4, s5⟩ := HAT.out _ (hbo.bel.trans (HBV.out.mono hbo.bel.size))
              injection e' with e'
              injection e' with e1 e2 e3
              subst e1 e2
              have HLT := Lib.hid hbo.one.lt
              clear hdo1 hdo2 hfr2 hlen2 hfr3 hmay2 hnt2 hf' hg' ht' hv1 hv2 hbo e3 hmv hn0 hy hbv0
              clear HX HFX HFR HAT
              cases mv
              all_goals
                unfold errM at HD1 HD2
                simp only [if_true, Bool.false_eq_true, if_false] at HD1 HD2
                go_wp2_with (first
                  | (go_at_call 26; first
                      | (have _t := tok2; (with_reducible refine (HD1.out _ HBV.out).mono ?_); rintro e w4 ⟨rfl, F', m4, k4, n4⟩; have K4 := Lib.hid ((Kept.of_below F HBV.out).trans k4 fun b e => .inl e); have hsz4 := HBV.out.size; have N4 := Lib.hid (fun b e => (n4 b e).imp id (fun e' => Nat.le_trans hsz4 e')); have bx4 : BoxI w4 wr.heap.size ⟨10, d, a, b, c', v⟩ := (k4.block _ (lt_of_some HBXV.out) (fun e => by have := HLT.out _ e; omega)).trans HBXV.out; obtain ⟨u0, u1, u2, u3, u4, u5⟩ := bx4.cells; have M4 := Lib.hid m4; clear m4 k4 n4 tok2 bx4 hsz4)
                      | ((with_reducible refine (HD2.out _ K4.out).mono ?_); rintro e w5 ⟨rfl, G', m5, k5, n5⟩; have HB5 := Lib.hid (HBO.out.both M4.out K4.out N4.out m5 k5 n5); clear m5 k5 n5))
                  | fail)
                go_quiet (fail)
                go_wp2
                go_roundg (N - (k + 1))
                case measure => have := HMK3.out; omega
                case rel => exact ⟨k + 1, _, _, _, _, _, by go_num, by omega, rfl, HB5.out.stays (below_dn (Below.refl _ _) nq), Nat.le_trans HLEN2.out (by have := HTL.out; omega), HFR3.out⟩
            · obtain ⟨mv, hmv⟩ : ∃ mv, may ⟨o, d, a, b, c', n⟩ m = mv := ⟨_, rfl⟩
              have hn0 : HasO (wr.alloc (.cells #[.int .i64 0, .int .i64 0, .int .i64 0, .int .i64 0, .int .i64 0, .int .u64 0] 71)) wr.heap.size (.cells #[.int .i64 0, .int .i64 0, .int .i64 0, .int .i64 0, .int .i64 0, .int .u64 0] 71 (0, 0)) := has_new _ _ _ _ rfl
              have hst := sto_of (ty := 71) (cs := #[.int .i64 o, .int .i64 d, .int .i64 a, .int .i64 b, .int .i64 c', .int .u64 n]) hn0 (by kernel_rfl) rfl (by simp [Value.oneCell'])
              have hy := has_sto (cs := #[.int .i64 o, .int .i64 d, .int .i64 a, .int .i64 b, .int .i64 c', .int .u64 n]) hn0
              have y0 := cell_of_row _ wr.heap.size 0 _ _ (0, 0) hy
              have y5 := cell_of_row _ wr.heap.size 5 _ _ (0, 0) hy
              have fy5 := frozen_of_row _ wr.heap.size 5 _ _ hy
              have hbv0 : Below wr.heap.size wr (stoW (wr.alloc (.cells #[.int .i64 0, .int .i64 0, .int .i64 0, .int .i64 0, .int .i64 0, .int .u64 0] 71)) (.pointer (some ⟨wr.heap.size, 0, none⟩)) (.agg #[.int .i64 o, .int .i64 d, .int .i64 a, .int .i64 b, .int .i64 c', .int .u64 n])) := below_sto ((Below.refl _ _).alloc (Nat.le_refl _) _) (Nat.le_refl _)
              have hcases : (o == 10) = false ∨ ((o == 10) = true ∧ ¬ ((0 : Int) < (M : Int))) := by
                by_cases q1 : o = 10
                · exact .inr ⟨by simp [q1], by omega⟩
                · exact .inl (by simp [q1])
              clear hP
              rcases hcases with hq1 | ⟨hq1, hq2⟩
              all_goals
                have hdo1 := fun (W : World) (hW : Below wr.heap.size wr W) => do_p (hbo.one.stays hW) ⟨o, d, a, b, c', n⟩ HFX.out hm (by have := HTL.out; omega)
                have hdo2 := fun (W : World) (hW : Kept F wr W) => do_p (hbo.two.kept hW fun b e e' => hbo.off b e' e) ⟨o, d, a, b, c', n⟩ HFX.out hm (by have := HTL.out; omega)
                unfold RetDo at hdo1 hdo2
                have hmay2 : may ⟨o, d, a, b, c', n⟩ m = mv := hmv
                have hnt2 : nextT ⟨o, d, a, b, c', n⟩ m tr = nextT ⟨o, d, a, b, c', n⟩ m tr := rfl
                rw [hmay2, hnt2] at hdo2
                rw [hmv] at hdo1
                unfold insV at hdo1 hdo2
                simp only at hdo1 hdo2
                have hfr2 : ∀ c, Free l c → nextM ⟨o, d, a, b, c', n⟩ m f c = 0 ∧ nextM ⟨o, d, a, b, c', n⟩ m g c = 0 := fun c hc => by
                  have hd := hc k _ HX.out
                  obtain ⟨h1, h2⟩ := HFR.out c hc
                  exact ⟨(next_free hd).trans h1, (next_free (x := ⟨o, d, a, b, c', n⟩) hd).trans h2⟩
                have hlen2 := nextT_len ⟨o, d, a, b, c', n⟩ m tr
                obtain ⟨f', hf'⟩ : ∃ f', nextM ⟨o, d, a, b, c', n⟩ m f = f' := ⟨_, rfl⟩
                obtain ⟨g', hg'⟩ : ∃ g', nextM ⟨o, d, a, b, c', n⟩ m g = g' := ⟨_, rfl⟩
                obtain ⟨t', ht'⟩ : ∃ t', nextT ⟨o, d, a, b, c', n⟩ m tr = t' := ⟨_, rfl⟩
                obtain ⟨v1, hv1⟩ : ∃ v1, toldM ⟨o, d, a, b, c', n⟩ m f = v1 := ⟨_, rfl⟩
                obtain ⟨v2, hv2⟩ : ∃ v2, toldM ⟨o, d, a, b, c', n⟩ m g = v2 := ⟨_, rfl⟩
                rw [hf', ht', hv1] at hdo1
                rw [hg', ht', hv2] at hdo2
                rw [ht'] at hlen2
                have hfr3 : ∀ c, Free l c → f' c = 0 ∧ g' c = 0 := fun c hc => by rw [← hf', ← hg']; exact hfr2 c hc
                have HD1 := Lib.hid hdo1
                have HD2 := Lib.hid hdo2
                have HFR3 := Lib.hid hfr3
                have HLEN2 := Lib.hid hlen2
                have HBXV := Lib.hid (show BoxI (stoW (wr.alloc (.cells #[.int .i64 0, .int .i64 0, .int .i64 0, .int .i64 0, .int .i64 0, .int .u64 0] 71)) (.pointer (some ⟨wr.heap.size, 0, none⟩)) (.agg #[.int .i64 o, .int .i64 d, .int .i64 a, .int .i64 b, .int .i64 c', .int .u64 n])) wr.heap.size ⟨o, d, a, b, c', n⟩ from hy)
                have HBV := Lib.hid (show Below wr.heap.size wr (stoW (wr.alloc (.cells #[.int .i64 0, .int .i64 0, .int .i64 0, .int .i64 0, .int .i64 0, .int .u64 0] 71)) (.pointer (some ⟨wr.heap.size, 0, none⟩)) (.agg #[.int .i64 o, .int .i64 d, .int .i64 a, .int .i64 b, .int .i64 c', .int .u64 n])) from hbv0)
                obtain ⟨ga', off', e', _, s0, s1, s2, s3, s4, s5⟩ := HAT.out _ (hbo.bel.trans (HBV.out.mono hbo.bel.size))
                injection e' with e'
                injection e' with e1 e2 e3
                subst e1 e2
                have HLT := Lib.hid hbo.one.lt
                clear hdo1 hdo2 hfr2 hlen2 hfr3 hmay2 hnt2 hf' hg' ht' hv1 hv2 hbo e3 hmv hn0 hy hbv0
                clear HX HFX HFR HAT
                cases mv
                all_goals
                  unfold errM at HD1 HD2
                  simp only [if_true, Bool.false_eq_true, if_false] at HD1 HD2
                  go_wp2_with (first
                    | (go_at_call 26; first
                        | (have _t := tok2; (with_reducible refine (HD1.out _ HBV.out).mono ?_); rintro e w4 ⟨rfl, F', m4, k4, n4⟩; have K4 := Lib.hid ((Kept.of_below F HBV.out).trans k4 fun b e => .inl e); have hsz4 := HBV.out.size; have N4 := Lib.hid (fun b e => (n4 b e).imp id (fun e' => Nat.le_trans hsz4 e')); have bx4 : BoxI w4 wr.heap.size ⟨o, d, a, b, c', n⟩ := (k4.block _ (lt_of_some HBXV.out) (fun e => by have := HLT.out _ e; omega)).trans HBXV.out; obtain ⟨u0, u1, u2, u3, u4, u5⟩ := bx4.cells; have M4 := Lib.hid m4; clear m4 k4 n4 tok2 bx4 hsz4)
                        | ((with_reducible refine (HD2.out _ K4.out).mono ?_); rintro e w5 ⟨rfl, G', m5, k5, n5⟩; have HB5 := Lib.hid (HBO.out.both M4.out K4.out N4.out m5 k5 n5); clear m5 k5 n5))
                    | fail)
                  go_quiet (fail)
                  go_wp2
                  go_roundg (N - (k + 1))
                  case measure => have := HMK3.out; omega
                  case rel => exact ⟨k + 1, _, _, _, _, _, by go_num, by omega, rfl, HB5.out.stays (below_dn (Below.refl _ _) nq), Nat.le_trans HLEN2.out (by have := HTL.out; omega), HFR3.out⟩
          · have hkl : k = N := by omega
            subst hkl
            rcases HZ.out with hz1 | ⟨hz1, hz2, hz3⟩
            · subst hz1
              have HPF := Lib.hid hbo
              have HTF : Hid (tr.length ≤ 100000) := Lib.hid (by have := HTL.out; omega)
              generalize wr = wf at *
              generalize F = FF at *
              generalize tr = tf at *
              clear hbo HBO HTL HFR
              have htk := take_p HPF.out.one HTF.out
              have htk2 := fun (W : World) (hW : Kept FF wf W) => take_p (HPF.out.two.kept hW fun b e e' => HPF.out.off b e' e) HTF.out
              obtain ⟨T, hT⟩ : ∃ T, tf.length = T := ⟨_, rfl⟩
              have hsm := fun (W : World) (A1 A2 : Option Addr) (c1 c2 : Nat) (h1 : W.ownsRow 0 71 6 (.slice A1 tf.length c1) tf.length (insL tf)) (h2 : W.ownsRow 0 71 6 (.slice A2 tf.length c2) tf.length (insL tf)) => same_p (c := c1) (c' := c2) (RdI.of_row h1 rfl) (RdI.of_row h2 rfl) HTF.out
              rw [hT] at htk htk2 hsm
              have HTK := Lib.hid htk
              have HTK2 := Lib.hid htk2
              have HSM := Lib.hid hsm
              have tok3 : True := trivial
              clear htk htk2 hsm hT
              go_wp2_with (first
                | (go_at_call 29; first
                    | (have _t := tok3; (with_reducible refine HTK.out.mono ?_); rintro e w6 ⟨v6, rfl, o6, m6, k6⟩; obtain ⟨A6, c6, rfl⟩ := own_formD o6; have O6 := Lib.hid o6; have M6 := Lib.hid m6; have K6 := Lib.hid k6; clear o6 m6 k6 tok3)
                    | ((with_reducible refine (HTK2.out _ K6.out).mono ?_); rintro e w7 ⟨v7, rfl, o7, m7, k7⟩; obtain ⟨A7, c7, rfl⟩ := own_formD o7; have O7 := Lib.hid (own_lower o7 (Nat.zero_le _)); have O67 := Lib.hid (own_lower (own_block O6.out fun b e hb => k7.block b hb fun e' => by have h1 := (World.ownsRow.lt O6.out b e).1; have h2 := HPF.out.two.lt b e'; omega) (Nat.zero_le _)); have B7 := Lib.hid ((HPF.out.bel.trans (K6.out.below HPF.out.bel.size HPF.out.nf)).trans (k7.below (Nat.le_trans HPF.out.bel.size K6.out.size) HPF.out.ng)); clear o7 m7 k7))
                | (go_at_call 28; (with_reducible refine (HSM.out _ _ _ _ _ O67.out O7.out).mono ?_); rintro e w8 ⟨rfl, b8⟩; have B8 := Lib.hid (gro B7.out b8); clear b8)
                | fail)
              go_ret
              exact ⟨rfl, B8.out⟩
            · obtain ⟨zc, rfl⟩ : ∃ zc : Nat, z = (zc : Int) := ⟨z.toNat, by omega⟩
              have hzc : zc < m := by omega
              obtain ⟨hf0, hg0⟩ := HFR.out zc hz3
              have he1 := emit2_p hbo.one zc hzc hm (by have := HTL.out; omega)
              have he2 := fun (W : World) (hW : Kept F wr W) => emit2_p (hbo.two.kept hW fun b e e' => hbo.off b e' e) zc hzc hm (by have := HTL.out; omega)
              rw [hf0] at he1
              rw [hg0] at he2
              have tok4 : True := trivial
              clear hf0 hg0 hz3 HFR hbo
              obtain ⟨tf, htf⟩ : ∃ tf, tr ++ [⟨11, 0, (zc : Int), 0, 0, 0⟩] = tf := ⟨_, rfl⟩
              have htl2 : tf.length ≤ 100000 := by rw [← htf]; have := HTL.out; simp; omega
              rw [htf] at he1 he2
              have HE1 := Lib.hid he1
              have HE2 := Lib.hid he2
              obtain ⟨T, hT⟩ : ∃ T, tf.length = T := ⟨_, rfl⟩
              have HT := Lib.hid hT
              have HTF := Lib.hid htl2
              have tok3 : True := trivial
              clear he1 he2 htf htl2 hT
              go_wp2_with (first
                | (go_at_call 26; first
                    | (have _t := tok4; (with_reducible refine HE1.out.mono ?_); rintro e w4 ⟨rfl, F4, m4, k4, n4⟩; have K4 := Lib.hid k4; have M4 := Lib.hid m4; have N4 := Lib.hid n4; clear m4 k4 n4 tok4)
                    | ((with_reducible refine (HE2.out _ K4.out).mono ?_); rintro e w5 ⟨rfl, G5, m5, k5, n5⟩; have HPF := Lib.hid (HBO.out.both M4.out K4.out N4.out m5 k5 n5); clear m5 k5 n5; have HTK := Lib.hid (take_T HPF.out.one HTF.out HT.out); have HTK2 := Lib.hid (fun (W : World) (hW : Kept F4 w5 W) => take_T (HPF.out.two.kept hW fun b e e' => HPF.out.off b e' e) HTF.out HT.out)))
                | (go_at_call 29; first
                    | (have _t := tok3; (with_reducible refine HTK.out.mono ?_); rintro e w6 ⟨v6, rfl, o6, m6, k6⟩; obtain ⟨A6, c6, rfl⟩ := own_formD o6; have O6 := Lib.hid o6; have M6 := Lib.hid m6; have K6 := Lib.hid k6; clear o6 m6 k6 tok3)
                    | ((with_reducible refine (HTK2.out _ K6.out).mono ?_); rintro e w7 ⟨v7, rfl, o7, m7, k7⟩; obtain ⟨A7, c7, rfl⟩ := own_formD o7; have O7 := Lib.hid (own_lower o7 (Nat.zero_le _)); have O67 := Lib.hid (own_lower (own_block O6.out fun b e hb => k7.block b hb fun e' => by have h1 := (World.ownsRow.lt O6.out b e).1; have h2 := HPF.out.two.lt b e'; omega) (Nat.zero_le _)); have B7 := Lib.hid ((HPF.out.bel.trans (K6.out.below HPF.out.bel.size HPF.out.nf)).trans (k7.below (Nat.le_trans HPF.out.bel.size K6.out.size) HPF.out.ng)); clear o7 m7 k7))
                | (go_at_call 28; (with_reducible refine (same_T HTF.out HT.out O67.out O7.out).mono ?_); rintro e w8 ⟨rfl, b8⟩; have B8 := Lib.hid (gro B7.out b8); clear b8)
                | fail)
              go_ret
              exact ⟨rfl, B8.out⟩
end Go.Proofs.Ytccglhcjbpgipaa
