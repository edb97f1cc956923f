/-
  Several texts of this proof in one file: LangAny, MskSeek, XSub, MskEnd, Bools, MskCover. No statement of its own.
-/
import Derived.Test.YtccbeimcggamiaaDoorMk6
import Derived.Test.YtccbeimcggamiaaDoorMk11
import Derived.Test.YtccbeimcggamiaaDoorMk7
import Derived.Deep.RegionHeld3
import Derived.Lib.MinMax
import Derived.Deep.Cut
import Derived.Deep.CutRange
import Derived.Deep.DeepCutAuto
import Derived.Test.YtccbeimcggamiaaDoorMk1
import Derived.Deep.DrawnRows
import Derived.Deep.LoopGhost
import Derived.Deep.QuietTactic
import Derived.StillTailTactics
import Derived.Test.YtccbeimcggamiaaDoorMk5
set_option linter.unusedVariables false
set_option linter.unusedSimpArgs false

/-
  lang.Any: all bytes of all sets. Contracts for other texts; no statement of its own.
-/
namespace Go.Proofs.YtccbeimcggamiaaDoor
open Go Go.RowKit
attribute [local go_sem ↓] Go.wp_at_zero Go.wp_at_succ

set_option maxRecDepth 20000 in
set_option maxHeartbeats 4000000 in
theorem langany_n : ∀ (N : Nat) (t : T) (w : World) (ok : Nat → Prop) (k : Value), SizeOf.sizeOf t ≤ N → WF t → Tree w ok t k →
    Calls Tryd.prog 80 #[nodeP t k] w (RetSetOf w (anyP t)) := by
  intro N
  induction N with
  | zero => intro t w ok k h; obtain ⟨op, p, lo, hi, l⟩ := t; simp at h
  | succ N ih =>
  intro t w ok k hN hwf ht
  obtain ⟨A, n', c, rfl⟩ := ht.form
  obtain ⟨hn, hm⟩ := ht.bound
  have hlen := hwf.len
  rw [← hn] at hlen
  unfold maxLen at hm
  have b1 := ((Box8.new w t (.slice A n' c)).alloc (.cells #[.int .u64 0, .int .u64 0, .int .u64 0, .int .u64 0] 26)).alloc (.cells #[.int .u64 (word t.set 0), .int .u64 (word t.set 1), .int .u64 (word t.set 2), .int .u64 (word t.set 3)] 26)
  have bR := (Box4.new0 (w.alloc (.cells #[.int .i64 t.op, .int .u64 (word t.set 0), .int .u64 (word t.set 1), .int .u64 (word t.set 2), .int .u64 (word t.set 3), .int .i64 t.lo, .int .i64 t.hi, .slice A n' c] 29))).alloc (.cells #[.int .u64 (word t.set 0), .int .u64 (word t.set 1), .int .u64 (word t.set 2), .int .u64 (word t.set 3)] 26)
  have bS := Box4.new ((w.alloc (.cells #[.int .i64 t.op, .int .u64 (word t.set 0), .int .u64 (word t.set 1), .int .u64 (word t.set 2), .int .u64 (word t.set 3), .int .i64 t.lo, .int .i64 t.hi, .slice A n' c] 29)).alloc (.cells #[.int .u64 0, .int .u64 0, .int .u64 0, .int .u64 0] 26)) t.set
  have hB : Below w.heap.size w (((w.alloc (.cells #[.int .i64 t.op, .int .u64 (word t.set 0), .int .u64 (word t.set 1), .int .u64 (word t.set 2), .int .u64 (word t.set 3), .int .i64 t.lo, .int .i64 t.hi, .slice A n' c] 29)).alloc (.cells #[.int .u64 0, .int .u64 0, .int .u64 0, .int .u64 0] 26)).alloc (.cells #[.int .u64 (word t.set 0), .int .u64 (word t.set 1), .int .u64 (word t.set 2), .int .u64 (word t.set 3)] 26)) := (((Below.refl _ _).alloc (Nat.le_refl _) _).alloc (by simp) _).alloc (by simp; omega) _
  rw [World.size_alloc] at bR bS
  rw [World.size_alloc] at bS
  have HN := Lib.hid hn
  have HT := Lib.hid ht
  have HWF := Lib.hid hwf
  have HB1 := Lib.hid b1
  have HBR := Lib.hid bR
  have HBS := Lib.hid bS
  have IH := Lib.hid ih
  clear hn ih hwf ht b1 bR bS
  unfold nodeP
  go_enter Tryd.func80, Tryd.ntmps80
  go_wp2
  go_loopg [11] n' (fun m i wr => ∃ j : Nat, i = .int .i64 (j : Int) ∧ j ≤ n' ∧ m = n' - j ∧ Box8 wr w.heap.size t (.slice A n' c) ∧ Box4 wr (w.heap.size + 1) noneP ∧ Box4 wr (w.heap.size + 1 + 1) (orP t.set (anyL (t.kids.take j))) ∧ Below w.heap.size w wr)
  case atStart => exact ⟨0, rfl, Nat.zero_le _, rfl, HB1.out, HBR.out, HBS.out.congr fun x _ => by simp [orP, anyL], hB⟩
  case round =>
    obtain ⟨j, rfl, hj, hmj, x1, xR, xS, hW⟩ := hrel
    have HMJ := Lib.hid hmj
    obtain ⟨c0, c1, c2, c3, c4, c5, c6, c7⟩ := x1.cell
    obtain ⟨s0, s1, s2, s3⟩ := xS.cell
    obtain ⟨f0, f1, f2, f3⟩ := xS.frozen
    clear hmj
    by_cases hlt : j < n'
    · have hlt' : j < t.kids.length := by rw [← HN.out]; exact hlt
      obtain ⟨g, B, m1, m2, e1, hg1, htk, hcells⟩ := kid8 HT.out j (List.getElem?_eq_getElem hlt')
      subst e1
      have hks := kid_size t j hlt'
      have hwk := HWF.out.at j hlt'
      have hst := anyL_take t.kids j hlt'
      generalize t.kids[j] = u at *
      have HC : ∀ q v, (nodeC u (.slice B m1 m2))[q]? = some v → wr.cell? ⟨g, j * 8 + q, none⟩ = some v := fun q v h => by rw [Nat.mul_comm j 8]; exact (hW.cell (p := ⟨g, 8 * j + q, none⟩) hg1).trans (hcells q v h)
      have k0 : wr.cell? ⟨g, j * 8, none⟩ = _ := HC 0 _ rfl
      have k1 := HC 1 _ rfl
      have k2 := HC 2 _ rfl
      have k3 := HC 3 _ rfl
      have k4 := HC 4 _ rfl
      have k5 := HC 5 _ rfl
      have k6 := HC 6 _ rfl
      have k7 := HC 7 _ rfl
      have HK := Lib.hid (fun w' (hb : Below wr.heap.size wr w') => IH.out u w' ok (.slice B m1 m2) (by omega) hwk ((htk.stays hW).stays hb))
      have HST := Lib.hid hst
      have j0 : (0 : Int) ≤ (j : Int) := by omega
      have j1 : (j : Int) < (n' : Int) := by omega
      clear HC hcells htk hks hwk hst
      unfold nodeP RetSetOf at HK
      generalize hq : orP t.set (anyL (t.kids.take j)) = q at *
      have HQ := Lib.hid hq
      clear hq
      have hls := xS.lt
      go_wp2_with fail
      go_region_law (first
        | (go_simp; go_at_call 80; (with_reducible refine (HK.out _ (by first | exact ((Below.refl _ _).alloc (Nat.le_refl _) _).drew | exact (Below.refl _ _).alloc (Nat.le_refl _) _)).mono ?_); rintro e w5 ⟨rfl, hb5⟩; unfold setV; have hb5' := undrew hb5; obtain ⟨n0, n1, n2, n3⟩ := ((xS.alloc _).stays hb5').cell)
        | (go_simp; go_at_call 96; (with_reducible refine (or_p q (anyP u) _).mono ?_); rintro e w6 ⟨rfl, hb6⟩; unfold setV; obtain ⟨z0, z1, z2, z3⟩ := (((xS.alloc _).stays hb5').stays hb6).cell; obtain ⟨y0, y1, y2, y3⟩ := (((xS.alloc _).stays hb5').stays hb6).frozen))
      all_goals
        go_wp2
        go_roundg (n' - (j + 1))
        case measure => have := HMJ.out; omega
        case rel =>
          have hz := hW.size
          refine ⟨j + 1, by go_num, by omega, rfl, (((x1.alloc _).stays hb5').stays hb6).put4 (by omega) _, (((xR.alloc _).stays hb5').stays hb6).putFar (by omega) _, ((((xS.alloc _).stays hb5').stays hb6).put (orP q (anyP u))).congr (fun x _ => ?_), below_put4 (gro (gro1 hW hb5') hb6) (by omega) _⟩
          rw [← HQ.out]
          simp [orP, HST.out x, Bool.or_assoc]
    · have hjn : j = t.kids.length := by rw [← HN.out]; omega
      have hwhole : t.kids.take j = t.kids := by rw [hjn]; exact List.take_length
      rw [hwhole, ← anyP_eq] at xS
      clear s0 s1 s2 s3 f0 f1 f2 f3
      obtain ⟨s0, s1, s2, s3⟩ := xS.cell
      obtain ⟨r0, r1, r2, r3⟩ := xR.frozen
      obtain ⟨r4, r5, r6, r7⟩ := xR.cell
      have hz := hW.size
      have hlr := xR.lt
      go_wp2
      have y := (xR.put (anyP t)).cell
      unfold put4 at y
      obtain ⟨y0, y1, y2, y3⟩ := y
      refine bodyPost_ret (v := setV (anyP t)) ?_ rfl ⟨rfl, below_put4 (g := w.heap.size + 1) hW (by omega) (anyP t)⟩
      unfold setV
      simp [results, Tryd.results80, go_sem, y0, y1, y2, y3]

theorem langany_p {t : T} {k : Value} {ok : Nat → Prop} (w : World) (hwf : WF t) (ht : Tree w ok t k) : Calls Tryd.prog 80 #[nodeP t k] w (RetSetOf w (anyP t)) :=
  langany_n _ t w ok k (Nat.le_refl _) hwf ht

end Go.Proofs.YtccbeimcggamiaaDoor

/-
  mask.seek: those that look for rules are laid. Contracts for other texts; no statement of its own.
-/
namespace Go.Proofs.YtccbeimcggamiaaDoor
open Go Go.RowKit
attribute [local go_sem ↓] Go.wp_at_zero Go.wp_at_succ
attribute [local go_sem ↓] run_stoE
attribute [local go_sem ↓] run_stoM

theorem Tryd.infoSk : (Tryd.prog.info? 130).map (fun i => (i.zero, i.size, i.bytes)) = some (some (.agg #[.int .i64 0, .int .u64 0, .int .u64 0, .int .u64 0, .int .u64 0, .int .i64 0, .int .i64 0, .slice none 0 0, .bool false, .int .i64 0, .int .i64 0, .int .u64 0, .int .u64 0, .int .u64 0, .int .u64 0, .int .i64 0]), 16, 144) := by kernel_rfl

set_option maxRecDepth 20000 in
set_option maxHeartbeats 2000000 in
theorem mseek_p {w : World} {A : Option Addr} {c : Nat} {l : List (T × Bool)} {lam : Int} (hl : RdRules w A l) (hwf : ∀ r ∈ l, WF r.1) (hn : l.length ≤ 100000) :
    Calls Tryd.prog 52 #[.slice A l.length c, .int .i64 lam] w fun e w' => ∃ g S, e = .returned (.slice (some ⟨g, 0, none⟩) l.length l.length) ∧ SkRow w' w.heap.size g S ∧ SksFor S l lam ∧ (∀ s ∈ S, s.stop = 0) ∧ Below w.heap.size w w' := by
  obtain ⟨L, hL⟩ : ∃ L, l.length = L := ⟨_, rfl⟩
  rw [hL] at hn ⊢
  obtain ⟨i0, hi, hi0, hi1, hi2⟩ := info_parts Tryd.infoSk
  obtain ⟨wm, hmk, hown, hgm⟩ := run_make_full (P := Tryd.prog) w w.heap.size 127 130 i0 _ 16 Tryd.underlying127 hi hi0 hi1 .i64 .i64 L (by rw [hi2]; omega) (by unfold maxLen; omega) (Nat.le_refl _)
  have hbm : Below w.heap.size w wm := (Below.refl _ _).grown hgm (Nat.le_refl _) fun q e => by cases e
  have hu0 : SkRow wm w.heap.size w.heap.size (List.replicate L sk0) := by
    rw [sks_made] at hown
    refine ⟨List.replicate L (.slice none 0 0), by simp, by simpa using hown, fun i s k e1 e2 => ?_⟩
    rw [List.getElem?_replicate] at e1 e2
    split at e1
    · rename_i h
      rw [if_pos h] at e2
      injection e1 with e1
      injection e2 with e2
      subst e1 e2
      exact .nil _ rfl
    · cases e1
  have HL := Lib.hid hl
  have HW := Lib.hid hwf
  have HLL := Lib.hid hL
  have HU := Lib.hid hu0
  have HBM := Lib.hid hbm
  clear hl hwf hL hu0 hbm hown hgm
  go_enter Tryd.func52, Tryd.ntmps52
  go_wp2
  go_loopg [15] L (fun m i wr => ∃ k : Nat, i = .int .i64 (k : Int) ∧ k ≤ L ∧ m = L - k ∧ Below w.heap.size w wr ∧ ∃ S, S.length = L ∧ SkRow wr w.heap.size w.heap.size S ∧ ∀ (j : Nat) s r, j < k → S[j]? = some s → l[j]? = some r → s.r = r ∧ s.least = leastN r.1 ∧ s.most = mostN lam r.1 ∧ s.any = anyP r.1 ∧ s.stop = 0)
  case atStart => exact ⟨0, by first | rfl | trivial, Nat.zero_le _, by first | rfl | trivial, HBM.out, List.replicate L sk0, by simp, HU.out, fun j s r h => by omega⟩
  case round =>
    obtain ⟨k, rfl, hk, hmk, hB, S, hSl, hS, hD⟩ := hrel
    have HMK := Lib.hid hmk
    have HB := Lib.hid hB
    have HSL := Lib.hid hSl
    have HS := Lib.hid hS
    have HD := Lib.hid hD
    have hgs := hS.in
    clear hmk hB hSl hS hD
    by_cases hkL : k < L
    · have hkl : k < l.length := by rw [HLL.out]; exact hkL
      obtain ⟨r, hr⟩ : ∃ r, l[k]? = some r := ⟨_, List.getElem?_eq_getElem hkl⟩
      have hrm : r ∈ l := List.mem_of_getElem? hr
      obtain ⟨g, off, kk, e1, hg, hc, ht⟩ := (HL.out.stays HB.out) k r hr
      have HR := Lib.hid hr
      have hwf := HW.out r hrm
      obtain ⟨A', n', c', rfl⟩ := ht.form
      have x0 : wr.cell? ⟨g, off + k * 9, none⟩ = some (.int .i64 r.1.op) := hc 0 _ rfl
      have x1 := hc 1 _ rfl
      have x2 := hc 2 _ rfl
      have x3 := hc 3 _ rfl
      have x4 := hc 4 _ rfl
      have x5 := hc 5 _ rfl
      have x6 := hc 6 _ rfl
      have x7 := hc 7 _ rfl
      have x8 := hc 8 _ rfl
      have k0 : (0 : Int) ≤ (k : Int) := by omega
      have k1 : (k : Int) < (L : Int) := by omega
      subst e1
      have HT := Lib.hid ht
      have HWF := Lib.hid hwf
      clear hc ht hr hrm hwf
      go_upto_region 5 with fail
      generalize hw1 : wr.alloc (.cells #[.int .i64 r.1.op, .int .u64 (word r.1.set 0), .int .u64 (word r.1.set 1), .int .u64 (word r.1.set 2), .int .u64 (word r.1.set 3), .int .i64 r.1.lo, .int .i64 r.1.hi, .slice A' n' c', .bool r.2] 65) = w1 at *
      have hb1 : Below wr.heap.size wr w1 := by rw [← hw1]; exact (Below.refl _ _).alloc (Nat.le_refl _) _
      have hs1 : w1.heap.size = wr.heap.size + 1 := by rw [← hw1]; simp
      have hx1 : RuleBox 65 w1 wr.heap.size r (.slice A' n' c') := by rw [← hw1]; exact RuleBox.new _ _ _ _
      have HX1 := Lib.hid hx1
      have HB1 := Lib.hid hb1
      have HS1 := Lib.hid hs1
      have HT1 := Lib.hid (HT.out.stays hb1)
      have HKL := Lib.hid (fun w' (hb : Below w1.heap.size w1 w') => (least_p w' HWF.out (HT1.out.stays hb)).mono fun e w'' h => (show _ ∧ Below w'.heap.size w' w'' ∧ RuleBox 65 w'' wr.heap.size r (.slice A' n' c') from ⟨h.1, h.2, HX1.out.stays (gro hb h.2)⟩))
      have HKA := Lib.hid (fun w' (hb : Below w1.heap.size w1 w') => (langany_p w' HWF.out (HT1.out.stays hb)).mono fun e w'' h => (show _ ∧ Below w'.heap.size w' w'' ∧ RuleBox 65 w'' wr.heap.size r (.slice A' n' c') from ⟨h.1, h.2, HX1.out.stays (gro hb h.2)⟩))
      have HKM := Lib.hid (fun w' (hb : Below w1.heap.size w1 w') => (most_p w' HWF.out (HT1.out.stays hb)).mono fun e w'' h => (show _ ∧ Below w'.heap.size w' w'' ∧ RuleBox 65 w'' wr.heap.size r (.slice A' n' c') from ⟨h.1, h.2, HX1.out.stays (gro hb h.2)⟩))
      unfold nodeP at HKL HKA HKM
      unfold setV at HKA
      have hlt1 : wr.heap.size < w1.heap.size := by omega
      have hn1 : wr.heap.size ≠ w1.heap.size := by omega
      obtain ⟨y0, y1, y2, y3, y4, y5, y6, y7, y8⟩ := hx1.cell
      have HSTO : Hid (∀ (W : World) (b : Nat) (s0 : Sk) (k0 : Value), SkBox W b s0 k0 → Sto 130 W (.pointer (some ⟨b, 0, none⟩)) (.agg #[.int .i64 r.1.op, .int .u64 (word r.1.set 0), .int .u64 (word r.1.set 1), .int .u64 (word r.1.set 2), .int .u64 (word r.1.set 3), .int .i64 r.1.lo, .int .i64 r.1.hi, .slice A' n' c', .bool r.2, .int .i64 (max 1 (lenN false r.1 : Int)), .int .i64 lam, .int .u64 (word (anyP r.1) 0), .int .u64 (word (anyP r.1) 1), .int .u64 (word (anyP r.1) 2), .int .u64 (word (anyP r.1) 3), .int .i64 0])) := fun W b s0 k0 h => sto_sk h ⟨r, max 1 (lenN false r.1 : Int), lam, anyP r.1, 0⟩ A' n' c'
      clear hw1 hb1 hx1 hs1 x0 x1 x2 x3 x4 x5 x6 x7 x8
      go_cut [8] from 20 to 29 (fun s8 wx => ∃ b, s8 = .pointer (some ⟨b, 0, none⟩) ∧ SkBox wx b ⟨r, leastN r.1, lam, anyP r.1, 0⟩ (.slice A' n' c') ∧ Below w1.heap.size w1 wx ∧ w1.heap.size ≤ b)
      case first =>
        go_region_held3 (fun w' => w'.cell? ⟨wr.heap.size, 0, none⟩ = some (.int .i64 r.1.op) ∧ w'.cell? ⟨wr.heap.size, 1, none⟩ = some (.int .u64 (word r.1.set 0)) ∧ w'.cell? ⟨wr.heap.size, 2, none⟩ = some (.int .u64 (word r.1.set 1)) ∧ w'.cell? ⟨wr.heap.size, 3, none⟩ = some (.int .u64 (word r.1.set 2)) ∧ w'.cell? ⟨wr.heap.size, 4, none⟩ = some (.int .u64 (word r.1.set 3)) ∧ w'.cell? ⟨wr.heap.size, 5, none⟩ = some (.int .i64 r.1.lo) ∧ w'.cell? ⟨wr.heap.size, 6, none⟩ = some (.int .i64 r.1.hi) ∧ w'.cell? ⟨wr.heap.size, 7, none⟩ = some (.slice A' n' c') ∧ w'.cell? ⟨wr.heap.size, 8, none⟩ = some (.bool r.2))
          (refine ⟨?_, ?_, ?_, ?_, ?_, ?_, ?_, ?_, ?_⟩ <;> (repeat (first | with_reducible assumption | with_reducible refine cell_dr ?_ | with_reducible refine cell_al ?_ _ | with_reducible refine cell_sto ?_ ?_))) (first
          | (go_at_call 79; (with_reducible refine (HKL.out _ (by repeat (first | with_reducible exact Below.refl _ _ | with_reducible refine below_al ?_ rfl _ | with_reducible refine Below.drew ?_))).mono ?_); rintro e5 w5 ⟨rfl, b5, x5⟩; obtain ⟨z0, z1, z2, z3, z4, z5, z6, z7, z8⟩ := x5.cell; have BB5 := Lib.hid b5; have hn5 : wr.heap.size ≠ w5.heap.size := (by have := b5.size; simp only [World.size_alloc, World.size_drew] at this; omega); (first | (have q5 : SkBox w5 w1.heap.size sk0 (.slice none 0 0) := SkBox.stays (show SkBox (World.drew (w1.alloc (.cells #[.int .i64 0, .int .u64 0, .int .u64 0, .int .u64 0, .int .u64 0, .int .i64 0, .int .i64 0, .slice none 0 0, .bool false, .int .i64 0, .int .i64 0, .int .u64 0, .int .u64 0, .int .u64 0, .int .u64 0, .int .i64 0] 130))) w1.heap.size sk0 (.slice none 0 0) from SkBox.drew (SkBox.new0 w1)) (by with_reducible exact b5); have QQ := Lib.hid q5; clear q5) | skip); clear x5 b5)
          | (go_at_call 80; (with_reducible refine (HKA.out _ (by repeat (first | with_reducible exact Below.refl _ _ | with_reducible refine below_al ?_ rfl _ | with_reducible refine Below.drew ?_ | with_reducible refine gro ?_ BB5.out))).mono ?_); rintro e6 w6 ⟨rfl, b6, x6⟩; obtain ⟨z0, z1, z2, z3, z4, z5, z6, z7, z8⟩ := x6.cell; have BB6 := Lib.hid b6; have hn6 : wr.heap.size ≠ w6.heap.size := (by have := b6.size; have := BB5.out.size; simp only [World.size_alloc, World.size_drew] at *; omega); (first | (have q6 : SkBox w6 w1.heap.size sk0 (.slice none 0 0) := QQ.out.stays (by with_reducible exact b6); have st6 := HSTO.out w6 w1.heap.size _ _ (q6); have QQ6 := Lib.hid q6; clear q6) | (have q6 : SkBox w6 w5.heap.size sk0 (.slice none 0 0) := SkBox.stays (SkBox.new0 w5) (by with_reducible exact b6); have st6 := HSTO.out w6 w5.heap.size _ _ (q6); have QQ6 := Lib.hid q6; clear q6) | (have st6 := HSTO.out _ _ _ _ (SkBox.new0 w6))); clear x6 b6)
          | fail)
        all_goals
          go_wp2
          go_meet
          have hs5 := BB5.out.size
          have hs6 := BB6.out.size
          simp only [World.size_alloc, World.size_drew] at hs5 hs6
          refine ⟨_, rfl, SkBox.sto (s0 := sk0) (k0 := .slice none 0 0) ?_ ⟨r, leastN r.1, lam, anyP r.1, 0⟩ (.slice A' n' c'), below_sto ?_ ?_, ?_⟩
          · first
              | with_reducible exact QQ6.out
              | exact SkBox.new0 _
          · repeat (first | with_reducible exact Below.refl _ _ | with_reducible refine below_al ?_ rfl _ | with_reducible refine Below.drew ?_ | with_reducible refine gro ?_ BB6.out | with_reducible refine gro ?_ BB5.out)
          · omega
          · omega
      case rest =>
        obtain ⟨b, rfl, bk, bc, hle⟩ := hcut
        have HBK := Lib.hid bk
        have HBC := Lib.hid bc
        obtain ⟨y0, y1, y2, y3, y4, y5, y6, y7, y8⟩ := (HX1.out.stays bc).cell
        obtain ⟨d, hd⟩ : ∃ d, lenN true r.1 = d := ⟨_, rfl⟩
        have HD1 := Lib.hid hd
        rw [hd] at HKM
        have hbS : Below wr.heap.size wr wc := gro HB1.out bc
        obtain ⟨s0, hs0⟩ : ∃ s0, S[k]? = some s0 := ⟨_, List.getElem?_eq_getElem (by rw [HSL.out]; exact hkL)⟩
        have hne : b ≠ w.heap.size := by have := HS1.out; omega
        have HS0 := Lib.hid hs0
        have HBS := Lib.hid hbS
        clear bk bc hd hbS hs0 HKL HKA
        have hsz := HS.out.in
        have hkS : k < S.length := by rw [HSL.out]; exact hkL
        have HKS := Lib.hid hkS
        have hb2 : w.heap.size ≤ b := by have := HS1.out; omega
        have key : ∀ (w7 W : World) (mo : Int), Below wc.heap.size wc w7 → mo = mostN lam r.1 → (W = w7 ∨ W = w7.setCell ⟨b, 10, none⟩ (.int .i64 mo)) →
            StoM 130 W (.pointer (some ⟨w.heap.size, k * 16, none⟩)) (.agg #[.int .i64 r.1.op, .int .u64 (word r.1.set 0), .int .u64 (word r.1.set 1), .int .u64 (word r.1.set 2), .int .u64 (word r.1.set 3), .int .i64 r.1.lo, .int .i64 r.1.hi, .slice A' n' c', .bool r.2, .int .i64 (leastN r.1), .int .i64 mo, .int .u64 (word (anyP r.1) 0), .int .u64 (word (anyP r.1) 1), .int .u64 (word (anyP r.1) 2), .int .u64 (word (anyP r.1) 3), .int .i64 0]) ∧
            (Below w.heap.size w (stoM W (.pointer (some ⟨w.heap.size, k * 16, none⟩)) (.agg #[.int .i64 r.1.op, .int .u64 (word r.1.set 0), .int .u64 (word r.1.set 1), .int .u64 (word r.1.set 2), .int .u64 (word r.1.set 3), .int .i64 r.1.lo, .int .i64 r.1.hi, .slice A' n' c', .bool r.2, .int .i64 (leastN r.1), .int .i64 mo, .int .u64 (word (anyP r.1) 0), .int .u64 (word (anyP r.1) 1), .int .u64 (word (anyP r.1) 2), .int .u64 (word (anyP r.1) 3), .int .i64 0])) ∧ ∃ S, S.length = L ∧ SkRow (stoM W (.pointer (some ⟨w.heap.size, k * 16, none⟩)) (.agg #[.int .i64 r.1.op, .int .u64 (word r.1.set 0), .int .u64 (word r.1.set 1), .int .u64 (word r.1.set 2), .int .u64 (word r.1.set 3), .int .i64 r.1.lo, .int .i64 r.1.hi, .slice A' n' c', .bool r.2, .int .i64 (leastN r.1), .int .i64 mo, .int .u64 (word (anyP r.1) 0), .int .u64 (word (anyP r.1) 1), .int .u64 (word (anyP r.1) 2), .int .u64 (word (anyP r.1) 3), .int .i64 0])) w.heap.size w.heap.size S ∧ ∀ (j : Nat) s r, j < k + 1 → S[j]? = some s → l[j]? = some r → s.r = r ∧ s.least = leastN r.1 ∧ s.most = mostN lam r.1 ∧ s.any = anyP r.1 ∧ s.stop = 0) := by
          intro w7 W mo b7 hmo hW
          have r7 := (HS.out.stays HBS.out).stays b7
          have h7 := HB.out.trans ((gro HBS.out b7).mono HB.out.size)
          have rW : SkRow W w.heap.size w.heap.size S ∧ Below w.heap.size w W ∧ Tree W (fun _ => True) r.1 (.slice A' n' c') := by
            rcases hW with rfl | rfl
            · exact ⟨r7, h7, (HT1.out.stays HBC.out).stays b7⟩
            · exact ⟨r7.far (HBK.out.stays b7) hne 10 _, h7.setCell hb2 _, ((HT1.out.stays HBC.out).stays b7).mono fun b' _ _ ⟨cur, hc⟩ => ⟨Below.heap_setCell _ _ _ _ fun e => by
                have e' : b' = b := e
                subst e'
                exact kind_apart (HBK.out.stays b7) hc (by decide) rfl, trivial⟩⟩
          refine ⟨rW.1.stoM HKS.out ⟨r, leastN r.1, mo, anyP r.1, 0⟩ A' n' c', below_stoM (s := ⟨r, leastN r.1, mo, anyP r.1, 0⟩) rW.2.1 (Nat.le_refl _), _, by rw [List.length_set]; exact HSL.out, rW.1.setM HKS.out ⟨r, leastN r.1, mo, anyP r.1, 0⟩ (.slice A' n' c') rW.2.2, fun j s r' hj e1 e2 => ?_⟩
          rw [List.getElem?_set] at e1
          by_cases e : k = j
          · subst e
            rw [if_pos rfl, if_pos HKS.out] at e1
            injection e1 with e1
            rw [HR.out] at e2
            injection e2 with e2
            subst e1 e2
            exact ⟨rfl, rfl, hmo, rfl, rfl⟩
          · rw [if_neg e] at e1
            exact HD.out j s r' (by omega) e1 e2
        have KEY := Lib.hid key
        clear key
        by_cases hdl : (d : Int) < 1000
        · have hmo : min lam (d : Int) = mostN lam r.1 := by unfold mostN; rw [HD1.out, if_pos (by omega)]
          have HMO := Lib.hid (fun _ : Unit => hmo)
          clear hmo
          go_wp2_with (first
            | (go_at_call 81; (with_reducible refine (HKM.out _ HBC.out).mono ?_); rintro e7 w7 ⟨rfl, b7, x7⟩; have bk7 := HBK.out.stays b7; obtain ⟨p0, p1, p2, p3, p4, p5, p6, p7, p8, p9, p10, p11, p12, p13, p14, p15⟩ := bk7.cell; obtain ⟨f0, f1, f2, f3, f4, f5, f6, f7, f8, f9, f10, f11, f12, f13, f14, f15⟩ := bk7.frozen; have st7 := (KEY.out w7 _ (min lam (d : Int)) b7 (HMO.out ()) (.inr rfl)).1; have BB7 := Lib.hid b7; clear x7 b7 bk7)
            | fail)
          go_roundg (L - (k + 1))
          case measure => have := HMK.out; omega
          case rel => exact ⟨k + 1, by go_num, by omega, rfl, (KEY.out w7 _ (min lam (d : Int)) BB7.out (HMO.out ()) (.inr rfl)).2⟩
        · have hmo : lam = mostN lam r.1 := by unfold mostN; rw [HD1.out, if_neg (by omega)]
          have HMO := Lib.hid (fun _ : Unit => hmo)
          clear hmo
          go_wp2_with (first
            | (go_at_call 81; (with_reducible refine (HKM.out _ HBC.out).mono ?_); rintro e7 w7 ⟨rfl, b7, x7⟩; have bk7 := HBK.out.stays b7; obtain ⟨p0, p1, p2, p3, p4, p5, p6, p7, p8, p9, p10, p11, p12, p13, p14, p15⟩ := bk7.cell; have st7 := (KEY.out w7 _ lam b7 (HMO.out ()) (.inl rfl)).1; have BB7 := Lib.hid b7; clear x7 b7 bk7)
            | fail)
          go_roundg (L - (k + 1))
          case measure => have := HMK.out; omega
          case rel => exact ⟨k + 1, by go_num, by omega, rfl, (KEY.out w7 _ lam BB7.out (HMO.out ()) (.inl rfl)).2⟩
    · have hkl : k = L := by omega
      subst hkl
      go_wp2
      go_ret
      refine ⟨_, S, rfl, ?_, ⟨by rw [HSL.out, HLL.out], fun i s r e1 e2 => ?_⟩, fun s hs => ?_, HB.out⟩
      · exact HS.out
      · have hi := (List.getElem?_eq_some_iff.1 e1).1
        rw [HSL.out] at hi
        have := HD.out i s r hi e1 e2
        exact ⟨this.1, this.2.1, this.2.2.1, this.2.2.2.1⟩
      · obtain ⟨i, hi, rfl⟩ := List.mem_iff_getElem.1 hs
        have hi' := hi
        rw [HSL.out] at hi'
        exact (HD.out i _ (l[i]'(by rw [HLL.out]; exact hi')) hi' (List.getElem?_eq_getElem hi) (List.getElem?_eq_getElem _)).2.2.2.2

end Go.Proofs.YtccbeimcggamiaaDoor

/-
  Bytes from a up to b, as they are read. Laws for other texts; no statement of its own.
-/
namespace Go.Proofs.YtccbeimcggamiaaDoor
open Go Go.RowKit

theorem RdB.sub {w : World} {C b off : Nat} {xs : List Int} (h : RdB w C (some ⟨b, off, none⟩) xs) {a z : Nat} (hz : z ≤ xs.length) : RdB w C (some ⟨b, off + a, none⟩) (Go.Proofs.YtccbeimcggamiaaDoor.sub xs a z) := fun k hk => by
  rw [sub_len hz] at hk
  obtain ⟨b', off', e, hb, hc⟩ := h (a + k) (by omega)
  injection e with e
  injection e with e1 e2
  subst e1 e2
  refine ⟨b, off + a, rfl, hb, ?_⟩
  rw [sub_getD (by omega) hz, Nat.add_assoc]
  exact hc
end Go.Proofs.YtccbeimcggamiaaDoor

/-
  mask: how far the longest of what begins at a byte goes. Contracts for other texts; no statement of its own.
-/
namespace Go.Proofs.YtccbeimcggamiaaDoor
open Go Go.RowKit
attribute [local go_sem ↓] Go.wp_at_zero Go.wp_at_succ

set_option maxHeartbeats 1000000 in
theorem skhas_p (p : Nat → Bool) (b : Int) (w : World) (g o : Nat) (hc : ∀ q, q < 4 → w.cell? ⟨g, o + q, none⟩ = some (.int .u64 (word p q))) (hb : 0 ≤ b) (hb' : b ≤ 255) :
    Calls Tryd.prog 82 #[.pointer (some ⟨g, o, none⟩), .int .u8 b] w fun e w' => e = .returned (.bool (p b.toNat)) ∧ w' = w := by
  have hq : (b / 64).toNat < 4 := by omega
  have hv := hc (b / 64).toNat hq
  have H := has_bits p b hb hb'
  rw [← H]
  clear H
  have i0 : (0 : Int) ≤ b / 64 := by omega
  have i1 : b / 64 < 4 := by omega
  go_enter Tryd.func82, Tryd.ntmps82
  go_wp2
  go_ret
  exact ⟨rfl, rfl⟩

theorem kept_dn {Q : Nat → Prop} {a w : World} (h : Kept Q a w) (n : Nat) : Kept Q a (w.drewN n) := ⟨h.os, h.tape, h.output, h.size, h.block⟩
/-- What a look tells, and leaves. -/
def RetLook (w : World) (C g : Nat) (S : List Sk) (i : Nat) (s : Sk) (lam : Int) (xs : List Int) (a known : Nat) (e : Ending) (w' : World) : Prop :=
  ∃ (e' : Nat) (n : Nat), e = .returned (.int .i64 e') ∧ SkRow w' C g (S.set i { s with stop := (n : Int) }) ∧ Kept (fun b => b = g) w w' ∧ (n ≤ xs.length ∧ ∀ k, a ≤ k → k < n → s.any (xs.getD k 0).toNat = true) ∧ Longest lam xs s.r a known e'

set_option maxRecDepth 20000 in
set_option maxHeartbeats 4000000 in
theorem mend_p {w : World} {C g i c : Nat} {S : List Sk} {s : Sk} {lam : Int} {xs : List Int} {A : Option Addr} {a known : Nat} (hS : SkRow w C g S) (hi : S[i]? = some s) (hwf : WF s.r.1) (hl : s.least = leastN s.r.1) (hm : s.most = mostN lam s.r.1) (hany : s.any = anyP s.r.1)
    (hst : ∃ n : Nat, s.stop = (n : Int) ∧ n ≤ xs.length ∧ ∀ k, a ≤ k → k < n → s.any (xs.getD k 0).toNat = true) (hrd : RdB w C A xs) (hby : byteOk xs) (hlen : xs.length ≤ 100000) (hcap : xs.length ≤ c) (hC : C ≤ w.heap.size) (htab : Tab w) (htC : 0 < C) (ha : a < xs.length) (hkn : known ≤ xs.length)
    (hlam : -9223372036854775808 ≤ lam ∧ lam ≤ 9223372036854775807) :
    Calls Tryd.prog 53 #[.pointer (some ⟨g, i * 16, none⟩), .slice A xs.length c, .int .i64 a, .int .i64 known] w (RetLook w C g S i s lam xs a known) := by
  obtain ⟨n0, hn0, hn0l, hn0a⟩ := hst
  obtain ⟨L, hL⟩ : ∃ L, xs.length = L := ⟨_, rfl⟩
  obtain ⟨k0, ht, hc⟩ := hS.at hi
  have q15 : w.cell? ⟨g, i * 16 + 15, none⟩ = some (.int .i64 s.stop) := hc 15 _ rfl
  have z15 := hS.frozen (i * 16 + 15)
  rw [hn0] at q15
  have hmx : max (n0 : Int) (a : Int) = ((max n0 a : Nat) : Int) := by omega
  have hS1 := hS.stop hi ((max n0 a : Nat) : Int)
  have hB1 : Kept (fun b => b = g) w (w.setCell ⟨g, i * 16 + 15, none⟩ (.int .i64 ((max n0 a : Nat) : Int))) := (Kept.refl (fun b => b = g) w).setCell (a := ⟨g, i * 16 + 15, none⟩) (.inl rfl) _
  have hm1 : max n0 a ≤ L := by omega
  have hm2 : ∀ k, a ≤ k → k < max n0 a → s.any (xs.getD k 0).toNat = true := fun k h1 h2 => hn0a k h1 (by omega)
  have hm3 : a ≤ max n0 a := by omega
  generalize hm0 : max n0 a = m0 at *
  generalize hW1 : w.setCell ⟨g, i * 16 + 15, none⟩ (.int .i64 (m0 : Int)) = W1 at *
  have hgl := hS.in
  have HS := Lib.hid hS
  have HI := Lib.hid hi
  have HWF := Lib.hid hwf
  have HL1 := Lib.hid hl
  have HM1 := Lib.hid hm
  have HANY := Lib.hid hany
  have HRD := Lib.hid hrd
  have HBY := Lib.hid hby
  have HTB := Lib.hid htab
  have HS1 := Lib.hid hS1
  have HB1 := Lib.hid hB1
  have HM2 := Lib.hid hm2
  have HLL := Lib.hid hL
  have HTC := Lib.hid htC
  have HCW := Lib.hid hC
  have HHAS : Hid (∀ (W : World) (x : Int), (∀ q, q < 4 → W.cell? ⟨g, i * 16 + 11 + q, none⟩ = some (.int .u64 (word s.any q))) → 0 ≤ x → x ≤ 255 → Calls Tryd.prog 82 #[.pointer (some ⟨g, i * 16 + 11, none⟩), .int .u8 x] W fun e w' => e = .returned (.bool (s.any x.toNat)) ∧ w' = W) := fun W x h h1 h2 => skhas_p s.any x W g (i * 16 + 11) h h1 h2
  rw [hL] at hlen hcap ha hkn ⊢
  obtain ⟨b, off, rfl, hbC, hxa⟩ := HRD.out a (by rw [HLL.out]; exact ha)
  clear hxa
  clear hS hi hwf hl hm hany hrd hby htab hS1 hB1 hm2 hL hn0 hn0l hn0a ht hc htC hC hm0
  go_enter Tryd.func53, Tryd.ntmps53
  go_wp2
  have hiS : i < S.length := (List.getElem?_eq_some_iff.1 HI.out).1
  have hget : ∀ x : Int, (S.set i { s with stop := x })[i]? = some { s with stop := x } := fun x => by rw [List.getElem?_set, if_pos rfl, if_pos hiS]
  have HGET := Lib.hid hget
  have hset : ∀ x y : Int, (S.set i { s with stop := x }).set i { s with stop := y } = S.set i { s with stop := y } := fun x y => List.set_set ..
  have HSET := Lib.hid hset
  clear hget hset hiS hmx hW1 q15 z15
  go_loopg [] (L - m0) (fun m wr => ∃ n : Nat, m0 ≤ n ∧ n ≤ L ∧ m = L - n ∧ SkRow wr C g (S.set i { s with stop := (n : Int) }) ∧ Kept (fun b => b = g) w wr ∧ ∀ k, a ≤ k → k < n → s.any (xs.getD k 0).toNat = true)
  case atStart => exact ⟨m0, Nat.le_refl _, hm1, rfl, HS1.out, HB1.out, HM2.out⟩
  case round =>
    obtain ⟨n, hn1, hn2, hmk, hr, hb, ha2⟩ := hrel
    obtain ⟨k1, ht1, hc1⟩ := hr.at (HGET.out n)
    have c15 : wr.cell? ⟨g, i * 16 + 15, none⟩ = some (.int .i64 (n : Int)) := hc1 15 _ rfl
    have z15 := hr.frozen (i * 16 + 15)
    have c9 : wr.cell? ⟨g, i * 16 + 9, none⟩ = some (.int .i64 s.least) := hc1 9 _ rfl
    have c10 : wr.cell? ⟨g, i * 16 + 10, none⟩ = some (.int .i64 s.most) := hc1 10 _ rfl
    have HHW := Lib.hid (fun (m : Nat) (x : Int) (h0 : 0 ≤ x) (h1 : x ≤ 255) => HHAS.out (wr.drewN m) x (fun q hq => by
      match q, hq with
      | 0, _ => exact hc1 11 _ rfl
      | 1, _ => exact hc1 12 _ rfl
      | 2, _ => exact hc1 13 _ rfl
      | 3, _ => exact hc1 14 _ rfl) h0 h1)
    have HMK := Lib.hid hmk
    have HR := Lib.hid hr
    have HB := Lib.hid hb
    have HA2 := Lib.hid ha2
    have HT1 := Lib.hid ht1
    have HC1 := Lib.hid hc1
    clear hmk hr hb ha2 ht1 hc1
    by_cases hgo : n < L ∧ s.any (xs.getD n 0).toNat = true
    · obtain ⟨hnL, hsx⟩ := hgo
      have hx := (HRD.out.below (HB.out.below HCW.out fun b e => by subst e; exact hgl.1)) n (by rw [HLL.out]; exact hnL)
      obtain ⟨b', off', eb, -, hx1⟩ := hx
      injection eb with eb
      injection eb with eb1 eb2
      subst eb1 eb2
      have hb2 := HBY.out n (by rw [HLL.out]; exact hnL)
      have HSX := Lib.hid hsx
      obtain ⟨x, hxe⟩ : ∃ x, xs.getD n 0 = x := ⟨_, rfl⟩
      rw [hxe] at hx1 hb2 hsx
      have n0' : (0 : Int) ≤ (n : Int) := by omega
      have n1' : (n : Int) < (L : Int) := by omega
      have HHX := Lib.hid (fun m => HHW.out m x hb2.1 hb2.2)
      rw [hsx] at HHX
      clear hsx hxe
      go_wp2
      go_quiet ((go_at_call 82; exact Calls.quiet_of_same (HHX.out _)))
      go_wp2
      go_roundg (L - (n + 1))
      case measure => have := HMK.out; omega
      case rel =>
        have hst := (HR.out.stays (below_dn (Below.refl _ _) nq)).stop (HGET.out n) ((n + 1 : Nat) : Int)
        rw [HSET.out] at hst
        have e1 : ((n + 1 : Nat) : Int) = (n : Int) + 1 := by omega
        rw [e1] at hst
        refine ⟨n + 1, by omega, by omega, rfl, by rw [e1]; exact hst, (kept_dn HB.out nq).setCell (a := ⟨g, i * 16 + 15, none⟩) (.inl rfl) _, fun k h1 h2 => ?_⟩
        by_cases hk : k = n
        · subst hk; exact HSX.out
        · exact HA2.out k h1 (by omega)
    · have hfar0 : ∀ b, a < b → b ≤ L → (b : Int) - a ≤ lam → Fit xs s.r a b → (b : Int) - a ≤ min s.most ((n : Int) - a) := by
        intro b h1 h2 h3 h4
        obtain ⟨-, q2, q3⟩ := fit_look HWF.out h1 (by rw [HLL.out]; exact h2) h3 h4
        rw [← HM1.out] at q2
        rw [← HANY.out] at q3
        have : b ≤ n := by
          apply Classical.byContradiction
          intro hbn
          exact hgo ⟨by omega, q3 n (by omega) (by omega)⟩
        omega
      have hml : s.most ≤ lam ∧ -9223372036854775808 ≤ s.most := by
        rw [HM1.out]
        unfold mostN
        split <;> omega
      have hl1 : 1 ≤ s.least := by rw [HL1.out]; unfold leastN; omega
      have HFAR0 := Lib.hid hfar0
      have HGO := Lib.hid hgo
      clear hfar0 hgo
      by_cases hnL : n < L
      case' pos =>
        have hx := (HRD.out.below (HB.out.below HCW.out fun b e => by subst e; exact hgl.1)) n (by rw [HLL.out]; exact hnL)
        obtain ⟨b', off', eb, -, hx1⟩ := hx
        injection eb with eb
        injection eb with eb1 eb2
        subst eb1 eb2
        have hb2 := HBY.out n (by rw [HLL.out]; exact hnL)
        obtain ⟨x, hxe⟩ : ∃ x, xs.getD n 0 = x := ⟨_, rfl⟩
        have hsx : s.any x.toNat = false := by
          rw [← hxe]
          cases h : s.any (xs.getD n 0).toNat
          · rfl
          · exact absurd ⟨hnL, h⟩ HGO.out
        rw [hxe] at hx1 hb2
        have n0' : (0 : Int) ≤ (n : Int) := by omega
        have n1' : (n : Int) < (L : Int) := by omega
        have HHX := Lib.hid (fun m => HHW.out m x hb2.1 hb2.2)
        rw [hsx] at HHX
        clear hsx hxe
        go_wp2
        go_quiet ((go_at_call 82; exact Calls.quiet_of_same (HHX.out _)))
        go_wp2
      case' neg =>
        go_wp2
        go_quiet (fail)
        go_wp2
      all_goals
        have HR2 := Lib.hid (HR.out.stays (below_dn (Below.refl _ _) nq))
        have HB2 := Lib.hid (kept_dn HB.out nq)
        go_quiet (fail)
        go_wp2
        have HR3 := Lib.hid (HR2.out.stays (below_dn (Below.refl _ _) nq))
        have HB3 := Lib.hid (kept_dn HB2.out nq)
        go_loopg [9] ((min s.most ((n : Int) - a)).toNat) (fun m v wr => ∃ z : Int, v = .int .i64 z ∧ z ≤ (n : Int) - a ∧ z ≤ s.most ∧ -9223372036854775808 ≤ z ∧ m = z.toNat ∧ (∀ b, a < b → b ≤ L → (b : Int) - a ≤ lam → Fit xs s.r a b → (b : Int) - a ≤ z) ∧ SkRow wr C g (S.set i { s with stop := (n : Int) }) ∧ Kept (fun b => b = g) w wr)
        case atStart => exact ⟨_, by first | rfl | trivial, by omega, by omega, by omega, by first | rfl | trivial, HFAR0.out, HR3.out, HB3.out⟩
        case round =>
          obtain ⟨z, rfl, hz1, hz2, hz3, hmk2, hfar, hr, hb⟩ := hrel
          obtain ⟨kv, ht1, hc1⟩ := hr.at (HGET.out n)
          obtain ⟨Ak, nk, ck, rfl⟩ := ht1.form
          have c0 : wr.cell? ⟨g, i * 16, none⟩ = some (.int .i64 s.r.1.op) := hc1 0 _ rfl
          have c1 : wr.cell? ⟨g, i * 16 + 1, none⟩ = some (.int .u64 (word s.r.1.set 0)) := hc1 1 _ rfl
          have c2 : wr.cell? ⟨g, i * 16 + 2, none⟩ = some (.int .u64 (word s.r.1.set 1)) := hc1 2 _ rfl
          have c3 : wr.cell? ⟨g, i * 16 + 3, none⟩ = some (.int .u64 (word s.r.1.set 2)) := hc1 3 _ rfl
          have c4 : wr.cell? ⟨g, i * 16 + 4, none⟩ = some (.int .u64 (word s.r.1.set 3)) := hc1 4 _ rfl
          have c5 : wr.cell? ⟨g, i * 16 + 5, none⟩ = some (.int .i64 s.r.1.lo) := hc1 5 _ rfl
          have c6 : wr.cell? ⟨g, i * 16 + 6, none⟩ = some (.int .i64 s.r.1.hi) := hc1 6 _ rfl
          have c7 : wr.cell? ⟨g, i * 16 + 7, none⟩ = some (.slice Ak nk ck) := hc1 7 _ rfl
          have c8 : wr.cell? ⟨g, i * 16 + 8, none⟩ = some (.bool s.r.2) := hc1 8 _ rfl
          have c9' : wr.cell? ⟨g, i * 16 + 9, none⟩ = some (.int .i64 s.least) := hc1 9 _ rfl
          have HMK2 := Lib.hid hmk2
          have HFAR := Lib.hid hfar
          have HRW := Lib.hid hr
          have HBW := Lib.hid hb
          have HTW := Lib.hid ht1
          clear hmk2 hfar hr hb ht1 hc1
          by_cases h1 : s.least ≤ z
          · obtain ⟨zn, rfl⟩ : ∃ zn : Nat, z = (zn : Int) := ⟨z.toNat, by omega⟩
            have hzL : a + zn ≤ L := by omega
            by_cases h2 : (known : Int) < (a : Int) + (zn : Int)
            · obtain ⟨bv, hbv⟩ : ∃ bv : Bool, (bv = true ↔ Fit xs s.r a (a + zn)) := by
                by_cases hF : Fit xs s.r a (a + zn)
                · exact ⟨true, by simp [hF]⟩
                · exact ⟨false, by simp [hF]⟩
              have HBV := Lib.hid hbv
              have hfit : ∀ W, Below wr.heap.size wr W → Calls Tryd.prog 19 #[ruleP s.r (.slice Ak nk ck), .slice (some ⟨b, off + a, none⟩) zn (c - a)] W fun e w' => e = .returned (.bool bv) ∧ Below W.heap.size W w' := fun W hW => by
                have hz' : a + zn ≤ xs.length := by rw [HLL.out]; exact hzL
                have hwW := (HBW.out.below HCW.out fun b e => by subst e; exact hgl.1).trans (hW.mono (Nat.le_trans HCW.out HBW.out.size))
                have hh := mfits_p (w := W) (c := c - a) (r := s.r) HWF.out (HTW.out.stays hW) (((HRD.out.sub (a := a) (z := a + zn) hz').below hwW).more (Nat.le_trans HCW.out hwW.size)) (byteOk_sub HBY.out hz') (by rw [sub_len hz']; omega) (HTB.out.below hwW HTC.out)
                rw [sub_len hz', show a + zn - a = zn by omega] at hh
                refine hh.mono fun e w' ⟨b', e1, e2, e3⟩ => ⟨?_, e3⟩
                rw [e1]
                have hf := fit_sub (xs := xs) HWF.out (a := a) (b := a + zn) (by omega) hz'
                rw [show a + zn - a = zn by omega] at hf
                rw [show b' = bv from Bool.eq_iff_iff.2 ((e2.trans hf.symm).trans HBV.out.symm)]
              unfold ruleP at hfit
              have HFIT := Lib.hid hfit
              have hac : ¬ c = a := by omega
              have hza : a + zn - a = zn := by omega
              have ht1 : ((a : Int) + (zn : Int)).toNat = a + zn := by omega
              have ht2 : IntKind.i64.wrap ((a : Int) + (zn : Int)) = (a : Int) + (zn : Int) := IntWalk.i64_in _ (by omega)
              have ht3 : (a : Int) + (zn : Int) ≤ (c : Int) := by omega
              have ht4 : (a : Int) ≤ (a : Int) + (zn : Int) := by omega
              have ht5 : a + zn ≤ c := by omega
              have ht6 : (0 : Int) ≤ (a : Int) + (zn : Int) := by omega
              have ht7 : a ≤ c := by omega
              clear hfit hbv
              have hwc1 : a + zn ≤ L := hzL
              cases bv
              · go_wp2
                go_still_tail 10, (by kernel_rfl)
                change wpList _ _ _ _ _ (World.drew _)
                go_wp2_with (go_at_call 19; (with_reducible refine (HFIT.out _ (Below.refl _ _).drew).mono ?_); rintro e w5 ⟨rfl, hb5⟩; have HB5 := Lib.hid (undrew hb5); clear hb5)
                go_roundg ((((zn : Int) - 1)).toNat)
                case measure => have := HMK2.out; omega
                case rel =>
                  refine ⟨(zn : Int) - 1, by first | rfl | go_num, by omega, by omega, by omega, rfl, fun z h3 h4 h5 h6 => ?_, HRW.out.stays HB5.out, HBW.out.trans (Kept.of_below (fun _ => False) HB5.out) fun b q => q.elim⟩
                  have h7 := HFAR.out z h3 h4 h5 h6
                  have hne : z ≠ a + zn := fun e => by
                    subst e
                    exact absurd (HBV.out.2 h6) (by decide)
                  omega
              · go_wp2
                go_still_tail 10, (by kernel_rfl)
                change wpList _ _ _ _ _ (World.drew _)
                go_wp2_with (go_at_call 19; (with_reducible refine (HFIT.out _ (Below.refl _ _).drew).mono ?_); rintro e w5 ⟨rfl, hb5⟩; have HB5 := Lib.hid (undrew hb5); clear hb5)
                go_ret
                refine ⟨a + zn, n, by first | rfl | go_num, HRW.out.stays HB5.out, HBW.out.trans (Kept.of_below (fun _ => False) HB5.out) fun b q => q.elim, ⟨by rw [HLL.out]; omega, HA2.out⟩, by omega, .inr ⟨by omega, by rw [HLL.out]; omega, by omega, HBV.out.1 (by simp)⟩, fun z h3 h4 h5 h6 => ?_⟩
                have h7 := HFAR.out z h3 (by rw [← HLL.out]; exact h4) h5 h6
                omega
            · go_wp2
              go_ret
              refine ⟨known, n, rfl, HRW.out, HBW.out, ⟨by rw [HLL.out]; omega, HA2.out⟩, Nat.le_refl _, .inl rfl, fun z h3 h4 h5 h6 => ?_⟩
              have h7 := HFAR.out z h3 (by rw [← HLL.out]; exact h4) h5 h6
              omega
          · go_wp2
            go_ret
            refine ⟨known, n, rfl, HRW.out, HBW.out, ⟨by rw [HLL.out]; omega, HA2.out⟩, Nat.le_refl _, .inl rfl, fun z h3 h4 h5 h6 => ?_⟩
            have h7 := HFAR.out z h3 (by rw [← HLL.out]; exact h4) h5 h6
            have h8 := (fit_look HWF.out h3 h4 h5 h6).1
            have h9 := HL1.out
            omega
end Go.Proofs.YtccbeimcggamiaaDoor

/-
  A row of truths in memory. Laws for other texts; no statement of its own.
-/
namespace Go.Proofs.YtccbeimcggamiaaDoor
open Go Go.RowKit

def boolsV (n : Nat) (F : Nat → Bool) : List Value := (List.range n).map fun j => .bool (F j)
theorem boolsV_at (n : Nat) (F : Nat → Bool) (j : Nat) (h : j < n) : (boolsV n F)[j]? = some (.bool (F j)) := by simp [boolsV, h]
theorem boolsV_congr {n : Nat} {F G : Nat → Bool} (h : ∀ j, j < n → F j = G j) : boolsV n F = boolsV n G := by
  apply List.ext_getElem?
  intro j
  by_cases hj : j < n
  · rw [boolsV_at _ _ _ hj, boolsV_at _ _ _ hj, h j hj]
  · rw [List.getElem?_eq_none (by simp [boolsV]; omega), List.getElem?_eq_none (by simp [boolsV]; omega)]
theorem boolsV_set (n : Nat) (F : Nat → Bool) (p : Nat) (h : p < n) (b : Bool) : (boolsV n F).set p (.bool b) = boolsV n (fun j => if j = p then b else F j) := by
  apply List.ext_getElem?
  intro j
  rw [List.getElem?_set]
  by_cases hj : j < n
  · rw [boolsV_at _ _ _ hj, boolsV_at _ _ _ hj]
    by_cases e : p = j
    · subst e; simp [boolsV, hj]
    · have e' : ¬ j = p := fun x => e x.symm
      simp [e, e']
  · have e : ¬ p = j := by omega
    rw [if_neg e, List.getElem?_eq_none (by simp [boolsV]; omega), List.getElem?_eq_none (by simp [boolsV]; omega)]
/-- A row of truths in memory of one's own. -/
def Bools (w : World) (C g n : Nat) (F : Nat → Bool) : Prop := w.ownsRow C 4 1 (.slice (some ⟨g, 0, none⟩) n n) n (boolsV n F)
section
variable {w w' : World} {C g n : Nat} {F G : Nat → Bool}
theorem Bools.cell (h : Bools w C g n F) (j : Nat) (hj : j < n) : w.cell? ⟨g, j, none⟩ = some (.bool (F j)) := by
  rw [World.ownsRow.cellAt h j (by omega), boolsV_at _ _ _ hj]
theorem Bools.frozen (h : Bools w C g n F) (j : Nat) : w.frozen? ⟨g, j, none⟩ = false := World.ownsRow.frozenAt h j
theorem Bools.in (h : Bools w C g n F) : C ≤ g ∧ g < w.heap.size := World.ownsRow.lt h g rfl
theorem Bools.kind (h : Bools w C g n F) : ∃ cur, w.heap[g]? = some (.cells cur 4 (0, 0)) := own_kind h rfl
theorem Bools.block (h : Bools w C g n F) (hb : w'.heap[g]? = w.heap[g]?) : Bools w' C g n F := own_block h fun b e _ => by injection e with e; subst e; exact hb
theorem Bools.stays (h : Bools w C g n F) (hb : Below w.heap.size w w') : Bools w' C g n F := h.block (hb.block g h.in.2)
theorem Bools.off {Q : Nat → Prop} (h : Bools w C g n F) (hk : Kept Q w w') (hq : ¬ Q g) : Bools w' C g n F := h.block (hk.block g h.in.2 hq)
theorem Bools.congr (h : Bools w C g n F) (hc : ∀ j, j < n → F j = G j) : Bools w C g n G := by
  unfold Bools at h ⊢
  rw [← boolsV_congr hc]
  exact h
theorem Bools.set (h : Bools w C g n F) (p : Nat) (hp : p < n) (b : Bool) : Bools (w.setCell ⟨g, p, none⟩ (.bool b)) C g n (fun j => if j = p then b else F j) := by
  have := (World.ownsRow.stored h p (.bool b)).1
  rw [boolsV_set n F p hp] at this
  exact this
end
theorem bools_made (n : Nat) : (madeCells (Value.bool false).cells (n * 1)).toList = boolsV n fun _ => false := by
  apply List.ext_getElem?
  intro j
  by_cases hj : j < n
  · rw [boolsV_at _ _ _ hj]
    simp [madeCells, Value.cells, hj, Nat.mod_one]
  · rw [List.getElem?_eq_none (by simp [madeCells, Value.cells]; omega), List.getElem?_eq_none (by simp [boolsV]; omega)]

end Go.Proofs.YtccbeimcggamiaaDoor

/-
  mask.Cover: which bytes are covered. Contracts for other texts; no statement of its own.
-/
namespace Go.Proofs.YtccbeimcggamiaaDoor
open Go Go.RowKit
attribute [local go_sem ↓] Go.wp_at_zero Go.wp_at_succ

theorem Tryd.infoBoolC : (Tryd.prog.info? 4).map (fun i => (i.zero, i.size, i.bytes)) = some (some (.bool false), 1, 1) := by kernel_rfl
/-- What stands while bytes are gone through. -/
structure CovSt (w wr : World) (g o : Nat) (l : List (T × Bool)) (lam : Int) (xs : List Int) (a : Nat) (S : List Sk) (F : Nat → Bool) : Prop where
  row : SkRow wr w.heap.size g S
  sks : SksFor S l lam
  stop : ∀ (j : Nat) s, S[j]? = some s → ∃ n : Nat, s.stop = (n : Int) ∧ n ≤ xs.length ∧ ∀ k, a ≤ k → k < n → s.any (xs.getD k 0).toNat = true
  out : Bools wr w.heap.size o xs.length F
  below : Below w.heap.size w wr
theorem CovSt.look {w wr w' : World} {g o : Nat} {l : List (T × Bool)} {lam : Int} {xs : List Int} {a k n : Nat} {S : List Sk} {F : Nat → Bool} {s : Sk} (h : CovSt w wr g o l lam xs a S F) (hk : S[k]? = some s) (ho : o ≠ g) (hg : w.heap.size ≤ g)
    (hr : SkRow w' w.heap.size g (S.set k { s with stop := (n : Int) })) (hkp : Kept (fun b => b = g) wr w') (hn : n ≤ xs.length ∧ ∀ j, a ≤ j → j < n → s.any (xs.getD j 0).toNat = true) : CovSt w w' g o l lam xs a (S.set k { s with stop := (n : Int) }) F := by
  have hkl : k < S.length := (List.getElem?_eq_some_iff.1 hk).1
  refine ⟨hr, ⟨by rw [List.length_set]; exact h.sks.1, fun i s' r e1 e2 => ?_⟩, fun j s' e1 => ?_, h.out.off hkp ho, h.below.trans (hkp.below h.below.size fun b e => by subst e; exact hg)⟩
  · rw [List.getElem?_set] at e1
    by_cases e : k = i
    · subst e
      rw [if_pos rfl, if_pos hkl] at e1
      injection e1 with e1
      subst e1
      exact h.sks.2 k s r hk e2
    · rw [if_neg e] at e1
      exact h.sks.2 i s' r e1 e2
  · rw [List.getElem?_set] at e1
    by_cases e : k = j
    · subst e
      rw [if_pos rfl, if_pos hkl] at e1
      injection e1 with e1
      subst e1
      exact ⟨n, rfl, hn⟩
    · rw [if_neg e] at e1
      exact h.stop j s' e1
theorem CovSt.next {w wr : World} {g o : Nat} {l : List (T × Bool)} {lam : Int} {xs : List Int} {a : Nat} {S : List Sk} {F : Nat → Bool} (h : CovSt w wr g o l lam xs a S F) (b : Bool) (ha : a < xs.length) (ho : w.heap.size ≤ o) (hne : o ≠ g) :
    CovSt w (wr.setCell ⟨o, a, none⟩ (.bool b)) g o l lam xs (a + 1) S (fun j => if j = a then b else F j) := by
  refine ⟨?_, h.sks, fun j s e => ?_, h.out.set a ha b, h.below.setCell ho _⟩
  · refine h.row.off ((Kept.refl (fun x => x = o) wr).setCell (a := ⟨o, a, none⟩) (.inl rfl) _) fun b' e _ => ?_
    subst e
    obtain ⟨cur, hc⟩ := h.out.kind
    exact ⟨cur, _, hc, by decide, by decide⟩
  · obtain ⟨n, h1, h2, h3⟩ := h.stop j s e
    exact ⟨n, h1, h2, fun k hk1 hk2 => h3 k (by omega) hk2⟩

/-- What Cover tells. -/
def RetCov (w : World) (n : Nat) (P : Nat → Prop) (e : Ending) (w' : World) : Prop := ∃ g F, e = .returned (.slice (some ⟨g, 0, none⟩) n n) ∧ Bools w' w.heap.size g n F ∧ (∀ j, j < n → (F j = true ↔ P j)) ∧ Below w.heap.size w w'

set_option maxRecDepth 20000 in
set_option maxHeartbeats 4000000 in
theorem mcover_p {w : World} {A B : Option Addr} {cl cx : Nat} {l : List (T × Bool)} {lam : Int} {xs : List Int} (hl : RdRules w A l) (hwf : ∀ r ∈ l, WF r.1) (hn : l.length ≤ 100000) (hrd : RdB w w.heap.size B xs) (hby : byteOk xs) (hlen : xs.length ≤ 100000) (hcap : xs.length ≤ cx) (htab : Tab w)
    (hlam : -9223372036854775808 ≤ lam ∧ lam ≤ 9223372036854775807) :
    Calls Tryd.prog 22 #[.slice A l.length cl, .int .i64 lam, .slice B xs.length cx] w (RetCov w xs.length (Cov l lam xs)) := by
  have hsk := mseek_p (lam := lam) (c := cl) hl hwf hn
  obtain ⟨N, hN⟩ : ∃ N, l.length = N := ⟨_, rfl⟩
  obtain ⟨L, hL⟩ : ∃ L, xs.length = L := ⟨_, rfl⟩
  rw [hN] at hsk hn ⊢
  rw [hL] at hlen hcap ⊢
  have HSK := Lib.hid hsk
  have HWF := Lib.hid hwf
  have HRD := Lib.hid hrd
  have HBY := Lib.hid hby
  have HTB := Lib.hid htab
  have HNN := Lib.hid hN
  have HLL := Lib.hid hL
  clear hsk hl hwf hrd hby htab hN hL
  obtain ⟨i0, hi, hi0, hi1, hi2⟩ := info_parts Tryd.infoBoolC
  go_enter Tryd.func22, Tryd.ntmps22
  go_wp2_with (go_at_call 52; (with_reducible refine HSK.out.mono ?_); rintro e w1 ⟨g, S, rfl, hS, hF, h0, hb1⟩; have HS := Lib.hid hS; have HF := Lib.hid hF; have H0 := Lib.hid h0; have HB1 := Lib.hid hb1; obtain ⟨wm, hmk, hown, hgm⟩ := run_make_full (P := Tryd.prog) w1 w.heap.size 34 4 i0 _ 1 Tryd.underlying34 hi hi0 hi1 .i64 .i64 L (by rw [hi2]; omega) (by unfold maxLen; omega) hb1.size; rw [bools_made] at hown; have HO : Hid (Bools wm w.heap.size w1.heap.size L fun _ => false) := hown; have HGM := Lib.hid hgm; clear hS hF h0 hb1 hown hgm)
  have hgS := HS.out.in
  have hw1 := HB1.out.size
  have hne : w1.heap.size ≠ g := by omega
  have HST : Hid (CovSt w wm g w1.heap.size l lam xs 0 S fun _ => false) := ⟨HS.out.off ((Kept.refl (fun _ => False) w1).grown HGM.out fun b e => by cases e) fun b q => q.elim, HF.out, fun j s e => ⟨0, H0.out s (List.mem_of_getElem? e), Nat.zero_le _, fun k h1 h2 => by omega⟩, by rw [HLL.out]; exact HO.out, (HB1.out.grown HGM.out hw1 fun q e => by cases e)⟩
  go_loopg [9, 20] L (fun m v i wr => ∃ (a e : Nat) (S : List Sk) (F : Nat → Bool), v = .int .i64 (e : Int) ∧ i = .int .i64 (a : Int) ∧ a ≤ L ∧ m = L - a ∧ e ≤ L ∧ CovSt w wr g w1.heap.size l lam xs a S F ∧ Reach l lam xs a e ∧ ∀ j, j < a → (F j = true ↔ Cov l lam xs j))
  case atStart => exact ⟨0, 0, S, fun _ => false, by first | rfl | trivial, by first | rfl | trivial, Nat.zero_le _, by first | rfl | trivial, Nat.zero_le _, HST.out, Reach.start _ _ _, fun j hj => by omega⟩
  case round =>
    obtain ⟨a, e, S1, F, rfl, rfl, haL, hmk, heL, hst, hre, hcv⟩ := hrel
    have HMK := Lib.hid hmk
    have HST1 := Lib.hid hst
    have HRE := Lib.hid hre
    have HCV := Lib.hid hcv
    clear hmk hst hre hcv
    generalize wr = wo at *
    by_cases ha : a < L
    · have a0 : (0 : Int) ≤ (a : Int) := by omega
      have a1 : (a : Int) < (L : Int) := by omega
      go_wp2
      go_loopg [9, 25] N (fun m v i wr => ∃ (k e : Nat) (S : List Sk), v = .int .i64 (e : Int) ∧ i = .int .i64 (k : Int) ∧ k ≤ N ∧ m = N - k ∧ e ≤ L ∧ CovSt w wr g w1.heap.size l lam xs a S F ∧ ReachK l lam xs a k e)
      case atStart => exact ⟨0, e, S1, by first | rfl | trivial, by first | rfl | trivial, Nat.zero_le _, by first | rfl | trivial, heL, HST1.out, HRE.out.k⟩
      case round =>
        obtain ⟨k, e1, S2, rfl, rfl, hkN, hmk2, heL1, hst2, hre2⟩ := hrel
        have HMK2 := Lib.hid hmk2
        have HST2 := Lib.hid hst2
        have HRE2 := Lib.hid hre2
        clear hmk2 hst2 hre2
        by_cases hk : k < N
        · have hkl : k < l.length := by rw [HNN.out]; exact hk
          have hkS : k < S2.length := by rw [HST2.out.sks.1]; exact hkl
          obtain ⟨s, hs⟩ : ∃ s, S2[k]? = some s := ⟨_, List.getElem?_eq_getElem hkS⟩
          obtain ⟨f1, f2, f3, f4⟩ := HST2.out.sks.2 k s _ hs (List.getElem?_eq_getElem hkl)
          have hend := mend_p (c := cx) (a := a) (known := e1) (lam := lam) (A := B) (xs := xs) HST2.out.row hs (by rw [f1]; exact HWF.out _ (List.getElem_mem hkl)) (by rw [f1]; exact f2) (by rw [f1]; exact f3) (by rw [f1]; exact f4) (HST2.out.stop k s hs) (HRD.out.below HST2.out.below) HBY.out (by rw [HLL.out]; exact hlen) (by rw [HLL.out]; exact hcap) HST2.out.below.size (HTB.out.below HST2.out.below HTB.out.1) HTB.out.1 (by rw [HLL.out]; exact ha) (by rw [HLL.out]; exact heL1) hlam
          rw [HLL.out] at hend
          unfold RetLook at hend
          have HEND := Lib.hid hend
          have HSS := Lib.hid hs
          have HF1 := Lib.hid (fun _ : Unit => f1)
          have k0 : (0 : Int) ≤ (k : Int) := by omega
          have k1 : (k : Int) < (N : Int) := by omega
          clear hend hs f1 f2 f3 f4
          go_wp2_with (go_at_call 53; (with_reducible refine HEND.out.mono ?_); rintro e5 w5 ⟨e', n, rfl, r5, k5, n5, l5⟩; have R5 := Lib.hid r5; have K5 := Lib.hid k5; have N5 := Lib.hid n5; have L5 := Lib.hid l5; clear r5 k5 n5 l5)
          go_roundg (N - (k + 1))
          case measure => have := HMK2.out; omega
          case rel =>
            have l5 := L5.out
            rw [HF1.out ()] at l5
            have he' : e' ≤ L := by
              have := l5.is
              rw [HLL.out] at this
              omega
            refine ⟨k + 1, e', _, by first | rfl | go_num, by go_num, by omega, rfl, he', HST2.out.look HSS.out hne hgS.1 R5.out K5.out (by rw [← HLL.out] at *; exact N5.out), HRE2.out.step hkl l5⟩
        · have hkl : k = N := by omega
          subst hkl
          have hre3 := HRE2.out
          rw [← HNN.out] at hre3
          have hre4 := hre3.next
          have HRE4 := Lib.hid hre4
          have o1 := (HST2.out.out.cell a (by rw [HLL.out]; exact ha))
          have o2 := (HST2.out.out.frozen a)
          clear hre3 hre4
          go_wp2
          go_roundg (L - (a + 1))
          case measure => have := HMK.out; omega
          case rel =>
            refine ⟨a + 1, e1, S2, _, rfl, by go_num, by omega, rfl, heL1, HST2.out.next _ (by rw [HLL.out]; exact ha) hw1 hne, HRE4.out, fun j hj => ?_⟩
            by_cases e : j = a
            · subst e
              rw [if_pos rfl, decide_eq_true_iff]
              rw [← HRE4.out.cov]
            · rw [if_neg e]
              exact HCV.out j (by omega)
    · have hal : a = L := by omega
      subst hal
      go_wp2
      go_ret
      have ho := HST1.out.out
      rw [HLL.out] at ho
      exact ⟨_, F, rfl, ho, HCV.out, HST1.out.below⟩
end Go.Proofs.YtccbeimcggamiaaDoor
