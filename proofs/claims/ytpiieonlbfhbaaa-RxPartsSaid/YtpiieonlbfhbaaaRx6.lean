/-
  The program's reader of patterns (package rx): items. Contracts for other texts; no statement of its own.
-/
import Derived.Test.YtpiieonlbfhbaaaRx5
import Derived.Deep.RegionLaw
set_option linter.unusedVariables false
set_option linter.unusedSimpArgs false
namespace Go.Proofs.Ytpiieonlbfhbaaa
open Go Go.RowKit
attribute [local go_sem ↓] Go.wp_at_zero Go.wp_at_succ

/-- Behind the bracket that opens: where the first item begins. -/
def cNeg (s : ByteArray) (pos : Nat) : Bool := isB s (pos + 1) 94
def cFirst (s : ByteArray) (pos : Nat) : Nat := if cNeg s pos = true then pos + 2 else pos + 1

set_option maxRecDepth 20000 in
set_option maxHeartbeats 4000000 in
theorem xskipNeg (w : World) (g : Nat) (s : ByteArray) (pos : Nat) (opn : Int) (h : Rx w g s (pos + 1) opn) (hs : s.size ≤ 1000) (hp : pos + 1 ≤ s.size) :
    Calls Try.prog 20 #[.pointer (some ⟨g, 0, none⟩), .string ⟨#[94]⟩] w fun e w' => e = .returned (.bool (cNeg s pos)) ∧ Rx w' g s (cFirst s pos) opn ∧ w.grownBy w' (some g) := by
  unfold cFirst
  cases hn : cNeg s pos
  · exact xskip1_no w g s (pos + 1) opn h hs hp 94 94 rfl hn
  · exact xskip1_yes w g s (pos + 1) opn h hs hp 94 94 rfl hn
theorem cFirst_le {s : ByteArray} {pos : Nat} (hp : pos + 1 ≤ s.size) : cFirst s pos ≤ s.size := by
  unfold cFirst
  split
  · rename_i h
    exact (isB_lt h).1
  · exact hp
theorem class_eq (s : ByteArray) (pos : Nat) : cClass s (pos + 1) = thenR (thenR (cItem s (cFirst s pos)) (loopR (clsStep s) (s.size + 1))) fun q p => .ok (if cNeg s pos = true then notP q else q, p + 1) := by
  unfold cClass cFirst cNeg
  rfl

set_option maxRecDepth 20000 in
set_option maxHeartbeats 4000000 in
theorem xitems_err (w : World) (g : Nat) (s : ByteArray) (pos : Nat) (opn : Int) (h : Rx w g s pos opn) (hs : s.size ≤ 1000) (hp : pos < s.size) (c q : Int) (hi : cItem s (cFirst s pos) = .error (c, q)) :
    Calls Try.prog 40 #[.pointer (some ⟨g, 0, none⟩)] w (XRet w g s opn (cClass s (pos + 1)) isSet) := by
  have mid := XMidS.start h
  have hgb := h.lt
  have hgb' : g ≠ w.heap.size := by omega
  have hgb2 : w.heap.size ≠ g := by omega
  generalize hw0 : w.alloc (.cells #[.int .u64 0, .int .u64 0, .int .u64 0, .int .u64 0] 25) = w0 at *
  have HW := Lib.hid hw0
  clear hw0
  obtain ⟨c0, c1, c2⟩ := mid.rx.cell
  obtain ⟨f0, f1, f2⟩ := mid.rx.frozen
  have midA := mid.setPos (pos + 1)
  have HS := Lib.hid (fun w h => xskipNeg w g s pos opn h hs hp)
  have HI := Lib.hid (fun w h => xitem_p w g s (cFirst s pos) opn h hs (cFirst_le hp))
  have HE : Hid (cClass s (pos + 1) = .error (c, q)) := by show cClass s (pos + 1) = _; rw [class_eq, hi]; rfl
  simp only [hi] at HI
  clear hi
  go_enter Try.func40, Try.ntmps40
  go_upto_region 1 with fail
  rw [HW.out]
  clear HW
  go_wp2_with (first
    | (go_at_call 20; (refine (HS.out _ midA.rx).mono ?_); rintro e w1 ⟨rfl, r1, o1⟩; have mid1 := midA.next o1 r1)
    | (go_at_call 55; (refine (HI.out _ mid1.rx).mono ?_); rintro e w2 ⟨⟨gs, hB, rfl, hgs⟩, o2⟩))
  exact bodyPost_panic rfl (XRet.fault mid1.only ⟨gs, hB, rfl, hgs⟩ o2 HE.out)

set_option maxRecDepth 20000 in
set_option maxHeartbeats 4000000 in
theorem xitems_ok (w : World) (g : Nat) (s : ByteArray) (pos : Nat) (opn : Int) (h : Rx w g s pos opn) (hs : s.size ≤ 1000) (hp : pos < s.size) (q1 : Nat → Bool) (p1 : Nat) (hi : cItem s (cFirst s pos) = .ok (q1, p1)) :
    Calls Try.prog 40 #[.pointer (some ⟨g, 0, none⟩)] w (XRet w g s opn (cClass s (pos + 1)) isSet) := by
  have mid := XMidS.start h
  have hgb := h.lt
  have hgb' : g ≠ w.heap.size := by omega
  have hgb2 : w.heap.size ≠ g := by omega
  generalize hw0 : w.alloc (.cells #[.int .u64 0, .int .u64 0, .int .u64 0, .int .u64 0] 25) = w0 at *
  have HW := Lib.hid hw0
  clear hw0
  obtain ⟨c0, c1, c2⟩ := mid.rx.cell
  obtain ⟨f0, f1, f2⟩ := mid.rx.frozen
  have midA := mid.setPos (pos + 1)
  have HS := Lib.hid (fun w h => xskipNeg w g s pos opn h hs hp)
  have HI := Lib.hid (fun w h => xitem_p w g s (cFirst s pos) opn h hs (cFirst_le hp))
  have hE : cClass s (pos + 1) = thenR (loopR (clsStep s) (s.size + 1) q1 p1) fun q p => .ok (if cNeg s pos = true then notP q else q, p + 1) := by rw [class_eq, hi]; rfl
  have HE := Lib.hid hE
  have hp1 := item_fwd s (cFirst s pos)
  rw [hi] at hp1
  replace hp1 := hp1.2
  simp only [hi] at HI
  clear hi hE
  generalize cNeg s pos = neg at *
  go_enter Try.func40, Try.ntmps40
  go_upto_region 1 with fail
  rw [HW.out]
  clear HW
  go_wp2_with (first
    | (go_at_call 20; (refine (HS.out _ midA.rx).mono ?_); rintro e w1 ⟨rfl, r1, o1⟩; have mid1 := midA.next o1 r1)
    | (go_at_call 55; (refine (HI.out _ mid1.rx).mono ?_); rintro e w2 ⟨⟨v, rfl, rfl⟩, r2, o2⟩; unfold setV; have mid2 := mid1.next o2 r2; have hw2 := mid2.new))
  have bk := Box4.new w2 q1
  have mid3 := mid2.alloc (.cells #[.int .u64 (word q1 0), .int .u64 (word q1 1), .int .u64 (word q1 2), .int .u64 (word q1 3)] 25)
  have hgx : g ≠ w2.heap.size := by have := mid2.rx.lt; omega
  have hbx : w.heap.size ≠ w2.heap.size := by omega
  generalize w2.alloc (.cells #[.int .u64 (word q1 0), .int .u64 (word q1 1), .int .u64 (word q1 2), .int .u64 (word q1 3)] 25) = w3 at *
  generalize w2.heap.size = gx at *
  clear mid midA mid1 mid2 c0 c1 c2 f0 f1 f2 HI HS r1 o1 r2 o2
  go_loopg [] (s.size + 1) (fun m wr => ∃ q p, XMidS w g s p opn wr ∧ Box4 wr gx q ∧ p ≤ s.size ∧ s.size + 1 - p ≤ m ∧ cClass s (pos + 1) = thenR (loopR (clsStep s) m q p) fun q p => .ok (if neg = true then notP q else q, p + 1))
  case atStart => exact ⟨q1, p1, mid3, bk, hp1, by omega, HE.out⟩
  case round =>
    clear mid3 bk HE hp1
    obtain ⟨q, p, mid, bk, hp1, hm, hE⟩ := hrel
    obtain ⟨k, rfl⟩ : ∃ k, gk = k + 1 := ⟨gk - 1, by omega⟩
    have hgx' : some gx ≠ some g := by simpa using Ne.symm hgx
    cases h93 : isB s p 93 with
    | true =>
      have hst : clsStep s q p = none := by unfold clsStep; rw [if_pos h93]
      have HE : Hid (cClass s (pos + 1) = .ok (if neg = true then notP q else q, p + 1)) := by show cClass s (pos + 1) = _; rw [hE]; unfold loopR; rw [hst]; rfl
      have HS := Lib.hid (fun w h => xskip1_yes w g s p opn h hs hp1 93 93 rfl h93)
      clear hE hst h93
      cases neg
      · go_wp2_with (first
          | (go_at_call 20; (with_reducible refine (HS.out _ mid.rx).mono ?_); rintro e w4 ⟨rfl, r4, o4⟩; have mid4 := mid.next o4 r4; have b4 := bk.grown o4 hgx'; obtain ⟨l0, l1, l2, l3⟩ := b4.cell; obtain ⟨m0, m1, m2, m3⟩ := mid4.box.cell; obtain ⟨y0, y1, y2, y3⟩ := mid4.box.frozen))
        refine bodyPost_ret (v := setV q) ?_ rfl (XRet.ok (by simpa using HE.out) rfl (mid4.fin _).1 (mid4.fin _).2)
        unfold setV
        simp [results, Try.results40, go_sem, m0, m1, m2, m3]
      · go_wp2_with (first
          | (go_at_call 20; (with_reducible refine (HS.out _ mid.rx).mono ?_); rintro e w4 ⟨rfl, r4, o4⟩; have mid4 := mid.next o4 r4; have b4 := bk.grown o4 hgx'; obtain ⟨l0, l1, l2, l3⟩ := b4.cell)
          | (go_at_call 41; (with_reducible refine (not_p q _).mono ?_); rintro e w5 ⟨rfl, hb5⟩; unfold setV; have mid5 := mid4.below hb5; obtain ⟨m0, m1, m2, m3⟩ := mid5.box.cell; obtain ⟨y0, y1, y2, y3⟩ := mid5.box.frozen))
        refine bodyPost_ret (v := setV (notP q)) ?_ rfl (XRet.ok (by simpa using HE.out) rfl (mid5.fin _).1 (mid5.fin _).2)
        unfold setV
        simp [results, Try.results40, go_sem, m0, m1, m2, m3]
    | false =>
      have hst : clsStep s q p = some (thenR (cItem s p) fun r p => .ok (orP q r, p)) := by unfold clsStep; rw [if_neg (by simp [h93])]
      have HS := Lib.hid (fun w h => xskip1_no w g s p opn h hs hp1 93 93 rfl h93)
      have HI := Lib.hid (fun w h => xitem_p w g s p opn h hs hp1)
      have hfw := item_fwd s p
      unfold loopR at hE
      rw [hst] at hE
      cases hi : cItem s p with
      | error x =>
        obtain ⟨c, qq⟩ := x
        have HE : Hid (cClass s (pos + 1) = .error (c, qq)) := by show cClass s (pos + 1) = _; rw [hE, hi]; rfl
        simp only [hi] at HI
        clear hE hst h93 hi hfw
        go_wp2_with (first
          | (go_at_call 20; (with_reducible refine (HS.out _ mid.rx).mono ?_); rintro e w4 ⟨rfl, r4, o4⟩; have mid4 := mid.next o4 r4; have b4 := bk.grown o4 hgx'; obtain ⟨l0, l1, l2, l3⟩ := b4.cell))
        refine wp_region_any (by kernel_rfl) ?_
        change wpAny _ _ _ _ _ _ _ (World.drew _)
        refine wpAny_take (i := 1) (v := .pointer (some ⟨g, 0, none⟩)) rfl (by kernel_rfl) (by kernel_rfl) (by kernel_rfl) (fun _ _ _ h => h) (Or.inl ⟨by rfl, fun w => by go_simp⟩) ?_
        refine wpAny_ready (rs := [0, 2]) (by kernel_rfl) (by simp) ?_
        refine AllReady.cons rfl (fun K hK => ?_) ?_
        · go_simp
          refine hK _ _ ?_
          clear hK K
          refine wpAny_ready (rs := [2]) (by kernel_rfl) (by simp) ?_
          refine AllReady.cons rfl (fun K hK => ?_) AllReady.nil
          go_simp
          go_at_call 55
          refine (HI.out _ (by first | exact mid4.rx | exact mid4.rx.drew)).mono ?_
          rintro e w5 ⟨⟨gs, hB, rfl, hgs⟩, o5⟩
          exact bodyPost_panic rfl (XRet.fault (only_drew mid4.only) ⟨gs, hB, rfl, hgs⟩ o5 HE.out)
        · refine AllReady.cons rfl (fun K hK => ?_) AllReady.nil
          go_simp
          go_at_call 55
          refine (HI.out _ (by first | exact mid4.rx | exact mid4.rx.drew)).mono ?_
          rintro e w5 ⟨⟨gs, hB, rfl, hgs⟩, o5⟩
          exact bodyPost_panic rfl (XRet.fault (only_drew mid4.only) ⟨gs, hB, rfl, hgs⟩ o5 HE.out)
      | ok x =>
        obtain ⟨r, p2⟩ := x
        have HE : Hid (cClass s (pos + 1) = thenR (loopR (clsStep s) k (orP q r) p2) fun q p => .ok (if neg = true then notP q else q, p + 1)) := by show cClass s (pos + 1) = _; rw [hE, hi]; rfl
        rw [hi] at hfw
        have hf1 := hfw.1
        have hf2 := hfw.2
        simp only [hi] at HI
        clear hE hst h93 hi hfw
        go_wp2_with (first
          | (go_at_call 20; (with_reducible refine (HS.out _ mid.rx).mono ?_); rintro e w4 ⟨rfl, r4, o4⟩; have mid4 := mid.next o4 r4; have b4 := bk.grown o4 hgx'; obtain ⟨l0, l1, l2, l3⟩ := b4.cell))
        go_region_law (first
          | (go_simp; go_at_call 55; (refine (HI.out _ (by first | exact mid4.rx | exact mid4.rx.drew)).mono ?_); rintro e w5 ⟨⟨v, rfl, rfl⟩, r5, o5⟩; unfold setV; have mid5 := (show XMidS w g s p opn w4.drew from mid4.drewN 1).next o5 r5; have b5 := (show Box4 w4.drew gx q from b4).grown o5 hgx'; obtain ⟨n0, n1, n2, n3⟩ := b5.cell)
          | (go_simp; go_at_call 54; (with_reducible refine (or_p q r _).mono ?_); rintro e w6 ⟨rfl, hb6⟩; unfold setV; have mid6 := mid5.below hb6; have b6 := b5.stays hb6; obtain ⟨z0, z1, z2, z3⟩ := b6.cell; obtain ⟨y0, y1, y2, y3⟩ := b6.frozen))
        all_goals
          go_wp2
          go_roundg k
          case measure => omega
          case rel => exact ⟨orP q r, p2, mid6.put4 (by omega) (orP q r), b6.put (orP q r), hf2, by omega, HE.out⟩

theorem xitems_p (w : World) (g : Nat) (s : ByteArray) (pos : Nat) (opn : Int) (h : Rx w g s pos opn) (hs : s.size ≤ 1000) (hp : pos < s.size) : Calls Try.prog 40 #[.pointer (some ⟨g, 0, none⟩)] w (XRet w g s opn (cClass s (pos + 1)) isSet) := by
  cases hi : cItem s (cFirst s pos) with
  | error x => exact xitems_err w g s pos opn h hs hp x.1 x.2 hi
  | ok x => exact xitems_ok w g s pos opn h hs hp x.1 x.2 hi

end Go.Proofs.Ytpiieonlbfhbaaa
