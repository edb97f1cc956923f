/-
  Several texts of this proof in one file: SetHas, Behind, AddTo, Ends, Ends2, PartEnds. No statement of its own.
-/
import Derived.Test.YtlnanelejaddiaaDoorMa1
import Derived.Deep.DrawnRows
import Derived.Test.YtlnanelejaddiaaDoorMa6
import Derived.Test.YtlnanelejaddiaaDoorMa3
import Derived.Maps.AppendAt
import Derived.Deep.LoopGhost
import Derived.Test.YtlnanelejaddiaaDoorMa5
import Derived.StillTailTactics
import Derived.Deep.CutRange
import Derived.Deep.CutBlock
set_option linter.unusedVariables false
set_option linter.unusedSimpArgs false

/-
  What Has of package set does, whatever it is called with. Contracts for other texts; no statement of its own.
-/
namespace Go.Proofs.YtlnanelejaddiaaDoor
open Go Go.RowKit
attribute [local go_sem ↓] Go.wp_at_zero Go.wp_at_succ

set_option maxHeartbeats 400000 in
theorem has_p (p : Nat → Bool) (b : Int) (w : World) (hb : 0 ≤ b) (hb' : b ≤ 255) :
    Calls Tryd.prog 15 #[.agg #[.int .u64 (word p 0), .int .u64 (word p 1), .int .u64 (word p 2), .int .u64 (word p 3)], .int .u8 b] w fun e w' => e = .returned (.bool (p b.toNat)) ∧ Below w.heap.size w w' := by
  have hv := words_at p b hb hb'
  have H := has_bits p b hb hb'
  rw [← H]
  clear H
  go_enter Tryd.func15, Tryd.ntmps15
  go_wp2
  go_ret
  exact ⟨rfl, (Below.refl _ _).alloc (Nat.le_refl _) _⟩

end Go.Proofs.YtlnanelejaddiaaDoor

/-
  lang.part.behind. Contracts for other texts; no statement of its own.
-/
namespace Go.Proofs.YtlnanelejaddiaaDoor
open Go Go.RowKit Go.Shelf
attribute [local go_sem] Oper.semAt_some

/-- Where a single byte of p ends that begins at y. -/
def hitP (p : Nat → Bool) (xs : List Int) (y x : Nat) : Bool := decide (y < xs.length) && p (xs.getD y 0).toNat && x == y + 1

set_option maxRecDepth 20000 in
set_option maxHeartbeats 2000000 in
theorem behind_p {w : World} {B c : Nat} {xs : List Int} {A : Option Addr} {Γ : Ghost} {g o : Nat} {t : T} {v : Value} {q : Nat → Bool} (h : Ask w B xs A Γ) (e : Γ.F g o = some t) (h1 : t.op = 1) (hv : InW w xs v q) :
    Calls Tryd.prog 34 #[.pointer (some ⟨g, o, none⟩), .slice A xs.length c, v] w (RetMine B w xs Γ (img (E xs t) fun i => q i = true)) := by
  have hm : xs.length / 64 + 1 ≤ 1000000 := by have := h.len; omega
  obtain ⟨gs, cs, rfl, _, hgs⟩ := hv.pl.form (by omega)
  have hp := (h.inv.inv.part g o t e).2
  obtain ⟨gn, on, kn, n1, n2, n3, curn, n4⟩ := hp.node
  obtain ⟨curp, hpb⟩ := hp.block
  have hlen := h.len
  have HH := Lib.hid h
  have HV := Lib.hid hv
  have HN2 := Lib.hid n2
  have HNW := Lib.hid (fun w => nowhere_p w xs.length (by omega))
  unfold RetPl at HNW
  generalize hM : xs.length / 64 + 1 = m at *
  have HM := Lib.hid (fun _ : Unit => hM)
  have hm0 : 0 < m := by omega
  refine (callsIn_wide (n := 3)).1 ?_
  refine callsIn_of_wp_marks Tryd.func34 rfl trivial ?_ rfl
  simp only [Tryd.ntmps34, List.size_toArray, List.length_cons, List.length_nil, Nat.reduceAdd, Nat.reduceSub, Array.replicate_succ, Array.replicate_zero, List.push_toArray, List.append_toArray, List.nil_append, List.cons_append]
  clear h hv n2 n3 hp hM
  gi_wp2_with (refine ⟨trivial, ?_⟩; first
    | (gi_at_call 37; refine (callsIn_wide.2 (HNW.out _)).mono ?_; rintro e1 w2 ⟨v2, rfl, hv2, hb2⟩; obtain ⟨gf, cf, rfl, hgf1, hgf2⟩ := hv2.form hm0; have HV2 := Lib.hid hv2; clear hv2)
    | (gi_at_call 51; refine (all_in _ _ _ _ _).mono ?_; rintro e1 w3 ⟨rfl, rfl⟩))
  have s0 : (w.alloc (.cells #[.pointer (some ⟨g, o, none⟩)] 80)).heap.size = w.heap.size + 1 := by simp
  have s1 : ((w.alloc (.cells #[.pointer (some ⟨g, o, none⟩)] 80)).alloc (.cells #[.slice A xs.length c] 22)).heap.size = w.heap.size + 2 := by simp
  have p0 : w2.cell? ⟨w.heap.size, 0, none⟩ = some (.pointer (some ⟨g, o, none⟩)) := by
    rw [hb2.cell (p := ⟨w.heap.size, 0, none⟩) (by rw [s1]; show w.heap.size < _; omega)]
    simp [World.cell?_alloc_new]
  have p1 : w2.cell? ⟨w.heap.size + 1, 0, none⟩ = some (.slice A xs.length c) := by
    rw [hb2.cell (p := ⟨w.heap.size + 1, 0, none⟩) (by rw [s1]; show w.heap.size + 1 < _; omega)]
    have := World.cell?_alloc_new (w.alloc (.cells #[.pointer (some ⟨g, o, none⟩)] 80)) #[.slice A xs.length c] 22 0
    rw [World.size_alloc] at this
    exact this
  have hB2 : Below w.heap.size w w2 := ((((Below.refl _ _).alloc (Nat.le_refl _) _).alloc (by simp) _)).trans (hb2.mono (by rw [s1]; omega))
  have hs2 := hb2.size
  rw [s1] at hs2 hgf1
  obtain ⟨W5, hW5⟩ : ∃ W5, W5 = ((w2.alloc (.cells #[.slice (some ⟨gf, 0, none⟩) m cf] 60)).alloc (.cells #[.slice (some ⟨gs, 0, none⟩) m cs] 60)) := ⟨_, rfl⟩
  rw [← hW5]
  have s5 : W5.heap.size = w2.heap.size + 2 := by rw [hW5]; simp
  have b25 : Below w2.heap.size w2 W5 := by rw [hW5]; exact ((Below.refl _ _).alloc (Nat.le_refl _) _).alloc (by simp) _
  have hB5 : Below w.heap.size w W5 := hB2.trans (b25.mono (by omega))
  have q0 : W5.cell? ⟨w.heap.size, 0, none⟩ = some (.pointer (some ⟨g, o, none⟩)) := (b25.cell (p := ⟨w.heap.size, 0, none⟩) (by show w.heap.size < _; omega)).trans p0
  have q1 : W5.cell? ⟨w.heap.size + 1, 0, none⟩ = some (.slice A xs.length c) := (b25.cell (p := ⟨w.heap.size + 1, 0, none⟩) (by show w.heap.size + 1 < _; omega)).trans p1
  have q2 : W5.cell? ⟨w2.heap.size, 0, none⟩ = some (.slice (some ⟨gf, 0, none⟩) m cf) := by rw [hW5]; simp
  have q3 : W5.cell? ⟨w2.heap.size + 1, 0, none⟩ = some (.slice (some ⟨gs, 0, none⟩) m cs) := by
    rw [hW5]
    have := World.cell?_alloc_new (w2.alloc (.cells #[.slice (some ⟨gf, 0, none⟩) m cf] 60)) #[.slice (some ⟨gs, 0, none⟩) m cs] 60 0
    rw [World.size_alloc] at this
    exact this
  have hpl5 : Pl W5 w.heap.size (.slice (some ⟨gf, 0, none⟩) m cf) m noneP := (HV2.out.stays b25).lower (by rw [s1]; omega)
  have hask5 := HH.out.stays hB5
  have hv5 := HV.out.stays hB5
  have HP5 := Lib.hid hpl5
  have HA5 := Lib.hid hask5
  have HB5 := Lib.hid hB5
  have hpv5 : Pl W5 0 (.slice (some ⟨gs, 0, none⟩) m cs) m q := by have h5 := hv5.pl; rwa [HM.out ()] at h5
  clear hW5 p0 p1 hpl5 hask5 hv5 b25 hB2 hb2 s0 s1
  have hq := all_stops 2 (by omega) (w2.heap.size + 1) gs m cs 0 q hm W5 (by omega) q3 hpv5 (by omega) HA5.out.tab
  have e1 := enters_of Tryd.func58 (by kernel_rfl) rfl
  have hkb := kpw_b (w := W5) (g := gs) (by omega) HA5.out.tab.1
  obtain ⟨I, hI⟩ : ∃ I : List (UpAt q (64 * m)) → World → Prop, I = (fun pre W => (∀ b, b < W5.heap.size → b ≠ gf → W.heap[b]? = W5.heap[b]?) ∧ Below w.heap.size w W ∧ W5.heap.size ≤ W.heap.size ∧ Pl W w.heap.size (.slice (some ⟨gf, 0, none⟩) m cf) m (foldP (fun y => hitP t.set xs y.1) pre)) := ⟨_, rfl⟩
  have hI1 : OwnFrom W5.heap.size I := by
    rw [hI]
    exact fun pre W W' row hs hg hr => ⟨fun b hb hne => (hg.block b (Nat.lt_of_lt_of_le hb hs.2.2.1) (fun er => by have := (hr b er.symm).1; omega)).trans (hs.1 b hb hne), hs.2.1.grown hg hs.2.1.size (fun k e => Nat.le_trans HB5.out.size (hr k e).1), Nat.le_trans hs.2.2.1 hg.size, hs.2.2.2.turn (turn_cells hg (fun r er => (hr r er).2))⟩
  have hI0 : I [] W5 := by
    rw [hI]
    exact ⟨fun _ _ _ => rfl, HB5.out, Nat.le_refl _, HP5.out⟩
  have HI := Lib.hid (fun _ : Unit => hI)
  clear hI
  refine wpIn_rangeFunc_ownG (F := Fence.wide) (n := 3) rfl (by decide) (gf := 58) (lb := #[.pointer (some ⟨w2.heap.size + 1, 0, none⟩)]) rfl trivial e1 hq KpW.trans hkb (Below.refl _ _) (fun _ => rfl)
    I (fun _ _ _ => False) hI1 (fun _ _ _ _ _ hs _ _ => hs) hI0
    (fun x => { tmps := #[.pointer (some ⟨g, o, none⟩), .slice A xs.length c, .slice (some ⟨gs, 0, none⟩) m cs, .pointer (some ⟨w.heap.size, 0, none⟩), .pointer (some ⟨w.heap.size + 1, 0, none⟩), undef, .slice none 0 0, .pointer (some ⟨w2.heap.size, 0, none⟩), .int .i64 (x.1 : Int), .slice A xs.length c, .int .i64 xs.length, .slice (some ⟨gf, 0, none⟩) m cf, .slice (some ⟨gs, 0, none⟩) m cs, .func (.func 58) #[] #[.pointer (some ⟨w2.heap.size + 1, 0, none⟩)], .int .i64 (x.1 : Int), undef, undef, undef, undef, undef, undef, undef, undef, undef, undef, undef, undef, undef, undef, undef, undef, undef, undef, undef, undef, undef, undef, undef], defers := [] }) ?assign ?body ?done ?stop
  case assign =>
    clear hI0 hI1 hq hkb e1
    intro l x W K hK
    gi_wp2
    exact hK
  case body =>
    clear hI0 hI1 hq hkb e1
    intro l pre x W hi hlt
    rw [HI.out ()] at hi
    obtain ⟨hI1, hIB, hI2, hI3⟩ := hi
    have old : ∀ b o', b < W5.heap.size → b ≠ gf → W.cell? ⟨b, o', none⟩ = W5.cell? ⟨b, o', none⟩ := fun b o' h1 h2 => World.cell?_of_block (w := W5) (a := ⟨b, o', none⟩) (hI1 b h1 h2)
    have c3 := (old w.heap.size 0 (by omega) (by omega)).trans q0
    have c4 := (old (w.heap.size + 1) 0 (by omega) (by omega)).trans q1
    have c7 := (old w2.heap.size 0 (by omega) (by omega)).trans q2
    have HI1 := Lib.hid hI1
    have HIB := Lib.hid hIB
    have HI3 := Lib.hid hI3
    have HLT := Lib.hid hlt
    obtain ⟨y, hy⟩ : ∃ y : Nat, y = x.1 := ⟨_, rfl⟩
    rw [← hy]
    have HY := Lib.hid (fun _ : Unit => hy)
    have hx1 : y < 64 * m := by rw [hy]; exact x.2.1
    have hle : y ≤ xs.length := HV.out.le y (by rw [hy]; exact x.2.2)
    have hsn : ∀ z, foldP (fun y : UpAt q (64 * m) => hitP t.set xs y.1) (pre ++ [x]) z = (foldP (fun y : UpAt q (64 * m) => hitP t.set xs y.1) pre z || hitP t.set xs y z) := fun z => by rw [hy]; exact foldP_snoc _ _ _ _
    have HSN := Lib.hid hsn
    have HOLD := Lib.hid old
    clear old
    clear hI1 hIB hI3 hlt hy hsn q0 q1 q2 q3 hpv5
    have hd : 1 ≤ 3 - 1 - 1 := by decide
    have hmx : Tryd.prog.follows .mixedOrders = true := by kernel_rfl
    obtain ⟨L, hL⟩ : ∃ L : Nat, L = xs.length := ⟨_, rfl⟩
    rw [← hL] at hle c4 ⊢
    have HL := Lib.hid (fun _ : Unit => hL)
    have HLE := Lib.hid hle
    have HX1 := Lib.hid hx1
    clear hlen hL hle hx1
    by_cases hyl : y < L
    · have hyi : (y : Int) < (L : Int) := by omega
      have hyi0 : (0 : Int) ≤ (y : Int) := by omega
      have hrd := HH.out.rd.below (HIB.out.mono HH.out.le)
      have hl := HL.out ()
      obtain ⟨b, off, hA, hbB, hcb⟩ := hrd.at (k := y) (by omega)
      obtain ⟨y0, y1⟩ := HH.out.byte y (by omega)
      have hby := hcb y (by omega)
      have hHK := fun W' => has_p t.set (xs.getD y 0) W' y0 y1
      have hadd : ∀ W' q', Pl W' w.heap.size (.slice (some ⟨gf, 0, none⟩) m cf) m q' → Calls Tryd.prog 40 #[.slice (some ⟨gf, 0, none⟩) m cf, .int .i64 ((y : Int) + 1)] W' (RetOwn W' w.heap.size m (.slice (some ⟨gf, 0, none⟩) m cf) (add1 q' (y + 1))) := fun W' q' hq' => by
        have := pladd_p W' w.heap.size m (y + 1) _ q' hq' (by have h1 := HM.out (); omega) hm
        rwa [show ((y + 1 : Nat) : Int) = (y : Int) + 1 by omega] at this
      unfold RetOwn at hadd
      have HADD := Lib.hid hadd
      generalize hby0 : xs.getD y 0 = x0 at *
      have HBY := Lib.hid (fun _ : Unit => hby0)
      have hgw := lt_of_some hpb
      have hgnw := lt_of_some n4
      have d0 := (HIB.out.cell (p := ⟨g, o, none⟩) hgw).trans n1
      have hnb := HN2.out.block (HIB.out.block gn hgnw)
      have d1 := hnb 1 _ rfl
      have d2 := hnb 2 _ rfl
      have d3 := hnb 3 _ rfl
      have d4 := hnb 4 _ rfl
      have HHK := Lib.hid hHK
      subst hA
      have HHR := Lib.hid HH
      clear hrd hcb hHK hadd hby0 hnb HN2 n1 hl hpb n4 HA5 HB5
      cases hs : t.set x0.toNat
      · have HS := Lib.hid hs
        have HHK2 : Hid (∀ W', Calls Tryd.prog 15 #[.agg #[.int .u64 (word t.set 0), .int .u64 (word t.set 1), .int .u64 (word t.set 2), .int .u64 (word t.set 3)], .int .u8 x0] W' fun e w' => e = .returned (.bool false) ∧ Below W'.heap.size W' w') := fun W' => (HHK.out W').mono fun e w' k => by rw [HS.out] at k; exact k
        clear hs HHK
        gi_wp2
        refine wpIn_round_tail 16 hmx (by kernel_rfl) (by kernel_rfl) (by rintro ⟨_, _, h⟩; exact h) ?_
        simp only [List.take_succ_cons, List.take_zero, List.drop_succ_cons, List.drop_zero]
        iterate 16
          with_reducible refine wpStill_step (fun K hK => ?_)
          have HK := Lib.hid hK
          clear hK
          go_simp
          with_reducible refine HK.out _ ?_
          clear HK K
        with_reducible refine wpStill_nil ?_
        go_wp2_with (go_at_call 15; (with_reducible refine (HHK2.out _).mono ?_); rintro e w5 ⟨rfl, hb5⟩; have hb6 := undrew hb5; have HB6 := Lib.hid hb6; clear hb5 hb6)
        gi_wp2
        have hb6 := HB6.out
        refine ⟨keeps_below hb6, ⟨hb6.size, hb6.block gs (by omega), hb6.block _ (Nat.lt_of_lt_of_le HH.out.tab.1 HIB.out.size)⟩, ?_⟩
        rw [HI.out ()]
        refine ⟨fun b hb hne => (hb6.block b (by omega)).trans (HI1.out b hb hne), HIB.out.trans (hb6.mono HIB.out.size), Nat.le_trans hI2 hb6.size, (HI3.out.stays hb6).same fun z => ?_⟩
        rw [HSN.out, show hitP t.set xs y z = false by unfold hitP; rw [HBY.out (), HS.out]; simp, Bool.or_false]
      · have HS := Lib.hid hs
        have HHK2 : Hid (∀ W', Calls Tryd.prog 15 #[.agg #[.int .u64 (word t.set 0), .int .u64 (word t.set 1), .int .u64 (word t.set 2), .int .u64 (word t.set 3)], .int .u8 x0] W' fun e w' => e = .returned (.bool true) ∧ Below W'.heap.size W' w') := fun W' => (HHK.out W').mono fun e w' k => by rw [HS.out] at k; exact k
        clear hs HHK
        gi_wp2
        refine wpIn_round_tail 16 hmx (by kernel_rfl) (by kernel_rfl) (by rintro ⟨_, _, h⟩; exact h) ?_
        simp only [List.take_succ_cons, List.take_zero, List.drop_succ_cons, List.drop_zero]
        iterate 16
          with_reducible refine wpStill_step (fun K hK => ?_)
          have HK := Lib.hid hK
          clear hK
          go_simp
          with_reducible refine HK.out _ ?_
          clear HK K
        with_reducible refine wpStill_nil ?_
        go_wp2_with (go_at_call 15; (with_reducible refine (HHK2.out _).mono ?_); rintro e w5 ⟨rfl, hb5⟩; have hb6 := undrew hb5; have c7' := (hb6.cell (p := ⟨w2.heap.size, 0, none⟩) (by show w2.heap.size < _; omega)).trans c7; have HB6 := Lib.hid hb6; clear hb5 hb6)
        have hL1 : L ≤ 100000 := by have h1 := HH.out.len; have h2 := HL.out (); omega
        have HADD2 := Lib.hid (fun N => CallsIn.inRound l ((callsIn_wide (n := N)).2 (HADD.out w5 _ (HI3.out.stays HB6.out))))
        gi_wp2_with (refine ⟨trivial, ?_⟩; gi_at_call 40; (with_reducible refine (HADD2.out _).mono ?_); rintro e w6 ⟨rfl, hv6, hg6⟩; have HV6 := Lib.hid hv6; have HG6 := Lib.hid hg6; clear hv6 hg6)
        have hb6 := HB6.out
        have hg6 := HG6.out
        have hrow : ∀ j, (Value.slice (some ⟨gf, 0, none⟩) m cf).ownBlock = some j → j = gf := fun j e => by cases e; rfl
        have hblk : ∀ b, b < W.heap.size → b ≠ gf → w6.heap[b]? = W.heap[b]? := fun b h1 h2 => (hg6.block b (Nat.lt_of_lt_of_le h1 hb6.size) (fun e => h2 (hrow b e.symm))).trans (hb6.block b h1)
        have htab := HH.out.tab.1
        refine ⟨(keeps_below hb6).trans (KeepsFrom.of_grownBy hg6 fun j e => by have := hrow j e; omega), ⟨Nat.le_trans hb6.size hg6.size, hblk gs (by omega) (by omega), hblk _ (Nat.lt_of_lt_of_le htab HIB.out.size) (by omega)⟩, ?_⟩
        rw [HI.out ()]
        refine ⟨fun b hb hne => (hblk b (by omega) hne).trans (HI1.out b hb hne), (HIB.out.trans (hb6.mono HIB.out.size)).grown hg6 (Nat.le_trans HIB.out.size hb6.size) (fun k e => by have := hrow k e; omega), Nat.le_trans hI2 (Nat.le_trans hb6.size hg6.size), HV6.out.same fun z => ?_⟩
        have hl := HL.out ()
        rw [HSN.out, show hitP t.set xs y z = (z == y + 1) by unfold hitP; rw [HBY.out (), HS.out, ← hl]; simp [hyl]]
        rfl
    · have hyi : ¬ ((y : Int) < (L : Int)) := by omega
      have HYL := Lib.hid hyl
      clear hyl
      gi_wp2
      refine wpIn_round_tail 16 hmx (by kernel_rfl) (by kernel_rfl) (by rintro ⟨_, _, h⟩; exact h) ?_
      simp only [List.take_succ_cons, List.take_zero, List.drop_succ_cons, List.drop_zero]
      have hyn : ¬ y < L := HYL.out
      clear hyi
      iterate 16
        with_reducible refine wpStill_step (fun K hK => ?_)
        have HK := Lib.hid hK
        clear hK
        go_simp
        with_reducible refine HK.out _ ?_
        clear HK K
      with_reducible refine wpStill_nil ?_
      go_wp2
      gi_wp2
      refine ⟨(KeepsOthers.drew W).from _, ⟨Nat.le_refl _, rfl, rfl⟩, ?_⟩
      rw [HI.out ()]
      refine ⟨HI1.out, HIB.out.drew, hI2, HI3.out.same fun z => ?_⟩
      have hl := HL.out ()
      rw [HSN.out, show hitP t.set xs y z = false by unfold hitP; rw [← hl]; simp [hyn], Bool.or_false]
  case done =>
    clear hI0 hI1 hq hkb e1
    intro D ys W hD hys hi hK
    rw [HI.out ()] at hi
    obtain ⟨hI1, hIB, hI2, hI3⟩ := hi
    have r2 : W.cell? ⟨w2.heap.size, 0, none⟩ = some (.slice (some ⟨gf, 0, none⟩) m cf) := (World.cell?_of_block (w := W5) (a := ⟨w2.heap.size, 0, none⟩) (hI1 w2.heap.size (by omega) (by omega))).trans q2
    have HK := Lib.hid hK
    have HI1 := Lib.hid hI1
    have HIB := Lib.hid hIB
    have HI3 := Lib.hid hI3
    have HYS := Lib.hid (fun _ : Unit => hys)
    clear hK hI1 hI3 hys hIB
    gi_wp2
    refine ⟨by simp, .inl ⟨_, _, rfl, run_takeDeferred HK.out, ?_⟩⟩
    have hgo := grownBy_putObj' W D (.deferred none)
    have hrow : ∀ r, some D = some r → ∃ o : Obj, W.heap[r]? = some o ∧ o.isCells = false := fun r e => by cases e; exact ⟨_, HK.out, rfl⟩
    have hBw := HIB.out.grown hgo HIB.out.size (fun k e => by cases e; have := HB5.out.size; omega)
    refine ⟨_, results_tmp rfl _ _ _, .slice (some ⟨gf, 0, none⟩) m cf, foldP (fun y : UpAt q (64 * m) => hitP t.set xs y.1) ys, Γ, rfl, HH.out.inv.stays hBw, Ext.stays Γ hBw HH.out.le, ?_, ?_, ?_⟩
    · rw [HM.out ()]
      exact Mine.new HH.out.inv (HI3.out.turn (turn_cells hgo hrow)) (Nat.le_refl _)
    · intro z hz
      rw [foldP_up ys (HYS.out ())] at hz
      obtain ⟨i, _, _, hi⟩ := hz
      simp [hitP] at hi
      omega
    · intro z
      rw [foldP_up ys (HYS.out ())]
      have hM := HM.out ()
      cases t with
      | mk op p lo hi l =>
        have eo : op = 1 := h1
        subst eo
        simp only [img, E_one, hitP, T.set]
        constructor
        · rintro ⟨i, h1, h2, h3⟩
          simp at h3
          exact ⟨i, h2, h3.1.1, h3.1.2, h3.2⟩
        · rintro ⟨i, h2, h3, h4, h5⟩
          refine ⟨i, by omega, h2, ?_⟩
          simp
          exact ⟨⟨h3, h4⟩, h5⟩
  case stop =>
    rintro D c pre W _ _ h _
    exact h.elim

end Go.Proofs.YtlnanelejaddiaaDoor

/-
  The document's own lists of numbers that grow: add. Contracts for other texts; no statement of its own.
-/
namespace Go.Proofs.YtlnanelejaddiaaDoor
open Go Go.RowKit
attribute [local go_sem ↓] Go.wp_at_zero Go.wp_at_succ

theorem Tryd.infoInt : (Tryd.prog.info? 3).map (fun i => (i.zero, i.size, i.bytes)) = some (some (.int .i64 0), 1, 8) := by kernel_rfl

/-- A list of numbers in memory of one's own. -/
def Ints (w : World) (B : Nat) (v : Value) (l : List Int) : Prop := w.ownsRow B 3 1 v l.length (l.map (Value.int .i64))
section
variable {w w' : World} {B : Nat} {v : Value} {l : List Int}
theorem Ints.nil (w : World) (B : Nat) : Ints w B (.slice none 0 0) [] := World.ownsRow_nil w B _ 1
theorem Ints.stays (h : Ints w B v l) (hb : Below w.heap.size w w') : Ints w' B v l := own_stays h hb
theorem Ints.alloc (h : Ints w B v l) (o : Obj) : Ints (w.alloc o) B v l := h.stays ((Below.refl _ _).alloc (Nat.le_refl _) _)
theorem Ints.kept {row : Option Nat} (h : Ints w B v l) (hg : w.grownBy w' row) (hr : ∀ g, v.ownBlock = some g → row ≠ some g) : Ints w' B v l := by
  refine World.ownsRow.kept h hg ?_
  cases e : v.ownBlock with
  | none => exact .inl rfl
  | some g => exact .inr fun e' => hr g e e'.symm
theorem Ints.form (h : Ints w B v l) : ∃ A c, v = .slice A l.length c := by
  rcases h.2 with ⟨rfl, h0⟩ | ⟨g, cap, cur, rfl, _⟩
  · exact ⟨none, 0, by rw [h0]⟩
  · exact ⟨_, _, rfl⟩
theorem Ints.at (h : Ints w B v l) (j : Nat) (hj : j < l.length) : ∃ g c, v = .slice (some ⟨g, 0, none⟩) l.length c ∧ B ≤ g ∧ g < w.heap.size ∧ w.cell? ⟨g, j, none⟩ = some (.int .i64 (l[j]'hj)) := by
  rcases h.2 with ⟨rfl, h0⟩ | ⟨g, cap, cur, rfl, hB, hg, _⟩
  · omega
  · refine ⟨g, cap, rfl, hB, lt_of_some hg, ?_⟩
    rw [World.ownsRow.cellAt h j (by omega)]
    simp [hj]
end

def addL (l : List Int) (n : Int) : List Int := if l.contains n then l else l ++ [n]
theorem addL_mem (l : List Int) (n x : Int) : x ∈ addL l n ↔ x ∈ l ∨ x = n := by
  unfold addL
  split
  · rename_i h
    have h' : n ∈ l := by simpa using h
    exact ⟨.inl, fun k => k.elim id fun e => e ▸ h'⟩
  · simp
theorem addL_nodup (l : List Int) (n : Int) (h : l.Nodup) : (addL l n).Nodup := by
  unfold addL
  split
  · exact h
  · rename_i hn
    have hn' : n ∉ l := by simpa using hn
    rw [List.nodup_append]
    refine ⟨h, by simp, ?_⟩
    intro a ha b hb e
    simp at hb
    subst hb e
    exact hn' ha
theorem addL_len (l : List Int) (n : Int) : (addL l n).length ≤ l.length + 1 := by unfold addL; split <;> simp

/-- What add tells. -/
def RetAdd (w : World) (B : Nat) (v : Value) (l : List Int) (n : Int) (e : Ending) (w' : World) : Prop :=
  ∃ v', e = .returned v' ∧ Ints w' B v' (addL l n) ∧ w.grownBy w' v.ownBlock ∧ (v'.ownBlock = v.ownBlock ∨ ∃ g, v'.ownBlock = some g ∧ w.heap.size ≤ g)

set_option maxRecDepth 20000 in
set_option maxHeartbeats 2000000 in
theorem add_p (w : World) (B : Nat) (v : Value) (l : List Int) (n : Int) (h : Ints w B v l) (hB : B ≤ w.heap.size) (hl : l.length ≤ 1000000) :
    Calls Tryd.prog 41 #[v, .int .i64 n] w (RetAdd w B v l n) := by
  obtain ⟨i0, hi, hz0, hz1, hz2⟩ := info_parts Tryd.infoInt
  obtain ⟨A, c, rfl⟩ := h.form
  generalize hlen : l.length = L at *
  have HLEN := Lib.hid hlen
  have HH := Lib.hid h
  clear h hlen
  go_enter Tryd.func41, Tryd.ntmps41
  go_wp2
  go_loopg [5] L (fun m i wr => ∃ j : Nat, i = .int .i64 (j : Int) ∧ j ≤ L ∧ m = L - j ∧ (∀ k, k < j → ∀ x, l[k]? = some x → x ≠ n) ∧ wr = w)
  case atStart => exact ⟨0, rfl, Nat.zero_le _, rfl, fun k hk => by omega, rfl⟩
  case round =>
    obtain ⟨j, rfl, hj, hmj, hne, rfl⟩ := hrel
    have HMJ := Lib.hid hmj
    have HNE := Lib.hid hne
    clear hmj hne
    by_cases hlt : j < L
    · have hlt' : j < l.length := by rw [HLEN.out]; exact hlt
      obtain ⟨g, c', e1, _, _, hc⟩ := HH.out.at j hlt'
      injection e1 with e1 e2 e3
      subst e1 e3
      clear e2
      have hx : ∃ x, l[j]'hlt' = x := ⟨_, rfl⟩
      obtain ⟨x, hx⟩ := hx
      rw [hx] at hc
      have HX := Lib.hid hx
      clear hx
      cases hxn : (x == n)
      · go_wp2
        go_roundg (L - (j + 1))
        case measure => have := HMJ.out; omega
        case rel =>
          refine ⟨j + 1, by go_num, by omega, rfl, fun k hk y hy => ?_, rfl⟩
          by_cases hkj : k = j
          · subst hkj
            rw [List.getElem?_eq_getElem hlt', HX.out] at hy
            injection hy with hy
            subst hy
            simpa using hxn
          · exact HNE.out k (by omega) y hy
      · go_wp2
        go_ret
        have hm : n ∈ l := by
          have e : x = n := by simpa using hxn
          rw [← e, ← HX.out]
          exact List.getElem_mem hlt'
        have ea : addL l n = l := by unfold addL; rw [if_pos (by simpa using hm)]
        exact ⟨_, rfl, by rw [ea]; exact HH.out, ⟨rfl, rfl, rfl, Nat.le_refl _, fun _ _ _ => rfl⟩, .inl rfl⟩
    · have hn : n ∉ l := by
        intro hm
        obtain ⟨k, hk, e⟩ := List.getElem_of_mem hm
        exact HNE.out k (by rw [HLEN.out] at hk; omega) n (by rw [List.getElem?_eq_getElem hk, e]) rfl
      have ea : addL l n = l ++ [n] := by unfold addL; rw [if_neg (by simpa using hn)]
      have HEA := Lib.hid ea
      have hown := HH.out
      unfold Ints at hown
      rw [HLEN.out] at hown
      have HO := Lib.hid hown
      clear hn ea hown
      go_wp2_with (at_builtin; refine wpList_append_own_at _ rfl _ _ 40 rfl B 3 i0 (.int .i64 0) 1 8 Tryd.underlying40 hi hz0 hz1 hz2 rfl (by decide) _ _ _ rfl (own_stays HO.out ((Below.refl _ _).alloc (Nat.le_refl _) _)) ⟨wr.heap.size, 0, none⟩ 1 1 [.int .i64 n] rfl rfl (cell_one_new _ _ _) ?c2 ?c3 ?c4 ?c5 ?_)
      case c2 => intro u hu; simp at hu; subst hu; rfl
      case c3 => unfold maxLen; omega
      case c4 => omega
      case c5 => simp; omega
      · intro v' w2 hown' hgrow _ hat
        go_wp2
        go_ret
        have ho := hown'
        have hgB : wr.grownBy w2 (Value.ownBlock (.slice A L c)) := (World.grownBy_alloc wr _ _).trans hgrow
        refine ⟨v', rfl, ?_, hgB, ?_⟩
        · rw [HEA.out]
          unfold Ints
          rw [List.length_append, HLEN.out, List.map_append]
          exact ho
        · rcases hat with hat | hat
          · exact .inl hat
          · exact .inr ⟨_, hat, by simp⟩

end Go.Proofs.YtlnanelejaddiaaDoor

/-
  The document's own Ends: where a word may end that begins at a place: of a single byte, of one of several kids. Contracts for other texts; no statement of its own.
-/
namespace Go.Proofs.YtlnanelejaddiaaDoor
open Go Go.RowKit
attribute [local go_sem ↓] Go.wp_at_zero Go.wp_at_succ

theorem nodup_le : ∀ (n : Nat) (l : List Int), l.Nodup → (∀ x ∈ l, 0 ≤ x ∧ x ≤ (n : Int)) → l.length ≤ n + 1
  | 0, l, h, hb => by
    match l, h, hb with
    | [], _, _ => simp
    | [a], _, _ => simp
    | a :: b :: l, h, hb =>
      have h1 := hb a (by simp)
      have h2 := hb b (by simp)
      simp at h
      omega
  | n + 1, l, h, hb => by
    by_cases hm : ((n + 1 : Nat) : Int) ∈ l
    · have h1 := nodup_le n (l.erase ((n + 1 : Nat) : Int)) (h.erase _) fun x hx => by
        have hx' := (List.Nodup.mem_erase_iff h).1 hx
        have := hb x hx'.2
        have hne := hx'.1
        omega
      rw [List.length_erase_of_mem hm] at h1
      omega
    · have h1 := nodup_le n l h fun x hx => by
        have := hb x hx
        have hne : x ≠ ((n + 1 : Nat) : Int) := fun e => hm (e ▸ hx)
        omega
      omega

/-- A list of the places that P tells, each once. -/
def Lists (P : Nat → Prop) (l : List Int) : Prop := l.Nodup ∧ ∀ x, x ∈ l ↔ ∃ j : Nat, x = j ∧ P j
theorem Lists.nil : Lists (fun _ => False) [] := ⟨List.nodup_nil, fun x => by simp⟩
theorem Lists.one (i : Nat) : Lists (fun j => j = i) [(i : Int)] := ⟨by simp, fun x => by
  simp⟩
theorem Lists.congr {P Q : Nat → Prop} {l : List Int} (h : Lists P l) (hq : ∀ j, P j ↔ Q j) : Lists Q l := ⟨h.1, fun x => by
  rw [h.2]
  constructor
  · rintro ⟨j, e, hp⟩; exact ⟨j, e, (hq j).1 hp⟩
  · rintro ⟨j, e, hp⟩; exact ⟨j, e, (hq j).2 hp⟩⟩
theorem Lists.len {P : Nat → Prop} {l : List Int} {n : Nat} (h : Lists P l) (hb : ∀ j, P j → j ≤ n) : l.length ≤ n + 1 :=
  nodup_le n l h.1 fun x hx => by
    obtain ⟨j, e, hp⟩ := (h.2 x).1 hx
    have := hb j hp
    omega
/-- One after the other is added. -/
def addAll (l : List Int) : List Int → List Int
  | [] => l
  | a :: bs => addAll (addL l a) bs
theorem addAll_snoc : ∀ (bs l : List Int) (a : Int), addAll l (bs ++ [a]) = addL (addAll l bs) a
  | [], l, a => rfl
  | b :: bs, l, a => addAll_snoc bs (addL l b) a
theorem addAll_take (l bs : List Int) (k : Nat) (h : k < bs.length) : addAll l (bs.take (k + 1)) = addL (addAll l (bs.take k)) (bs[k]'h) := by
  rw [List.take_succ_eq_append_getElem h, addAll_snoc]
theorem addAll_mem : ∀ (bs l : List Int) (x : Int), x ∈ addAll l bs ↔ x ∈ l ∨ x ∈ bs
  | [], l, x => by simp [addAll]
  | a :: bs, l, x => by simp [addAll, addAll_mem bs, addL_mem, or_assoc]
theorem addAll_nodup : ∀ (bs l : List Int), l.Nodup → (addAll l bs).Nodup
  | [], l, h => h
  | a :: bs, l, h => addAll_nodup bs _ (addL_nodup l a h)
theorem addAll_len : ∀ (bs l : List Int), (addAll l bs).length ≤ l.length + bs.length
  | [], l => Nat.le_refl _
  | a :: bs, l => by
    have h1 := addAll_len bs (addL l a)
    have h2 := addL_len l a
    simp only [addAll, List.length_cons]
    omega
theorem Lists.add {P Q : Nat → Prop} {l bs : List Int} (h : Lists P l) (h' : Lists Q bs) : Lists (fun j => P j ∨ Q j) (addAll l bs) := ⟨addAll_nodup bs l h.1, fun x => by
  rw [addAll_mem, h.2, h'.2]
  constructor
  · rintro (⟨j, e, hp⟩ | ⟨j, e, hp⟩)
    · exact ⟨j, e, .inl hp⟩
    · exact ⟨j, e, .inr hp⟩
  · rintro ⟨j, e, hp | hp⟩
    · exact .inl ⟨j, e, hp⟩
    · exact .inr ⟨j, e, hp⟩⟩

/-- What Ends tells. -/
def RetEnds (w : World) (P : Nat → Prop) (e : Ending) (w' : World) : Prop := ∃ v l, e = .returned v ∧ Ints w' w.heap.size v l ∧ Lists P l ∧ Below w.heap.size w w'

/-- What is asked of a call: a pattern, bytes, a place. -/
structure EndsAsk (w : World) (ok : Nat → Prop) (t : T) (k : Value) (xs : List Int) (A : Option Addr) (i : Nat) : Prop where
  wf : WF t
  tree : Tree w ok t k
  rd : RdB w w.heap.size A xs
  byte : ∀ k, k < xs.length → 0 ≤ xs.getD k 0 ∧ xs.getD k 0 ≤ 255
  len : xs.length ≤ 100000
  le : i ≤ xs.length

set_option maxRecDepth 20000 in
set_option maxHeartbeats 2000000 in
theorem ends_one {w : World} {ok : Nat → Prop} {t : T} {k : Value} {xs : List Int} {A : Option Addr} {i c : Nat} (h : EndsAsk w ok t k xs A i) (h1 : t.op = 1) :
    Calls Tryd.prog 26 #[nodeP t k, .slice A xs.length c, .int .i64 i] w (RetEnds w (E xs t i)) := by
  have hE : ∀ j, E xs t i j ↔ i < xs.length ∧ t.set (xs.getD i 0).toNat = true ∧ j = i + 1 := by
    intro j
    cases t with
    | mk op p lo hi l =>
      have e : op = 1 := h1
      subst e
      exact E_one
  obtain ⟨A', n', c', rfl⟩ := h.tree.form
  have hb1 : (t.op == 1) = true := by simp [h1]
  have hlen := h.len
  have b1 := Box8.new w t (.slice A' n' c')
  have hB : Below w.heap.size w (w.alloc (.cells #[.int .i64 t.op, .int .u64 (word t.set 0), .int .u64 (word t.set 1), .int .u64 (word t.set 2), .int .u64 (word t.set 3), .int .i64 t.lo, .int .i64 t.hi, .slice A' n' c'] 29)) := (Below.refl _ _).alloc (Nat.le_refl _) _
  have HE := Lib.hid hE
  clear hE h1
  by_cases hlt : i < xs.length
  · obtain ⟨b, off, hA, hb, hc⟩ := h.rd.at hlt
    subst hA
    obtain ⟨y0, y1⟩ := h.byte i hlt
    have hcell := cell_stays (hc i hlt) hB
    have hHK := fun W => rhas_p t.set (xs.getD i 0) W y0 y1
    generalize hx : xs.getD i 0 = x at *
    have HX := Lib.hid hx
    have HHK := Lib.hid hHK
    have HH := Lib.hid h
    clear hx hHK hc h
    generalize hL : xs.length = L at *
    have HL := Lib.hid hL
    clear hL
    have i0 : (0 : Int) ≤ (i : Int) := by omega
    have i1 : (i : Int) < (L : Int) := by omega
    unfold nodeP
    cases hs : t.set x.toNat
    · have HS := Lib.hid hs
      have HHK2 : Hid (∀ W, Calls Tryd.prog 16 #[.agg #[.int .u64 (word t.set 0), .int .u64 (word t.set 1), .int .u64 (word t.set 2), .int .u64 (word t.set 3)], .int .u8 x] W fun e w' => e = .returned (.bool false) ∧ Below W.heap.size W w') := fun W => (HHK.out W).mono fun e w' k => by rw [HS.out] at k; exact k
      clear hs HHK
      go_enter Tryd.func26, Tryd.ntmps26
      go_wp2
      generalize w.alloc (.cells #[.int .i64 t.op, .int .u64 (word t.set 0), .int .u64 (word t.set 1), .int .u64 (word t.set 2), .int .u64 (word t.set 3), .int .i64 t.lo, .int .i64 t.hi, .slice A' n' c'] 29) = w1 at *
      obtain ⟨c0, c1, c2, c3, c4, c5, c6, c7⟩ := b1.cell
      go_still_tail 6, (by kernel_rfl)
      change wpList _ _ _ _ _ (World.drew _)
      go_wp2_with (go_at_call 16; (refine (HHK2.out _).mono ?_); rintro e w5 ⟨rfl, hb5⟩)
      go_ret
      refine ⟨_, [], rfl, Ints.nil _ _, Lists.nil.congr fun j => ?_, gro hB (undrew hb5)⟩
      rw [HE.out, HS.out]
      simp
    · have HS := Lib.hid hs
      have HHK2 : Hid (∀ W, Calls Tryd.prog 16 #[.agg #[.int .u64 (word t.set 0), .int .u64 (word t.set 1), .int .u64 (word t.set 2), .int .u64 (word t.set 3)], .int .u8 x] W fun e w' => e = .returned (.bool true) ∧ Below W.heap.size W w') := fun W => (HHK.out W).mono fun e w' k => by rw [HS.out] at k; exact k
      clear hs HHK
      go_enter Tryd.func26, Tryd.ntmps26
      go_wp2
      generalize w.alloc (.cells #[.int .i64 t.op, .int .u64 (word t.set 0), .int .u64 (word t.set 1), .int .u64 (word t.set 2), .int .u64 (word t.set 3), .int .i64 t.lo, .int .i64 t.hi, .slice A' n' c'] 29) = w1 at *
      obtain ⟨c0, c1, c2, c3, c4, c5, c6, c7⟩ := b1.cell
      go_still_tail 6, (by kernel_rfl)
      change wpList _ _ _ _ _ (World.drew _)
      go_wp2_with (go_at_call 16; (refine (HHK2.out _).mono ?_); rintro e w5 ⟨rfl, hb5⟩)
      go_ret
      have hB5 := gro hB (undrew hb5)
      refine ⟨_, [((i + 1 : Nat) : Int)], rfl, World.ownsRow_lit w5 #[.int .i64 ((i : Int) + 1)] 1 hB5.size (by decide) rfl, (Lists.one (i + 1)).congr fun j => ?_, hB5.alloc hB5.size _⟩
      rw [HE.out, HS.out]
      simp [hlt]
  · have hge : ¬ i < xs.length := hlt
    generalize hL : xs.length = L at *
    have HL := Lib.hid hL
    have HH := Lib.hid h
    clear hL h
    unfold nodeP
    go_enter Tryd.func26, Tryd.ntmps26
    go_wp2
    go_ret
    refine ⟨_, [], rfl, Ints.nil _ _, Lists.nil.congr fun j => ?_, hB⟩
    rw [HE.out]
    simp [hge]

/-- Two lists, of which the first grows. -/
structure Two (w : World) (B : Nat) (vo : Value) (lo : List Int) (C : Nat) (vl : Value) (l : List Int) : Prop where
  out : Ints w B vo lo
  one : Ints w C vl l
  apart : ∀ g, vo.ownBlock = some g → vl.ownBlock ≠ some g
theorem Two.start {w w' : World} {B : Nat} {vo vl : Value} {lo l : List Int} (h : Ints w B vo lo) (hb : Below w.heap.size w w') (hl : Ints w' w.heap.size vl l) : Two w' B vo lo w.heap.size vl l :=
  ⟨h.stays hb, hl, fun g e e' => by
    have h1 := (World.ownsRow.lt h g e).2
    have h2 := (World.ownsRow.lt hl g e').1
    omega⟩
theorem Two.added {w w' : World} {B C : Nat} {vo vl v' : Value} {lo l : List Int} {n : Int} (h : Two w B vo lo C vl l) (h' : Ints w' B v' (addL lo n)) (hg : w.grownBy w' vo.ownBlock) (hv : v'.ownBlock = vo.ownBlock ∨ ∃ g, v'.ownBlock = some g ∧ w.heap.size ≤ g) :
    Two w' B v' (addL lo n) C vl l :=
  ⟨h', h.one.kept hg (fun g e e' => h.apart g e' e), fun g e e' => by
    rcases hv with hv | ⟨g', hv, hg'⟩
    · exact h.apart g (hv ▸ e) e'
    · rw [hv] at e
      injection e with e
      have := (World.ownsRow.lt h.one g e').2
      omega⟩
theorem row_at {B : Nat} {w : World} {v : Value} {l : List Int} (h : Ints w B v l) : ∀ j, v.ownBlock = some j → B ≤ j := fun j e => (World.ownsRow.lt h j e).1

theorem EAny_take {xs : List Int} (l : List T) (j : Nat) (h : j < l.length) (i x : Nat) : EAny xs (l.take (j + 1)) i x ↔ EAny xs (l.take j) i x ∨ E xs (l[j]'h) i x := by
  rw [List.take_succ_eq_append_getElem h, EAny_iff, EAny_iff]
  simp only [List.mem_append, List.mem_singleton]
  constructor
  · rintro ⟨t, h1 | h1, h2⟩
    · exact .inl ⟨t, h1, h2⟩
    · exact .inr (h1 ▸ h2)
  · rintro (⟨t, h1, h2⟩ | h2)
    · exact ⟨t, .inl h1, h2⟩
    · exact ⟨_, .inr rfl, h2⟩
theorem EndsAsk.kid {w w' : World} {ok : Nat → Prop} {t : T} {k : Value} {xs : List Int} {A : Option Addr} {i i' : Nat} (h : EndsAsk w ok t k xs A i) {u : T} {k' : Value} (hu : u ∈ t.kids) (htk : Tree w ok u k') (hb : Below w.heap.size w w') (hi : i' ≤ xs.length) : EndsAsk w' ok u k' xs A i' :=
  ⟨h.wf.kid hu, htk.stays hb, (h.rd.below hb).more hb.size, h.byte, h.len, hi⟩

def EndsFor (N : Nat) : Prop := ∀ (t : T) (w : World) (ok : Nat → Prop) (k : Value) (xs : List Int) (A : Option Addr) (i c : Nat), SizeOf.sizeOf t ≤ N → EndsAsk w ok t k xs A i →
    Calls Tryd.prog 26 #[nodeP t k, .slice A xs.length c, .int .i64 i] w (RetEnds w (E xs t i))

set_option maxRecDepth 20000 in
set_option maxHeartbeats 4000000 in
theorem ends_alt {N : Nat} (ih : EndsFor N) {w : World} {ok : Nat → Prop} {t : T} {k : Value} {xs : List Int} {A : Option Addr} {i c : Nat} (hN : SizeOf.sizeOf t ≤ N + 1) (h : EndsAsk w ok t k xs A i) (h3 : t.op = 3) :
    Calls Tryd.prog 26 #[nodeP t k, .slice A xs.length c, .int .i64 i] w (RetEnds w (E xs t i)) := by
  have hE : ∀ j, E xs t i j ↔ EAny xs t.kids i j := by
    intro j
    cases t with
    | mk op p lo hi l =>
      have e : op = 3 := h3
      subst e
      exact E_alt
  obtain ⟨A', n', c', rfl⟩ := h.tree.form
  obtain ⟨hn, hm⟩ := h.tree.bound
  have hkl := h.wf.len
  rw [← hn] at hkl
  unfold maxLen at hm
  have hb1 : (t.op == 1) = false := by simp [h3]
  have hb3 : (t.op == 3) = true := by simp [h3]
  have hlen := h.len
  have hile := h.le
  have hbd : ∀ j l, l ⊆ t.kids → EAny xs l i j → j ≤ xs.length := fun j l hl he => by
    rw [EAny_iff] at he
    obtain ⟨u, hu, he⟩ := he
    exact (E_bd (h.wf.kid (hl hu)) i j hile he).2
  have b1 := Box8.new w t (.slice A' n' c')
  have hB : Below w.heap.size w (w.alloc (.cells #[.int .i64 t.op, .int .u64 (word t.set 0), .int .u64 (word t.set 1), .int .u64 (word t.set 2), .int .u64 (word t.set 3), .int .i64 t.lo, .int .i64 t.hi, .slice A' n' c'] 29)) := (Below.refl _ _).alloc (Nat.le_refl _) _
  have HE := Lib.hid hE
  have HN := Lib.hid hn
  have HH := Lib.hid h
  have IH := Lib.hid ih
  have HB1 := Lib.hid b1
  have HBD := Lib.hid hbd
  unfold EndsFor at IH
  clear hE h3 hn h ih b1 hbd
  generalize hL : xs.length = L at *
  have HL := Lib.hid hL
  clear hL
  unfold nodeP
  go_enter Tryd.func26, Tryd.ntmps26
  go_wp2
  go_loopg [8, 9] n' (fun m o i' wr => ∃ (j : Nat) (lo : List Int), i' = .int .i64 (j : Int) ∧ j ≤ n' ∧ m = n' - j ∧ Ints wr (w.heap.size + 1) o lo ∧ Lists (EAny xs (t.kids.take j) i) lo ∧ Box8 wr w.heap.size t (.slice A' n' c') ∧ Below w.heap.size w wr)
  case atStart => exact ⟨0, [], rfl, Nat.zero_le _, rfl, Ints.nil _ _, Lists.nil.congr fun j => by simp [EAny], HB1.out, hB⟩
  case round =>
    obtain ⟨j, lo, rfl, hj, hmj, hown, hls, x1, hW⟩ := hrel
    have HMJ := Lib.hid hmj
    have HOWN := Lib.hid hown
    have HLS := Lib.hid hls
    have HX1 := Lib.hid x1
    obtain ⟨c0, c1, c2, c3, c4, c5, c6, c7⟩ := x1.cell
    clear hmj hown hls x1
    by_cases hlt : j < n'
    · have hlt' : j < t.kids.length := by rw [← HN.out]; exact hlt
      obtain ⟨g, B, m1, m2, e1, hg1, htk, hcells⟩ := kid8 HH.out.tree j (List.getElem?_eq_getElem hlt')
      subst e1
      have hks := kid_size t j hlt'
      have hum : t.kids[j]'hlt' ∈ t.kids := List.getElem_mem hlt'
      have hst := EAny_take (xs := xs) t.kids j hlt' i
      generalize t.kids[j] = u at *
      have HC : ∀ q v, (nodeC u (.slice B m1 m2))[q]? = some v → wr.cell? ⟨g, j * 8 + q, none⟩ = some v := fun q v h => by rw [Nat.mul_comm j 8]; exact (hW.cell (p := ⟨g, 8 * j + q, none⟩) hg1).trans (hcells q v h)
      have k0 : wr.cell? ⟨g, j * 8, none⟩ = _ := HC 0 _ rfl
      have k1 := HC 1 _ rfl
      have k2 := HC 2 _ rfl
      have k3 := HC 3 _ rfl
      have k4 := HC 4 _ rfl
      have k5 := HC 5 _ rfl
      have k6 := HC 6 _ rfl
      have k7 := HC 7 _ rfl
      have hask := HH.out.kid (i' := i) hum htk hW (by rw [HL.out]; exact hile)
      have hub : ∀ x, E xs u i x → x ≤ L := fun x hx => by
        rw [← HL.out]
        exact (E_bd (HH.out.wf.kid hum) i x (by rw [HL.out]; exact hile) hx).2
      have hcall := IH.out u wr ok (.slice B m1 m2) xs A i c (by omega) hask
      rw [HL.out] at hcall
      unfold nodeP at hcall
      have HK := Lib.hid hcall
      have HST := Lib.hid hst
      have HUB := Lib.hid hub
      have hlo : lo.length ≤ L + 1 := HLS.out.len fun x hx => by
        exact HBD.out x _ (List.take_subset _ _) hx
      clear HC hcells htk hks hum hst hask hub hcall
      have hk2 := HK.out.mono (R' := fun e w5 => ∃ Al cl l, e = .returned (.slice Al l.length cl) ∧ Two w5 (w.heap.size + 1) u8 lo wr.heap.size (.slice Al l.length cl) l ∧ Box8 w5 w.heap.size t (.slice (some ⟨g, 0, none⟩) n' c') ∧ Below w.heap.size w w5 ∧ l.length ≤ L + 1 ∧ Lists (E xs u i) l) fun e w5 h5 => by
        obtain ⟨vl, l, he, hvl, hlsl, hb5⟩ := h5
        obtain ⟨Al, cl, hform⟩ := hvl.form
        subst hform
        exact ⟨Al, cl, l, he, Two.start HOWN.out hb5 hvl, HX1.out.stays hb5, gro hW hb5, hlsl.len HUB.out, hlsl⟩
      have HK2 := Lib.hid hk2
      clear hk2 HK
      go_wp2_with (go_at_call 26; (with_reducible refine HK2.out.mono ?_); rintro e w5 ⟨Al, cl, l, rfl, htwo, x5, hW5, hll, hlsl⟩; have HLSL := Lib.hid hlsl; clear hlsl)
      have HTWO := Lib.hid htwo
      have HX5 := Lib.hid x5
      clear htwo x5 k0 k1 k2 k3 k4 k5 k6 k7 c0 c1 c2 c3 c4 c5 c6 c7
      generalize hll2 : l.length = M at *
      generalize wr.heap.size = C at HTWO
      have HLL := Lib.hid hll2
      clear hll2
      go_loopg [8, 11] M (fun m' o' kk wq => ∃ q : Nat, kk = .int .i64 (q : Int) ∧ q ≤ M ∧ m' = M - q ∧ Two wq (w.heap.size + 1) o' (addAll lo (l.take q)) C (.slice Al M cl) l ∧ Box8 wq w.heap.size t (.slice (some ⟨g, 0, none⟩) n' c') ∧ Below w.heap.size w wq)
      case atStart => exact ⟨0, rfl, Nat.zero_le _, rfl, HTWO.out, HX5.out, hW5⟩
      case round =>
        obtain ⟨q, rfl, hq, hmq, htw, xq, hWq⟩ := hrel
        have HMQ := Lib.hid hmq
        have HTW := Lib.hid htw
        have HXQ := Lib.hid xq
        clear hmq htw xq
        by_cases hqt : q < M
        · have hqt' : q < l.length := by rw [HLL.out]; exact hqt
          obtain ⟨gl, cl', e2, _, _, hc2⟩ := HTW.out.one.at q hqt'
          injection e2 with e3 e4 e5
          subst e3 e5
          clear e4
          have hat := addAll_take lo l q hqt'
          generalize l[q]'hqt' = x at *
          have HAT := Lib.hid hat
          have hsz : (addAll lo (l.take q)).length ≤ 1000000 := by
            have h1 := addAll_len (l.take q) lo
            rw [List.length_take] at h1
            omega
          have HADD := Lib.hid (add_p wr (w.heap.size + 1) u8 (addAll lo (l.take q)) x HTW.out.out (by have := HXQ.out.lt; omega) hsz)
          clear hat hsz
          unfold RetAdd at HADD
          go_wp2_with (go_at_call 41; (with_reducible refine HADD.out.mono ?_); rintro e w6 ⟨v6, rfl, hi6, hg6, hv6⟩)
          go_roundg (M - (q + 1))
          case measure => have := HMQ.out; omega
          case rel =>
            have hrow := row_at HTW.out.out
            refine ⟨q + 1, by go_num, by omega, rfl, ?_, HXQ.out.grown hg6 (fun e => by have := hrow _ e.symm; omega), hWq.grown hg6 hWq.size (fun j e => by have := hrow j e; omega)⟩
            rw [HAT.out]
            exact HTW.out.added hi6 hg6 hv6
        · have hqn : l.take q = l := List.take_of_length_le (by rw [HLL.out]; omega)
          rw [hqn] at HTW
          go_wp2
          go_roundg (n' - (j + 1))
          case measure => have := HMJ.out; omega
          case rel => exact ⟨j + 1, addAll lo l, by go_num, by omega, rfl, HTW.out.out, (HLS.out.add HLSL.out).congr fun x => (HST.out x).symm, HXQ.out, hWq⟩
    · have hjn : j = t.kids.length := by rw [← HN.out]; omega
      have hwhole : t.kids.take j = t.kids := by rw [hjn]; exact List.take_length
      rw [hwhole] at HLS
      go_wp2
      go_ret
      exact ⟨_, lo, rfl, own_lower HOWN.out (by omega), HLS.out.congr fun x => (HE.out x).symm, hW⟩

end Go.Proofs.YtlnanelejaddiaaDoor

/-
  The document's own Ends: of kids one behind the other. Contracts for other texts; no statement of its own.
-/
namespace Go.Proofs.YtlnanelejaddiaaDoor
open Go Go.RowKit
attribute [local go_sem ↓] Go.wp_at_zero Go.wp_at_succ

theorem Ints.lower {w : World} {B B' : Nat} {v : Value} {l : List Int} (h : Ints w B v l) (hB : B' ≤ B) : Ints w B' v l := own_lower h hB
theorem Lists.bound {P : Nat → Prop} {l : List Int} (h : Lists P l) (j : Nat) (hj : j < l.length) : ∃ y : Nat, l[j] = (y : Int) ∧ P y := (h.2 _).1 (List.getElem_mem hj)
theorem ECat_take {xs : List Int} (l : List T) (j : Nat) (h : j < l.length) (i x : Nat) : ECat xs (l.take (j + 1)) i x ↔ ∃ y, ECat xs (l.take j) i y ∧ E xs (l[j]'h) y x := by
  rw [List.take_succ_eq_append_getElem h, ECat_app]
  simp [ECat]

set_option maxRecDepth 20000 in
set_option maxHeartbeats 4000000 in
theorem ends_cat {N : Nat} (ih : EndsFor N) {w : World} {ok : Nat → Prop} {t : T} {k : Value} {xs : List Int} {A : Option Addr} {i c : Nat} (hN : SizeOf.sizeOf t ≤ N + 1) (h : EndsAsk w ok t k xs A i) (h2 : t.op = 2) :
    Calls Tryd.prog 26 #[nodeP t k, .slice A xs.length c, .int .i64 i] w (RetEnds w (E xs t i)) := by
  have hE : ∀ j, E xs t i j ↔ ECat xs t.kids i j := by
    intro j
    cases t with
    | mk op p lo hi l =>
      have e : op = 2 := h2
      subst e
      exact E_cat
  obtain ⟨A', n', c', rfl⟩ := h.tree.form
  obtain ⟨hn, hm⟩ := h.tree.bound
  have hkl := h.wf.len
  rw [← hn] at hkl
  unfold maxLen at hm
  have hb1 : (t.op == 1) = false := by simp [h2]
  have hb2 : (t.op == 2) = true := by simp [h2]
  have hb3 : (t.op == 3) = false := by simp [h2]
  have hb4 : (t.op == 4) = false := by simp [h2]
  have hlen := h.len
  have hile := h.le
  have hn0 : 0 < t.kids.length := by
    rcases h.wf.op_cases with h' | h' | h' | h' <;> omega
  have hbd : ∀ (l : List T), l ⊆ t.kids → ∀ i' j, i' ≤ xs.length → ECat xs l i' j → j ≤ xs.length := fun l => by
    induction l with
    | nil => intro _ i' j hi' he; have e : i' = j := he; omega
    | cons u l ihl =>
      intro hl i' j hi' he
      obtain ⟨y, e1, e2⟩ := he
      have hy := (E_bd (h.wf.kid (hl (by simp))) i' y hi' e1).2
      exact ihl (fun z hz => hl (by simp [hz])) y j hy e2
  have b1 := Box8.new w t (.slice A' n' c')
  have hB : Below w.heap.size w (w.alloc (.cells #[.int .i64 t.op, .int .u64 (word t.set 0), .int .u64 (word t.set 1), .int .u64 (word t.set 2), .int .u64 (word t.set 3), .int .i64 t.lo, .int .i64 t.hi, .slice A' n' c'] 29)) := (Below.refl _ _).alloc (Nat.le_refl _) _
  obtain ⟨g0, B0, l1, l2, e0, hg0, htk0, hcells0⟩ := kid8 h.tree 0 (List.getElem?_eq_getElem hn0)
  subst e0
  generalize t.kids[0] = u0 at *
  have HE := Lib.hid hE
  have HN := Lib.hid hn
  have HH := Lib.hid h
  have IH := Lib.hid ih
  have HB1 := Lib.hid b1
  have HBD := Lib.hid hbd
  have HC0 := Lib.hid hcells0
  have HN0 := Lib.hid hn0
  unfold EndsFor at IH
  clear hE h2 hn h ih b1 hbd hcells0 htk0 hn0
  generalize hL : xs.length = L at *
  have HL := Lib.hid hL
  clear hL
  unfold nodeP
  go_enter Tryd.func26, Tryd.ntmps26
  go_wp2
  have hW0 : Below w.heap.size w ((w.alloc (.cells #[.int .i64 t.op, .int .u64 (word t.set 0), .int .u64 (word t.set 1), .int .u64 (word t.set 2), .int .u64 (word t.set 3), .int .i64 t.lo, .int .i64 t.hi, .slice (some ⟨g0, 0, none⟩) n' c'] 29)).alloc (.cells #[.int .i64 i] 3)) := hB.alloc hB.size _
  have hI0 : Ints ((w.alloc (.cells #[.int .i64 t.op, .int .u64 (word t.set 0), .int .u64 (word t.set 1), .int .u64 (word t.set 2), .int .u64 (word t.set 3), .int .i64 t.lo, .int .i64 t.hi, .slice (some ⟨g0, 0, none⟩) n' c'] 29)).alloc (.cells #[.int .i64 i] 3)) (w.heap.size + 1) (.slice (some ⟨w.heap.size + 1, 0, none⟩) 1 1) [(i : Int)] := by
    have h := World.ownsRow_lit (base := w.heap.size + 1) (e := 3) (size := 1) (w.alloc (.cells #[.int .i64 t.op, .int .u64 (word t.set 0), .int .u64 (word t.set 1), .int .u64 (word t.set 2), .int .u64 (word t.set 3), .int .i64 t.lo, .int .i64 t.hi, .slice (some ⟨g0, 0, none⟩) n' c'] 29)) #[.int .i64 (i : Int)] 1 (by simp) (by decide) rfl
    rw [World.size_alloc] at h
    exact h
  go_loopg [12, 13, 15] n' (fun m o out i' wr => ∃ (j : Nat) (ln : List Int), i' = .int .i64 (j : Int) ∧ out = .slice none 0 0 ∧ j ≤ n' ∧ m = n' - j ∧ Ints wr (w.heap.size + 1) o ln ∧ Lists (ECat xs (t.kids.take j) i) ln ∧ Box8 wr w.heap.size t (.slice (some ⟨g0, 0, none⟩) n' c') ∧ Below w.heap.size w wr)
  case atStart => exact ⟨0, [(i : Int)], rfl, rfl, Nat.zero_le _, rfl, hI0, (Lists.one i).congr fun j => by simp [ECat]; exact eq_comm, HB1.out.alloc _, hW0⟩
  case round =>
    obtain ⟨j, ln, rfl, rfl, hj, hmj, hown, hls, x1, hW⟩ := hrel
    have HMJ := Lib.hid hmj
    have HLS := Lib.hid hls
    have HOWN := Lib.hid hown
    have hnl : ln.length ≤ L + 1 := hls.len fun x hx => HBD.out _ (List.take_subset _ _) i x hile hx
    obtain ⟨An, cn, hform⟩ := hown.form
    subst hform
    obtain ⟨c0, c1, c2, c3, c4, c5, c6, c7⟩ := x1.cell
    have HX1 := Lib.hid x1
    clear hmj hown hls x1
    by_cases hlt : j < n'
    · have hlt' : j < t.kids.length := by rw [← HN.out]; exact hlt
      obtain ⟨g, B, m1, m2, e1, hg1, htk, hcells⟩ := kid8 HH.out.tree j (List.getElem?_eq_getElem hlt')
      injection e1 with e1
      injection e1 with e1
      subst e1
      have hks := kid_size t j hlt'
      have hum : t.kids[j]'hlt' ∈ t.kids := List.getElem_mem hlt'
      have hst := ECat_take (xs := xs) t.kids j hlt' i
      generalize t.kids[j] = u at *
      have HCk : ∀ q v, (nodeC u (.slice B m1 m2))[q]? = some v → wr.cell? ⟨g0, j * 8 + q, none⟩ = some v := fun q v h => by rw [Nat.mul_comm j 8]; exact (hW.cell (p := ⟨g0, 8 * j + q, none⟩) hg1).trans (hcells q v h)
      have HCz : ∀ q v, (nodeC u0 (.slice B0 l1 l2))[q]? = some v → wr.cell? ⟨g0, q, none⟩ = some v := fun q v h => by
        have := (hW.cell (p := ⟨g0, 8 * 0 + q, none⟩) hg1).trans (HC0.out q v h)
        rwa [Nat.mul_zero, Nat.zero_add] at this
      have k0 : wr.cell? ⟨g0, j * 8, none⟩ = _ := HCk 0 _ rfl
      have k1 := HCk 1 _ rfl
      have k2 := HCk 2 _ rfl
      have k3 := HCk 3 _ rfl
      have k4 := HCk 4 _ rfl
      have k5 := HCk 5 _ rfl
      have k6 := HCk 6 _ rfl
      have k7 := HCk 7 _ rfl
      have z0 := HCz 0 _ rfl
      have z1 := HCz 1 _ rfl
      have z2 := HCz 2 _ rfl
      have z3 := HCz 3 _ rfl
      have z4 := HCz 4 _ rfl
      have z5 := HCz 5 _ rfl
      have z6 := HCz 6 _ rfl
      have z7 := HCz 7 _ rfl
      have HST := Lib.hid hst
      have HTK := Lib.hid htk
      have hg2 : g0 < wr.heap.size := Nat.lt_of_lt_of_le hg1 hW.size
      have hw2 : w.heap.size < wr.heap.size := HX1.out.lt
      clear HCk HCz hcells htk hst
      generalize hln : ln.length = M at *
      have HLN := Lib.hid hln
      clear hln
      have bk := Box8.new wr u (.slice B m1 m2)
      have hb3 : Below wr.heap.size wr (wr.alloc (.cells #[.int .i64 u.op, .int .u64 (word u.set 0), .int .u64 (word u.set 1), .int .u64 (word u.set 2), .int .u64 (word u.set 3), .int .i64 u.lo, .int .i64 u.hi, .slice B m1 m2] 29)) := (Below.refl _ _).alloc (Nat.le_refl _) _
      go_upto_region 30 with fail
      clear k0 k1 k2 k3 k4 k5 k6 k7 z0 z1 z2 z3 z4 z5 z6 z7 c0 c1 c2 c3 c4 c5 c6 c7
      generalize wr.alloc (.cells #[.int .i64 u.op, .int .u64 (word u.set 0), .int .u64 (word u.set 1), .int .u64 (word u.set 2), .int .u64 (word u.set 3), .int .i64 u.lo, .int .i64 u.hi, .slice B m1 m2] 29) = w3 at *
      have hW3 := gro hW hb3
      have hI3 := HOWN.out.stays hb3
      have x3 := HX1.out.stays hb3
      have t3 := (HTK.out.stays hW).stays hb3
      have a3 : EndsAsk w3 ok u (.slice B m1 m2) xs A 0 := HH.out.kid hum HTK.out hW3 (by omega)
      obtain ⟨c0, c1, c2, c3, c4, c5, c6, c7⟩ := x3.cell
      have BK := Lib.hid bk
      have HI3 := Lib.hid hI3
      have HX3 := Lib.hid x3
      have HA3 := Lib.hid a3
      clear bk hI3 x3 t3 a3 HTK HOWN HX1 hum hb3 hW
      generalize wr.heap.size = Kb at *
      go_wp2
      clear c0 c1 c2 c3 c4 c5 c6 c7
      go_loopg [18, 19] M (fun m' nx kk wq => ∃ (q : Nat) (lx : List Int), kk = .int .i64 (q : Int) ∧ q ≤ M ∧ m' = M - q ∧ Ints wq w3.heap.size nx lx ∧ Lists (fun x => ∃ y : Nat, (y : Int) ∈ ln.take q ∧ E xs u y x) lx ∧ Below w3.heap.size w3 wq)
      case atStart => exact ⟨0, [], rfl, Nat.zero_le _, rfl, Ints.nil _ _, Lists.nil.congr fun x => ⟨fun h => h.elim, fun ⟨y, hy, _⟩ => by simp at hy⟩, Below.refl _ _⟩
      case round =>
        obtain ⟨q, lx, rfl, hq, hmq, hnx, hlx, hWq⟩ := hrel
        have HMQ := Lib.hid hmq
        have HNX := Lib.hid hnx
        have HLX := Lib.hid hlx
        clear hmq hnx hlx
        by_cases hqt : q < M
        · have hqt' : q < ln.length := by rw [HLN.out]; exact hqt
          obtain ⟨gn, cn', e2, _, _, hc2⟩ := (HI3.out.stays hWq).at q hqt'
          injection e2 with e3 e4 e5
          subst e3 e5
          clear e4
          obtain ⟨y, hy, hPy⟩ := HLS.out.bound q hqt'
          have hyL : y ≤ L := HBD.out _ (List.take_subset _ _) i y hile hPy
          rw [hy] at hc2
          have hsnoc : ∀ z : Nat, (z : Int) ∈ ln.take (q + 1) ↔ (z : Int) ∈ ln.take q ∨ z = y := by
            intro z
            rw [List.take_succ_eq_append_getElem hqt', hy]
            simp only [List.mem_append, List.mem_singleton]
            constructor
            · rintro (h | h)
              · exact .inl h
              · exact .inr (by omega)
            · rintro (h | h)
              · exact .inl h
              · exact .inr (by omega)
          have HSN := Lib.hid hsnoc
          obtain ⟨b0, b1, b2, b3, b4, b5, b6, b7⟩ := (BK.out.stays hWq).cell
          have q0 : (0 : Int) ≤ (q : Int) := by omega
          have q1 : (q : Int) < (M : Int) := by omega
          have hlxl : lx.length ≤ L + 1 := HLX.out.len fun x hx => by
            obtain ⟨z, hz, hE⟩ := hx
            have hz2 : (z : Int) ∈ ln := List.mem_of_mem_take hz
            obtain ⟨z', e, hP⟩ := (HLS.out.2 _).1 hz2
            have ez : z = z' := by omega
            subst ez
            have := HBD.out _ (List.take_subset _ _) i z hile hP
            have := (E_bd HA3.out.wf z x (by rw [HL.out]; exact this) hE).2
            rw [HL.out] at this
            exact this
          have hub : ∀ x, E xs u y x → x ≤ L := fun x hx => by
            have := (E_bd HA3.out.wf y x (by rw [HL.out]; exact hyL) hx).2
            rw [HL.out] at this
            exact this
          have HUB := Lib.hid hub
          have hcall : ∀ W, Below wr.heap.size wr W → Calls Tryd.prog 26 #[nodeP u (.slice B m1 m2), .slice A L c, .int .i64 y] W (fun e w5 => ∃ Al cl l, e = .returned (.slice Al l.length cl) ∧ Two w5 w3.heap.size u18 lx W.heap.size (.slice Al l.length cl) l ∧ Below w3.heap.size w3 w5 ∧ l.length ≤ L + 1 ∧ Lists (E xs u y) l) := fun W hbW => by
            have ha : EndsAsk W ok u (.slice B m1 m2) xs A y := ⟨HA3.out.wf, (HA3.out.tree.stays hWq).stays hbW, ((HA3.out.rd.below hWq).below (hbW.mono hWq.size)).more (Nat.le_trans hWq.size hbW.size), HA3.out.byte, HA3.out.len, by rw [HL.out]; exact hyL⟩
            have hc := IH.out u W ok (.slice B m1 m2) xs A y c (by omega) ha
            rw [HL.out] at hc
            refine hc.mono fun e w5 h5 => ?_
            obtain ⟨vl, l, he, hvl, hlsl, hb5⟩ := h5
            obtain ⟨Al, cl, hform⟩ := hvl.form
            subst hform
            exact ⟨Al, cl, l, he, Two.start (HNX.out.stays hbW) hb5 hvl, gro (gro hWq hbW) hb5, hlsl.len HUB.out, hlsl⟩
          unfold nodeP at hcall
          have HK := Lib.hid hcall
          clear hsnoc hub hcall hPy hyL
          go_wp2_with fail
          go_still_tail 6, (by kernel_rfl)
          change wpList _ _ _ _ _ wr.drew
          go_wp2_with (go_at_call 26; (with_reducible refine (HK.out wr.drew ((Below.refl _ _).drew)).mono ?_); rintro e w5 ⟨Al, cl, l, rfl, htwo, hW5, hll, hlsl⟩; have HLSL := Lib.hid hlsl; clear hlsl)
          have HTWO := Lib.hid htwo
          clear htwo b0 b1 b2 b3 b4 b5 b6 b7 hc2
          generalize hll2 : l.length = M2 at *
          generalize wr.drew.heap.size = C at HTWO
          have HLL := Lib.hid hll2
          clear hll2
          go_loopg [18, 21] M2 (fun m' o' kk wq => ∃ r : Nat, kk = .int .i64 (r : Int) ∧ r ≤ M2 ∧ m' = M2 - r ∧ Two wq w3.heap.size o' (addAll lx (l.take r)) C (.slice Al M2 cl) l ∧ Below w3.heap.size w3 wq)
          case atStart => exact ⟨0, rfl, Nat.zero_le _, rfl, HTWO.out, hW5⟩
          case round =>
            obtain ⟨r, rfl, hr, hmr, htw, hWr⟩ := hrel
            have HMR := Lib.hid hmr
            have HTW := Lib.hid htw
            clear hmr htw
            by_cases hrt : r < M2
            · have hrt' : r < l.length := by rw [HLL.out]; exact hrt
              obtain ⟨gl, cl', e2, _, _, hc2⟩ := HTW.out.one.at r hrt'
              injection e2 with e3 e4 e5
              subst e3 e5
              clear e4
              have hat := addAll_take lx l r hrt'
              generalize l[r]'hrt' = x at *
              have HAT := Lib.hid hat
              have hsz : (addAll lx (l.take r)).length ≤ 1000000 := by
                have h1 := addAll_len (l.take r) lx
                rw [List.length_take] at h1
                omega
              have HADD := Lib.hid (add_p wr w3.heap.size u18 (addAll lx (l.take r)) x HTW.out.out hWr.size hsz)
              clear hat hsz
              unfold RetAdd at HADD
              go_wp2_with (go_at_call 41; (with_reducible refine HADD.out.mono ?_); rintro e w6 ⟨v6, rfl, hi6, hg6, hv6⟩)
              go_roundg (M2 - (r + 1))
              case measure => have := HMR.out; omega
              case rel =>
                refine ⟨r + 1, by go_num, by omega, rfl, ?_, hWr.grown hg6 hWr.size (row_at HTW.out.out)⟩
                rw [HAT.out]
                exact HTW.out.added hi6 hg6 hv6
            · have hqn : l.take r = l := List.take_of_length_le (by rw [HLL.out]; omega)
              rw [hqn] at HTW
              go_wp2
              go_roundg (M - (q + 1))
              case measure => have := HMQ.out; omega
              case rel =>
                refine ⟨q + 1, addAll lx l, by go_num, by omega, rfl, HTW.out.out, (HLX.out.add HLSL.out).congr fun x => ?_, hWr⟩
                constructor
                · rintro (⟨z, h1, h2⟩ | h2)
                  · exact ⟨z, (HSN.out z).2 (.inl h1), h2⟩
                  · exact ⟨y, (HSN.out y).2 (.inr rfl), h2⟩
                · rintro ⟨z, h1, h2⟩
                  rcases (HSN.out z).1 h1 with h1 | rfl
                  · exact .inl ⟨z, h1, h2⟩
                  · exact .inr h2
        · have hqn : ln.take q = ln := List.take_of_length_le (by rw [HLN.out]; omega)
          rw [hqn] at HLX
          have HNEW : Hid (Lists (ECat xs (t.kids.take (j + 1)) i) lx) := HLX.out.congr fun x => by
            rw [HST.out]
            constructor
            · rintro ⟨y, h1, h2⟩
              obtain ⟨y', e, hP⟩ := (HLS.out.2 _).1 h1
              have ey : y = y' := by omega
              subst ey
              exact ⟨y, hP, h2⟩
            · rintro ⟨y, h1, h2⟩
              exact ⟨y, (HLS.out.2 _).2 ⟨y, rfl, h1⟩, h2⟩
          obtain ⟨Ax, cx, hfx⟩ := HNX.out.form
          subst hfx
          generalize hxl : lx.length = X at *
          have HXL := Lib.hid hxl
          clear hqn hxl
          have hlxl : X ≤ L + 1 := by
            rw [← HXL.out]
            exact HNEW.out.len fun x hx => HBD.out _ (List.take_subset _ _) i x hile hx
          go_wp2
          obtain ⟨w4, hw4⟩ : ∃ w4, w4 = wr := ⟨_, rfl⟩
          rw [← hw4] at HNX hWq ⊢
          clear hw4
          have HI4 := Lib.hid (HI3.out.stays hWq)
          have HX4 := Lib.hid (HX3.out.stays hWq)
          have HW4 := Lib.hid (gro hW3 hWq)
          go_loopg [22, 23] M (fun m' st kk wq => ∃ (r : Nat) (b : Bool), kk = .int .i64 (r : Int) ∧ st = .bool b ∧ r ≤ M ∧ m' = M - r ∧ (b = true → M = X ∧ ∀ k, k < r → ln[k]? = lx[k]?) ∧ Below w4.heap.size w4 wq)
          case atStart => exact ⟨0, _, rfl, rfl, Nat.zero_le _, rfl, fun e => ⟨by have e' := of_decide_eq_true e; omega, fun k hk => by omega⟩, Below.refl _ _⟩
          case round =>
            obtain ⟨r, b, rfl, rfl, hr, hmr, heq, hWr⟩ := hrel
            have HMR := Lib.hid hmr
            have HEQ := Lib.hid heq
            clear hmr heq
            obtain ⟨c0, c1, c2, c3, c4, c5, c6, c7⟩ := (HX4.out.stays hWr).cell
            cases b
            · by_cases hrt : r < M
              all_goals
                go_wp2
                go_roundg (n' - (j + 1))
                case measure => have := HMJ.out; omega
                case rel => exact ⟨j + 1, lx, by go_num, rfl, by omega, rfl, (HNX.out.stays hWr).lower (by have := BK.out.lt; omega), HNEW.out, HX4.out.stays hWr, gro HW4.out hWr⟩
            · have hMX := (HEQ.out rfl).1
              have HPRE := Lib.hid (HEQ.out rfl).2
              by_cases hrt : r < M
              · have hr1 : r < ln.length := by rw [HLN.out]; exact hrt
                have hr2 : r < lx.length := by rw [HXL.out]; omega
                obtain ⟨ga, ca, e2, _, _, hca⟩ := (HI4.out.stays hWr).at r hr1
                have HNX2 := HNX.out.stays hWr
                rw [← HXL.out] at HNX2
                obtain ⟨gb, cb, e6, _, _, hcb⟩ := HNX2.at r hr2
                injection e2 with e3 e4 e5
                injection e6 with e7 e8 e9
                subst e3 e5 e7 e9
                clear e4 e8 HNX2
                have h1 := List.getElem?_eq_getElem hr1
                have h2 := List.getElem?_eq_getElem hr2
                generalize ln[r]'hr1 = x1 at *
                generalize lx[r]'hr2 = x2 at *
                have H1 := Lib.hid h1
                have H2 := Lib.hid h2
                have HMX := Lib.hid hMX
                have r0 : (0 : Int) ≤ (r : Int) := by omega
                have r1 : (r : Int) < (M : Int) := by omega
                have r2 : (r : Int) < (X : Int) := by omega
                clear h1 h2 hMX
                go_wp2_with fail
                go_quiet (fail)
                go_wp2
                go_roundg (M - (r + 1))
                case measure => have := HMR.out; omega
                case rel =>
                  refine ⟨r + 1, x1 == x2, by go_num, rfl, by omega, rfl, fun e => ⟨HMX.out, fun k hk => ?_⟩, below_drewN hWr _⟩
                  by_cases hkr : k < r
                  · exact HPRE.out k hkr
                  · have hkr' : k = r := by omega
                    subst hkr'
                    rw [H1.out, H2.out]
                    have := eq_of_beq e
                    rw [this]
              · all_goals
                go_wp2
                go_roundg (n' - (j + 1))
                case measure => have := HMJ.out; omega
                case rel => exact ⟨j + 1, lx, by go_num, rfl, by omega, rfl, (HNX.out.stays hWr).lower (by have := BK.out.lt; omega), HNEW.out, HX4.out.stays hWr, gro HW4.out hWr⟩
    · have hjn : j = t.kids.length := by rw [← HN.out]; omega
      have hwhole : t.kids.take j = t.kids := by rw [hjn]; exact List.take_length
      rw [hwhole] at HLS
      have hI5 := HOWN.out
      generalize hln : ln.length = M at *
      have HLN := Lib.hid hln
      have HI5 := Lib.hid hI5
      clear hln hjn hwhole hI5 HOWN
      go_wp2
      obtain ⟨w4, hw4⟩ : ∃ w4, w4 = wr := ⟨_, rfl⟩
      rw [← hw4] at HI5 HX1 hW ⊢
      clear hw4 c0 c1 c2 c3 c4 c5 c6 c7
      go_loopg [13, 24] M (fun m' o' kk wq => ∃ r : Nat, kk = .int .i64 (r : Int) ∧ r ≤ M ∧ m' = M - r ∧ Ints wq w4.heap.size o' (addAll [] (ln.take r)) ∧ Below w4.heap.size w4 wq)
      case atStart => exact ⟨0, rfl, Nat.zero_le _, rfl, Ints.nil _ _, Below.refl _ _⟩
      case round =>
        obtain ⟨r, rfl, hr, hmr, hout, hWr⟩ := hrel
        have HMR := Lib.hid hmr
        have HOUT := Lib.hid hout
        clear hmr hout
        by_cases hrt : r < M
        · have hrt' : r < ln.length := by rw [HLN.out]; exact hrt
          obtain ⟨gl, cl', e2, _, _, hc2⟩ := (HI5.out.stays hWr).at r hrt'
          injection e2 with e3 e4 e5
          subst e3 e5
          clear e4
          have hat := addAll_take [] ln r hrt'
          generalize ln[r]'hrt' = x at *
          have HAT := Lib.hid hat
          have hsz : (addAll [] (ln.take r)).length ≤ 1000000 := by
            have h1 := addAll_len (ln.take r) []
            rw [List.length_take] at h1
            simp only [List.length_nil] at h1
            omega
          have HADD := Lib.hid (add_p wr w4.heap.size u13 (addAll [] (ln.take r)) x HOUT.out hWr.size hsz)
          clear hat hsz
          unfold RetAdd at HADD
          go_wp2_with (go_at_call 41; (with_reducible refine HADD.out.mono ?_); rintro e w6 ⟨v6, rfl, hi6, hg6, hv6⟩)
          go_roundg (M - (r + 1))
          case measure => have := HMR.out; omega
          case rel =>
            refine ⟨r + 1, by go_num, by omega, rfl, ?_, hWr.grown hg6 hWr.size (row_at HOUT.out)⟩
            rw [HAT.out]
            exact hi6
        · have hqn : ln.take r = ln := List.take_of_length_le (by rw [HLN.out]; omega)
          rw [hqn] at HOUT
          go_wp2
          go_ret
          refine ⟨_, addAll [] ln, rfl, HOUT.out.lower (by have := hW.size; omega), (Lists.nil.add HLS.out).congr fun x => ?_, gro hW hWr⟩
          rw [HE.out]
          simp

end Go.Proofs.YtlnanelejaddiaaDoor

/-
  lang.part.ends, whatever the pattern. Contracts for other texts; no statement of its own.
-/
namespace Go.Proofs.YtlnanelejaddiaaDoor
open Go Go.RowKit
attribute [local go_sem ↓] Go.wp_at_zero Go.wp_at_succ

theorem RetEndsP.congr {B : Nat} {w w' : World} {xs : List Int} {Γ : Ghost} {P Q : Nat → Prop} {e : Ending} (h : RetEndsP B w xs Γ P e w') (hq : ∀ x, P x ↔ Q x) : RetEndsP B w xs Γ Q e w' := by
  obtain ⟨v, q, Γ', h1, h2, h3, h4, h5⟩ := h
  exact ⟨v, q, Γ', h1, h2, h3, h4, fun x => (h5 x).trans (hq x)⟩


set_option maxRecDepth 20000 in
set_option maxHeartbeats 2000000 in
theorem pends_cat {w : World} {B c : Nat} {xs : List Int} {A : Option Addr} {Γ : Ghost} {g o : Nat} {l : List T} {v : Value} {q : Nat → Bool} (ih : ∀ u ∈ l, EndsP u) (h : Ask w B xs A Γ) (e : Γ.F g o = some (.mk 2 noneP 0 0 l)) (hv : InW w xs v q) :
    Calls Tryd.prog 23 #[.pointer (some ⟨g, o, none⟩), .slice A xs.length c, v] w (RetEndsP B w xs Γ (img (ECat xs l) fun i => q i = true)) := by
  have hkid : ∀ W Γ' (j : Nat) (hj : j < l.length), Ask W B xs A Γ' → Γ'.F g o = some (.mk 2 noneP 0 0 l) → Calls Tryd.prog 36 #[.pointer (some ⟨g, o, none⟩), .int .i64 j] W (RetKid B W xs Γ' (l[j]'hj)) := fun W Γ' j hj ha he => kid_p ha.inv.inv ha.le he j hj
  unfold RetKid at hkid
  have hend : ∀ u, u ∈ l → ∀ W Γ' g' o' v' q', Ask W B xs A Γ' → Γ'.F g' o' = some u → InW W xs v' q' → Calls Tryd.prog 23 #[.pointer (some ⟨g', o', none⟩), .slice A xs.length c, v'] W (RetEndsP B W xs Γ' (img (E xs u) fun i => q' i = true)) := fun u hu W Γ' g' o' v' q' ha he hv => ih u hu W B c xs A Γ' g' o' v' q' ha he hv
  unfold RetEndsP at hend
  have hm : xs.length / 64 + 1 ≤ 1000000 := by have := h.len; omega
  have hm0 : 0 < xs.length / 64 + 1 := by omega
  have hp := (h.inv.inv.part g o _ e).2
  have hlen := h.len
  have hn202 : l.length ≤ 202 := by
    have hwf := hp.wf
    cases hwf <;> assumption
  obtain ⟨gn, on, kn, n1, n2, n3, curn, n4⟩ := hp.node
  obtain ⟨A', nk, ck, rfl⟩ := n3.form
  obtain ⟨hnk, _⟩ := n3.bound
  have hnl : nk = l.length := hnk
  have n0 : w.cell? ⟨gn, on, none⟩ = some (.int .i64 2) := n2 0 _ rfl
  have n7 : w.cell? ⟨gn, on + 7, none⟩ = some (.slice A' nk ck) := n2 7 _ rfl
  have HKID := Lib.hid hkid
  have HEND := Lib.hid hend
  have HH := Lib.hid h
  have HE := Lib.hid e
  have HV := Lib.hid hv
  have HNL := Lib.hid (fun _ : Unit => hnl)
  have HNW := Lib.hid (nowhere_p w xs.length (by omega))
  unfold RetPl at HNW
  have HGN := Lib.hid (lt_of_some n4)
  have hnk2 : nk ≤ 202 := by omega
  clear hkid hend h e hv hp n2 n3 hnk hnl n4 ih hn202
  go_enter Tryd.func23, Tryd.ntmps23
  go_wp2
  go_loopg [2, 33] nk (fun m' now i wr => ∃ (j : Nat) (q' : Nat → Bool) (Γ' : Ghost), i = .int .i64 (j : Int) ∧ j ≤ nk ∧ m' = nk - j ∧ Ask wr B xs A Γ' ∧ Ext B w wr Γ Γ' ∧ InW wr xs now q' ∧ ∀ x, q' x = true ↔ img (ECat xs (l.take j)) (fun i => q i = true) x)
  case atStart => exact ⟨0, q, Γ, rfl, Nat.zero_le _, rfl, HH.out, Ext.refl _ _ _, HV.out, fun x => by simp [img, ECat]⟩
  case round =>
    obtain ⟨j, q1, Γ1, rfl, hj, hmj, ha1, hx1, hv1, hq1⟩ := hrel
    have HMJ := Lib.hid hmj
    have HA1 := Lib.hid ha1
    have HX1 := Lib.hid hx1
    have HV1 := Lib.hid hv1
    have HQ1 := Lib.hid hq1
    clear hmj ha1 hx1 hv1 hq1
    by_cases hlt : j < nk
    · have hji : (j : Int) < (nk : Int) := by omega
      have hjl : j < l.length := by have := HNL.out (); omega
      have HNO := Lib.hid (none_p wr 0 (xs.length / 64 + 1) u2 q1 HV1.out.pl hm0 hm)
      have hst : ∀ x, img (E xs (l[j]'hjl)) (fun i => q1 i = true) x ↔ img (ECat xs (l.take (j + 1))) (fun i => q i = true) x := fun x => by
        rw [img_congr (fun i => HQ1.out i) x]
        constructor
        · rintro ⟨y, ⟨i, hi, h1⟩, h2⟩
          exact ⟨i, hi, (ECat_take l j hjl i x).2 ⟨y, h1, h2⟩⟩
        · rintro ⟨i, hi, h1⟩
          obtain ⟨y, h2, h3⟩ := (ECat_take l j hjl i x).1 h1
          exact ⟨y, ⟨i, hi, h2⟩, h3⟩
      have HST := Lib.hid hst
      have HKJ := Lib.hid (HKID.out wr Γ1 j hjl HA1.out (HX1.out.F _ _ _ HE.out))
      have HMEM := Lib.hid (List.getElem_mem hjl)
      clear hst
      generalize l[j]'hjl = u at *
      go_wp2_with fail
      go_at_call 35
      with_reducible refine HNO.out.mono ?_
      rintro e6 w6 ⟨b6, rfl, hb6, rfl⟩
      have HB6 := Lib.hid hb6
      clear hb6 HNO
      cases b6
      · go_wp2_with (first
          | (go_at_call 36; (with_reducible refine HKJ.out.mono ?_); rintro e1 w1 ⟨g1, o1, Γ2, rfl, hf1, hi1, hx2, hM2⟩; have HA2 := Lib.hid (ask_kid HA1.out hi1 hx2 hM2); have HX2 := Lib.hid hx2; have HF1 := Lib.hid hf1; clear hf1 hi1 hx2 hM2)
          | (go_at_call 23; (with_reducible refine (HEND.out u HMEM.out _ _ _ _ _ _ HA2.out HF1.out (HV1.out.ext HX2.out)).mono ?_); rintro e2 w2 ⟨v2, q2, Γ3, rfl, hi3, hx3, hv3, hq3⟩; have HA3 := Lib.hid (HA2.out.ext hx3 hi3); have HX3 := Lib.hid hx3; have HV3 := Lib.hid hv3; have HQ3 := Lib.hid hq3; clear hi3 hx3 hv3 hq3))
        go_roundg (nk - (j + 1))
        case measure => have := HMJ.out; omega
        case rel => exact ⟨j + 1, q2, Γ3, by go_num, by omega, rfl, HA3.out, (HX1.out.trans HX2.out).trans HX3.out, HV3.out, fun x => (HQ3.out x).trans (HST.out x)⟩
      · go_wp2
        go_ret
        refine ⟨u2, q1, Γ1, rfl, HA1.out.inv, HX1.out, HV1.out, fun x => ?_⟩
        have hz : ∀ x, ¬ q1 x = true := fun x hx => by
          have h1 := HV1.out.le x hx
          have h2 := HB6.out.1 (by trivial) x (by omega)
          rw [h2] at hx
          cases hx
        constructor
        · intro hx; exact absurd hx (hz x)
        · rintro ⟨i, hi, hE⟩
          have hsp : l = l.take j ++ l.drop j := (List.take_append_drop j l).symm
          rw [hsp, ECat_app] at hE
          obtain ⟨y, h1, _⟩ := hE
          exact absurd ((HQ1.out y).2 ⟨i, hi, h1⟩) (hz y)
    · have hjn : j = l.length := by have := HNL.out (); omega
      have hji : ¬ ((j : Int) < (nk : Int)) := by omega
      have HJN := Lib.hid (fun _ : Unit => hjn)
      clear hlt hjn
      go_wp2
      go_ret
      refine ⟨u2, q1, Γ1, rfl, HA1.out.inv, HX1.out, HV1.out, fun x => ?_⟩
      have := HQ1.out x
      rwa [HJN.out (), List.take_length] at this

theorem EAny_take2 {xs : List Int} {l : List T} {j : Nat} (h : j < l.length) {S : Nat → Prop} (x : Nat) : img (EAny xs (l.take (j + 1))) S x ↔ img (EAny xs (l.take j)) S x ∨ img (E xs (l[j]'h)) S x := by
  constructor
  · rintro ⟨i, hi, h1⟩
    rcases (EAny_take l j h i x).1 h1 with h2 | h2
    · exact .inl ⟨i, hi, h2⟩
    · exact .inr ⟨i, hi, h2⟩
  · rintro (⟨i, hi, h1⟩ | ⟨i, hi, h1⟩)
    · exact ⟨i, hi, (EAny_take l j h i x).2 (.inl h1)⟩
    · exact ⟨i, hi, (EAny_take l j h i x).2 (.inr h1)⟩

set_option maxRecDepth 20000 in
set_option maxHeartbeats 2000000 in
theorem pends_alt {w : World} {B c : Nat} {xs : List Int} {A : Option Addr} {Γ : Ghost} {g o : Nat} {l : List T} {v : Value} {q : Nat → Bool} (ih : ∀ u ∈ l, EndsP u) (h : Ask w B xs A Γ) (e : Γ.F g o = some (.mk 3 noneP 0 0 l)) (hv : InW w xs v q) :
    Calls Tryd.prog 23 #[.pointer (some ⟨g, o, none⟩), .slice A xs.length c, v] w (RetEndsP B w xs Γ (img (EAny xs l) fun i => q i = true)) := by
  have hkid : ∀ W Γ' (j : Nat) (hj : j < l.length), Ask W B xs A Γ' → Γ'.F g o = some (.mk 3 noneP 0 0 l) → Calls Tryd.prog 36 #[.pointer (some ⟨g, o, none⟩), .int .i64 j] W (RetKid B W xs Γ' (l[j]'hj)) := fun W Γ' j hj ha he => kid_p ha.inv.inv ha.le he j hj
  unfold RetKid at hkid
  have hend : ∀ u, u ∈ l → ∀ W Γ' g' o' v' q', Ask W B xs A Γ' → Γ'.F g' o' = some u → InW W xs v' q' → Calls Tryd.prog 23 #[.pointer (some ⟨g', o', none⟩), .slice A xs.length c, v'] W (RetEndsP B W xs Γ' (img (E xs u) fun i => q' i = true)) := fun u hu W Γ' g' o' v' q' ha he hv => ih u hu W B c xs A Γ' g' o' v' q' ha he hv
  unfold RetEndsP at hend
  have hm : xs.length / 64 + 1 ≤ 1000000 := by have := h.len; omega
  have hm0 : 0 < xs.length / 64 + 1 := by omega
  have hp := (h.inv.inv.part g o _ e).2
  have hlen := h.len
  have hn202 : l.length ≤ 202 := by
    have hwf := hp.wf
    cases hwf <;> assumption
  obtain ⟨gn, on, kn, n1, n2, n3, curn, n4⟩ := hp.node
  obtain ⟨A', nk, ck, rfl⟩ := n3.form
  obtain ⟨hnk, _⟩ := n3.bound
  have hnl : nk = l.length := hnk
  have n0 : w.cell? ⟨gn, on, none⟩ = some (.int .i64 3) := n2 0 _ rfl
  have n7 : w.cell? ⟨gn, on + 7, none⟩ = some (.slice A' nk ck) := n2 7 _ rfl
  have HKID := Lib.hid hkid
  have HEND := Lib.hid hend
  have HH := Lib.hid h
  have HE := Lib.hid e
  have HV := Lib.hid hv
  have HNL := Lib.hid (fun _ : Unit => hnl)
  have HNW := Lib.hid (nowhere_p w xs.length (by omega))
  unfold RetPl at HNW
  have HGN := Lib.hid (lt_of_some n4)
  have hnk2 : nk ≤ 202 := by omega
  clear hkid hend h e hv hp n2 n3 hnk hnl n4 ih hn202
  go_enter Tryd.func23, Tryd.ntmps23
  have N1 := Lib.hid n1
  have N7 := Lib.hid n7
  have HGW := Lib.hid (HH.out.inv.inv.old HE.out)
  go_wp2_with (go_at_call 37; (with_reducible refine HNW.out.mono ?_); rintro e1 w1 ⟨vg, rfl, hvg, hb1⟩; have k1 := (hb1.cell (p := ⟨g, o, none⟩) HGW.out).trans N1.out; have k7 := (hb1.cell (p := ⟨gn, on + 7, none⟩) HGN.out).trans N7.out; have HVG := Lib.hid hvg; have HB1 := Lib.hid hb1; clear hvg hb1)
  have HMI := Lib.hid (Mine.new (w0 := w) HH.out.inv HVG.out (Nat.le_refl _))
  have HA0 := Lib.hid (HH.out.stays HB1.out)
  have HX0 := Lib.hid (Ext.stays Γ HB1.out HH.out.le)
  have HV0 := Lib.hid (HV.out.stays HB1.out)
  clear k1 k7
  go_loopg [59] nk (fun m' i wr => ∃ (j : Nat) (qg : Nat → Bool) (Γ' : Ghost), i = .int .i64 (j : Int) ∧ j ≤ nk ∧ m' = nk - j ∧ Ask wr B xs A Γ' ∧ Ext B w wr Γ Γ' ∧ InW wr xs v q ∧ Mine w wr B Γ' vg (xs.length / 64 + 1) qg ∧ (∀ x, qg x = true → x ≤ xs.length) ∧ ∀ x, qg x = true ↔ img (EAny xs (l.take j)) (fun i => q i = true) x)
  case atStart => exact ⟨0, noneP, Γ, rfl, Nat.zero_le _, rfl, HA0.out, HX0.out, HV0.out, HMI.out, fun x hx => by simp [noneP] at hx, fun x => by simp [img, EAny, noneP]⟩
  case round =>
    obtain ⟨j, qg, Γ1, rfl, hj, hmj, ha1, hx1, hv1, hg1, hle1, hq1⟩ := hrel
    have HMJ := Lib.hid hmj
    have HA1 := Lib.hid ha1
    have HX1 := Lib.hid hx1
    have HV1 := Lib.hid hv1
    have HG1 := Lib.hid hg1
    have HLE1 := Lib.hid hle1
    have HQ1 := Lib.hid hq1
    clear hmj ha1 hx1 hv1 hg1 hle1 hq1
    by_cases hlt : j < nk
    · have hji : (j : Int) < (nk : Int) := by omega
      have hjl : j < l.length := by have := HNL.out (); omega
      have HST := Lib.hid (fun x => EAny_take2 (xs := xs) hjl (S := fun i => q i = true) x)
      have HKJ := Lib.hid (HKID.out wr Γ1 j hjl HA1.out (HX1.out.F _ _ _ HE.out))
      have HMEM := Lib.hid (List.getElem_mem hjl)
      generalize l[j]'hjl = u at *
      go_wp2_with (first
        | (go_at_call 36; (with_reducible refine HKJ.out.mono ?_); rintro e1 w1 ⟨g1, o1, Γ2, rfl, hf1, hi1, hx2, hM2⟩; have HA2 := Lib.hid (ask_kid HA1.out hi1 hx2 hM2); have HX2 := Lib.hid hx2; have HF1 := Lib.hid hf1; clear hf1 hi1 hx2 hM2)
        | (go_at_call 23; (with_reducible refine (HEND.out u HMEM.out _ _ _ _ _ _ HA2.out HF1.out (HV1.out.ext HX2.out)).mono ?_); rintro e2 w2 ⟨v2, q2, Γ3, rfl, hi3, hx3, hv3, hq3⟩; have HA3 := Lib.hid (HA2.out.ext hx3 hi3); have HX3 := Lib.hid hx3; have HV3 := Lib.hid hv3; have HQ3 := Lib.hid hq3; have HG3 := Lib.hid ((HG1.out.ext HX2.out).ext hx3); have HX4 := Lib.hid ((HX1.out.trans HX2.out).trans hx3); have hjo := pljoin_p w2 w.heap.size 0 (xs.length / 64 + 1) vg v2 qg q2 HG3.out.pl hv3.pl HX4.out.below.size hm0 hm; unfold RetOwn at hjo; have HJO := Lib.hid hjo; clear hi3 hx3 hv3 hq3 hjo)
        | (go_at_call 38; (with_reducible refine HJO.out.mono ?_); rintro e7 w7 ⟨rfl, hv7, hg7⟩; have HV7 := Lib.hid hv7; have HG7 := Lib.hid hg7; clear hv7 hg7))
      go_roundg (nk - (j + 1))
      case measure => have := HMJ.out; omega
      case rel =>
        obtain ⟨z1, z2, z3⟩ := HG3.out.set hm0 HA3.out.inv HX4.out HV7.out HG7.out HH.out.le
        have hin : InW w7 xs v q := by
          have h1 := (HV1.out.ext HX2.out).ext HX3.out
          have h2 := HV.out.ext z2
          exact h2
        refine ⟨j + 1, orP qg q2, Γ3, by go_num, by omega, rfl, HH.out.ext z2 z1, z2, hin, z3, fun x hx => ?_, fun x => ?_⟩
        · simp only [orP, Bool.or_eq_true] at hx
          rcases hx with hx | hx
          · exact HLE1.out x hx
          · exact HV3.out.le x hx
        · rw [HST.out x, ← HQ1.out x, ← HQ3.out x]
          simp [orP]
    · have hjn : j = l.length := by have := HNL.out (); omega
      have hji : ¬ ((j : Int) < (nk : Int)) := by omega
      have HJN := Lib.hid (fun _ : Unit => hjn)
      clear hlt hjn
      go_wp2
      go_ret
      refine ⟨vg, qg, Γ1, rfl, HA1.out.inv, HX1.out, ⟨HG1.out.pl.lower (Nat.zero_le _), HLE1.out⟩, fun x => ?_⟩
      have := HQ1.out x
      rwa [HJN.out (), List.take_length] at this

set_option maxRecDepth 20000 in
set_option maxHeartbeats 1000000 in
theorem pends_one {w : World} {B c : Nat} {xs : List Int} {A : Option Addr} {Γ : Ghost} {g o : Nat} {p : Nat → Bool} {v : Value} {q : Nat → Bool} (h : Ask w B xs A Γ) (e : Γ.F g o = some (.mk 1 p 0 0 [])) (hv : InW w xs v q) :
    Calls Tryd.prog 23 #[.pointer (some ⟨g, o, none⟩), .slice A xs.length c, v] w (RetEndsP B w xs Γ (img (E xs (.mk 1 p 0 0 [])) fun i => q i = true)) := by
  have hbe := behind_p (c := c) h e rfl hv
  have HBE := Lib.hid hbe
  obtain ⟨gn, on, kn, n1, n2, n3, curn, n4⟩ := (h.inv.inv.part g o _ e).2.node
  have n0 : w.cell? ⟨gn, on, none⟩ = some (.int .i64 1) := n2 0 _ rfl
  clear hbe n2 n3 n4 h e hv
  go_enter Tryd.func23, Tryd.ntmps23
  go_wp2_with (go_at_call 34; (with_reducible refine HBE.out.mono ?_); rintro e1 w1 hr; have HR := Lib.hid hr.plain; obtain ⟨v1, q1, Γ1, rfl, hr2⟩ := hr; clear hr2)
  go_ret
  exact HR.out

set_option maxRecDepth 20000 in
set_option maxHeartbeats 1000000 in
theorem pends_rep {w : World} {B c : Nat} {xs : List Int} {A : Option Addr} {Γ : Ghost} {g o ln hn : Nat} {u : T} {v : Value} {q : Nat → Bool} (ih : EndsP u) (h : Ask w B xs A Γ) (e : Γ.F g o = some (.mk 4 noneP ln hn [u])) (hv : InW w xs v q) :
    Calls Tryd.prog 23 #[.pointer (some ⟨g, o, none⟩), .slice A xs.length c, v] w (RetEndsP B w xs Γ (img (E xs (.mk 4 noneP ln hn [u])) fun i => q i = true)) := by
  have hbe := times_p (c := c) ih h e hv
  have HBE := Lib.hid hbe
  obtain ⟨gn, on, kn, n1, n2, n3, curn, n4⟩ := (h.inv.inv.part g o _ e).2.node
  have n0 : w.cell? ⟨gn, on, none⟩ = some (.int .i64 4) := n2 0 _ rfl
  clear hbe n2 n3 n4 h e hv ih
  go_enter Tryd.func23, Tryd.ntmps23
  go_wp2_with (go_at_call 39; (with_reducible refine HBE.out.mono ?_); rintro e1 w1 hr; have HR := Lib.hid hr.plain; obtain ⟨v1, q1, Γ1, rfl, hr2⟩ := hr; clear hr2)
  go_ret
  exact HR.out

theorem pends_n : ∀ (N : Nat) (t : T), SizeOf.sizeOf t ≤ N → WF t → EndsP t
  | 0, t, h, _ => by obtain ⟨op, p, lo, hi, l⟩ := t; simp at h
  | N + 1, t, h, hw => by
    have small : ∀ (op : Int) (p : Nat → Bool) (lo hi : Int) (l : List T), t = .mk op p lo hi l → ∀ u ∈ l, SizeOf.sizeOf u ≤ N := fun op p lo hi l e u hu => by
      have := List.sizeOf_lt_of_mem hu
      rw [e] at h
      simp at h
      omega
    intro w B c xs A Γ g o v q ha he hv
    cases hw with
    | one p => exact pends_one ha he hv
    | cat l h2 hN hk => exact (pends_cat (fun u hu => pends_n N u (small _ _ _ _ _ rfl u hu) (hk u hu)) ha he hv).mono fun e w' hr => hr.congr fun x => by simp [img, E_cat]
    | alt l h2 hN hk => exact (pends_alt (fun u hu => pends_n N u (small _ _ _ _ _ rfl u hu) (hk u hu)) ha he hv).mono fun e w' hr => hr.congr fun x => by simp [img, E_alt]
    | rep m n u h0 h1 h2 h3 hk =>
      obtain ⟨ln, rfl⟩ : ∃ k : Nat, m = k := ⟨m.toNat, by omega⟩
      obtain ⟨hn, rfl⟩ : ∃ k : Nat, n = k := ⟨n.toNat, by omega⟩
      exact pends_rep (pends_n N u (small _ _ _ _ _ rfl u (by simp)) hk) ha he hv
theorem pends_p (t : T) (h : WF t) : EndsP t := pends_n _ t (Nat.le_refl _) h

end Go.Proofs.YtlnanelejaddiaaDoor
