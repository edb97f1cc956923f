/-
  Several texts of this proof in one file: Ends3, Word, Law4d. No statement of its own.
-/
import Derived.Test.YtfgppmipaahleaaMn21
import Derived.Test.YtfgppmipaahleaaMn15
import Derived.Test.YtfgppmipaahleaaMn20
import Derived.Deep.RegionHeld3
set_option linter.unusedVariables false
set_option linter.unusedSimpArgs false

/-
  The document's own Ends: of a kid many times. Contracts for other texts; no statement of its own.
-/
namespace Go.Proofs.Ytfgppmipaahleaa
open Go Go.RowKit
attribute [local go_sem ↓] Go.wp_at_zero Go.wp_at_succ

theorem Two.lo1 {w : World} {B C : Nat} {vo vl : Value} {lo l : List Int} (h : Two w B vo lo C vl l) {r : Nat} (hr : r < l.length) : C < w.heap.size := by
  obtain ⟨g, c, _, h1, h2, _⟩ := h.one.at r hr
  omega
/-- A repetition, found step by step: all times from the least on, below j. -/
def outP (Rl : Nat → Nat → Prop) (lo j i : Nat) : Nat → Prop := fun x => ∃ m, lo ≤ m ∧ m < j ∧ iter Rl m i x
theorem outP_succ (Rl : Nat → Nat → Prop) (lo j i : Nat) (h : lo ≤ j) (x : Nat) : outP Rl lo j i x ∨ iter Rl j i x ↔ outP Rl lo (j + 1) i x := by
  constructor
  · rintro (⟨m, h1, h2, h3⟩ | h3)
    · exact ⟨m, h1, by omega, h3⟩
    · exact ⟨j, h, by omega, h3⟩
  · rintro ⟨m, h1, h2, h3⟩
    by_cases e : m = j
    · subst e; exact .inr h3
    · exact .inl ⟨m, h1, by omega, h3⟩
theorem outP_none (Rl : Nat → Nat → Prop) (lo j i : Nat) (h : ¬ lo ≤ j) (x : Nat) : outP Rl lo j i x ↔ outP Rl lo (j + 1) i x := by
  constructor
  · rintro ⟨m, h1, h2, _⟩; omega
  · rintro ⟨m, h1, h2, _⟩; omega
/-- It stays, once it stays. -/
theorem iter_stay {Rl : Nat → Nat → Prop} {i j : Nat} (h : ∀ x, iter Rl (j + 1) i x ↔ iter Rl j i x) : ∀ (d x : Nat), iter Rl (j + d) i x ↔ iter Rl j i x
  | 0, x => Iff.rfl
  | d + 1, x => by
    rw [← h x]
    constructor
    · rintro ⟨y, h1, h2⟩; exact ⟨y, (iter_stay h d y).1 h1, h2⟩
    · rintro ⟨y, h1, h2⟩; exact ⟨y, (iter_stay h d y).2 h1, h2⟩
theorem outP_stop {Rl : Nat → Nat → Prop} {lo hi j i : Nat} (hj : j < hi) (hl : lo ≤ hi) (h : ∀ x, iter Rl (j + 1) i x ↔ iter Rl j i x) (x : Nat) :
    outP Rl lo (j + 1) i x ∨ iter Rl (j + 1) i x ↔ ∃ m, lo ≤ m ∧ m ≤ hi ∧ iter Rl m i x := by
  constructor
  · rintro (⟨m, h1, h2, h3⟩ | h3)
    · exact ⟨m, h1, by omega, h3⟩
    · by_cases hlj : lo ≤ j + 1
      · exact ⟨j + 1, hlj, by omega, h3⟩
      · refine ⟨lo, Nat.le_refl _, hl, ?_⟩
        rw [show lo = j + (lo - j) by omega, iter_stay h]
        exact (h x).1 h3
  · rintro ⟨m, h1, h2, h3⟩
    by_cases hm : m < j + 1
    · exact .inl ⟨m, h1, hm, h3⟩
    · right
      rw [show m = j + (m - j) by omega, iter_stay h] at h3
      exact (h x).2 h3
theorem outP_all (Rl : Nat → Nat → Prop) (lo hi i : Nat) (hl : lo ≤ hi) (x : Nat) : outP Rl lo hi i x ∨ iter Rl hi i x ↔ ∃ m, lo ≤ m ∧ m ≤ hi ∧ iter Rl m i x := by
  rw [outP_succ Rl lo hi i hl x]
  constructor
  · rintro ⟨m, h1, h2, h3⟩; exact ⟨m, h1, by omega, h3⟩
  · rintro ⟨m, h1, h2, h3⟩; exact ⟨m, h1, by omega, h3⟩

set_option maxRecDepth 20000 in
set_option maxHeartbeats 8000000 in
theorem ends_rep {N : Nat} (ih : EndsFor N) {w : World} {ok : Nat → Prop} {t : T} {k : Value} {xs : List Int} {A : Option Addr} {i c : Nat} (hN : SizeOf.sizeOf t ≤ N + 1) (h : EndsAsk w ok t k xs A i) (h4 : t.op = 4) :
    Calls Try.prog 34 #[nodeP t k, .slice A xs.length c, .int .i64 i] w (RetEnds w (E xs t i)) := by
  obtain ⟨u, hu⟩ : ∃ u, t.kids = [u] := by
    rcases h.wf.op_cases with h' | h' | h' | h'
    · omega
    · omega
    · omega
    · exact List.length_eq_one_iff.1 h'.2.1
  obtain ⟨lo, hi, hlo, hhi, hlh, hhi2, hhi1⟩ : ∃ lo hi : Nat, t.lo = lo ∧ t.hi = hi ∧ lo ≤ hi ∧ hi ≤ 32 ∧ 1 ≤ hi := by
    rcases h.wf.op_cases with h' | h' | h' | h'
    · omega
    · omega
    · omega
    · exact ⟨t.lo.toNat, t.hi.toNat, by omega, by omega, by omega, by omega, by omega⟩
  have hE : ∀ j, E xs t i j ↔ ∃ m, lo ≤ m ∧ m ≤ hi ∧ iter (E xs u) m i j := by
    intro j
    cases t with
    | mk op p lo' hi' l =>
      have e : op = 4 := h4
      have e1 : l = [u] := hu
      have e2 : lo' = lo := hlo
      have e3 : hi' = hi := hhi
      subst e e1 e2 e3
      rw [E_rep, EAny_one]
      constructor
      · rintro ⟨m, h1, h2, h3⟩; exact ⟨m, by omega, by omega, h3⟩
      · rintro ⟨m, h1, h2, h3⟩; exact ⟨m, by omega, by omega, h3⟩
  obtain ⟨A', n', c', rfl⟩ := h.tree.form
  obtain ⟨hn, hm⟩ := h.tree.bound
  rw [hu] at hn
  have hn1 : n' = 1 := hn
  subst hn1
  have hb1 : (t.op == 1) = false := by simp [h4]
  have hb2 : (t.op == 2) = false := by simp [h4]
  have hb3 : (t.op == 3) = false := by simp [h4]
  have hb4 : (t.op == 4) = true := by simp [h4]
  have hlen := h.len
  have hile := h.le
  have hum : u ∈ t.kids := by rw [hu]; simp
  have hwu := h.wf.kid hum
  have hpb : ∀ m x, iter (E xs u) m i x → x ≤ xs.length := fun m x hx => (iter_bd (E_bd hwu) m i x hile hx).2
  have b1 := Box8.new w t (.slice A' 1 c')
  have hB : Below w.heap.size w (w.alloc (.cells #[.int .i64 t.op, .int .u64 (word t.set 0), .int .u64 (word t.set 1), .int .u64 (word t.set 2), .int .u64 (word t.set 3), .int .i64 t.lo, .int .i64 t.hi, .slice A' 1 c'] 29)) := (Below.refl _ _).alloc (Nat.le_refl _) _
  obtain ⟨g0, B, m1, m2, e0, hg0, htk, hcells⟩ := kid8 h.tree 0 (u := u) (by rw [hu]; rfl)
  subst e0
  have hks : SizeOf.sizeOf u < SizeOf.sizeOf t := by
    have := kid_size t 0 (by rw [hu]; simp)
    simpa [hu] using this
  have hCz : ∀ q v, (nodeC u (.slice B m1 m2))[q]? = some v → w.cell? ⟨g0, q, none⟩ = some v := fun q v h => by
    have := hcells q v h
    rwa [Nat.mul_zero, Nat.zero_add] at this
  have HE := Lib.hid hE
  have HH := Lib.hid h
  have IH := Lib.hid ih
  have HB1 := Lib.hid b1
  have HPBm := Lib.hid hpb
  have HC0 := Lib.hid hCz
  have HTK := Lib.hid htk
  have HLO := Lib.hid hlo
  have HHI := Lib.hid hhi
  unfold EndsFor at IH
  clear hE h4 hn h ih b1 hpb hcells htk hCz hu hm
  generalize hL : xs.length = L at *
  have HL := Lib.hid hL
  clear hL
  rw [hlo, hhi] at HB1 hB
  unfold nodeP
  rw [hlo, hhi]
  clear hlo hhi
  go_enter Try.func34, Try.ntmps34
  go_wp2
  have hW0 : Below w.heap.size w ((w.alloc (.cells #[.int .i64 t.op, .int .u64 (word t.set 0), .int .u64 (word t.set 1), .int .u64 (word t.set 2), .int .u64 (word t.set 3), .int .i64 lo, .int .i64 hi, .slice (some ⟨g0, 0, none⟩) 1 c'] 29)).alloc (.cells #[.int .i64 i] 3)) := hB.alloc hB.size _
  have hI0 : Ints ((w.alloc (.cells #[.int .i64 t.op, .int .u64 (word t.set 0), .int .u64 (word t.set 1), .int .u64 (word t.set 2), .int .u64 (word t.set 3), .int .i64 lo, .int .i64 hi, .slice (some ⟨g0, 0, none⟩) 1 c'] 29)).alloc (.cells #[.int .i64 i] 3)) (w.heap.size + 1) (.slice (some ⟨w.heap.size + 1, 0, none⟩) 1 1) [(i : Int)] := by
    have h := World.ownsRow_lit (base := w.heap.size + 1) (e := 3) (size := 1) (w.alloc (.cells #[.int .i64 t.op, .int .u64 (word t.set 0), .int .u64 (word t.set 1), .int .u64 (word t.set 2), .int .u64 (word t.set 3), .int .i64 lo, .int .i64 hi, .slice (some ⟨g0, 0, none⟩) 1 c'] 29)) #[.int .i64 (i : Int)] 1 (by simp) (by decide) rfl
    rw [World.size_alloc] at h
    exact h
  go_loopg [12, 13, 15] hi (fun m o out i' wr => ∃ (j : Nat) (ln lx0 : List Int), i' = .int .i64 (j : Int) ∧ j ≤ hi ∧ m = hi - j ∧ Two wr (w.heap.size + 1) out lx0 (w.heap.size + 1) o ln ∧ Lists (outP (E xs u) lo j i) lx0 ∧ Lists (iter (E xs u) j i) ln ∧ Box8 wr w.heap.size t (.slice (some ⟨g0, 0, none⟩) 1 c') ∧ Below w.heap.size w wr)
  case atStart => exact ⟨0, [(i : Int)], [], rfl, Nat.zero_le _, rfl, ⟨Ints.nil _ _, hI0, fun g e => by cases e⟩, Lists.nil.congr fun x => ⟨fun h => h.elim, fun ⟨m, h1, h2, _⟩ => by omega⟩, (Lists.one i).congr fun j => eq_comm, HB1.out.alloc _, hW0⟩
  case round =>
    obtain ⟨j, ln, lo0, rfl, hj, hmj, htw0, hls0, hls, x1, hW⟩ := hrel
    have HMJ := Lib.hid hmj
    have HLS := Lib.hid hls
    have HLS0 := Lib.hid hls0
    have HTW0 := Lib.hid htw0
    have HPB := Lib.hid (HPBm.out j)
    have HPB1 := Lib.hid (HPBm.out (j + 1))
    have hnl : ln.length ≤ L + 1 := hls.len fun x hx => HPB.out x hx
    have hol : lo0.length ≤ L + 1 := hls0.len fun x hx => by
      obtain ⟨m, _, _, hm⟩ := hx
      exact HPBm.out m x hm
    obtain ⟨An, cn, hform⟩ := htw0.one.form
    subst hform
    obtain ⟨c0, c1, c2, c3, c4, c5, c6, c7⟩ := x1.cell
    rw [HLO.out] at c5
    rw [HHI.out] at c6
    have HX1 := Lib.hid x1
    clear hmj hls hls0 htw0 x1
    by_cases hlt : j < hi
    · have z0 := cell_stays (HC0.out 0 _ rfl) hW
      have z1 := cell_stays (HC0.out 1 _ rfl) hW
      have z2 := cell_stays (HC0.out 2 _ rfl) hW
      have z3 := cell_stays (HC0.out 3 _ rfl) hW
      have z4 := cell_stays (HC0.out 4 _ rfl) hW
      have z5 := cell_stays (HC0.out 5 _ rfl) hW
      have z6 := cell_stays (HC0.out 6 _ rfl) hW
      have z7 := cell_stays (HC0.out 7 _ rfl) hW
      have hg2 : g0 < wr.heap.size := Nat.lt_of_lt_of_le hg0 hW.size
      have hw2 : w.heap.size < wr.heap.size := HX1.out.lt
      generalize hln : ln.length = M at *
      have HLN := Lib.hid hln
      clear hln
      have bk := Box8.new wr u (.slice B m1 m2)
      have hb3' : Below wr.heap.size wr (wr.alloc (.cells #[.int .i64 u.op, .int .u64 (word u.set 0), .int .u64 (word u.set 1), .int .u64 (word u.set 2), .int .u64 (word u.set 3), .int .i64 u.lo, .int .i64 u.hi, .slice B m1 m2] 29)) := (Below.refl _ _).alloc (Nat.le_refl _) _
      go_upto_region 30 with fail
      clear z0 z1 z2 z3 z4 z5 z6 z7 c0 c1 c2 c3 c4 c5 c6 c7
      have hT3 : Two (wr.alloc (.cells #[.int .i64 u.op, .int .u64 (word u.set 0), .int .u64 (word u.set 1), .int .u64 (word u.set 2), .int .u64 (word u.set 3), .int .i64 u.lo, .int .i64 u.hi, .slice B m1 m2] 29)) (w.heap.size + 1) u13 lo0 (w.heap.size + 1) (.slice An M cn) ln := ⟨HTW0.out.out.stays hb3', HTW0.out.one.stays hb3', HTW0.out.apart⟩
      have hK3 : ∀ g, u13.ownBlock = some g → g ≠ wr.heap.size := fun g e => by have := (World.ownsRow.lt HTW0.out.out g e).2; omega
      have hW3 := gro hW hb3'
      have x3 := HX1.out.stays hb3'
      generalize wr.alloc (.cells #[.int .i64 u.op, .int .u64 (word u.set 0), .int .u64 (word u.set 1), .int .u64 (word u.set 2), .int .u64 (word u.set 3), .int .i64 u.lo, .int .i64 u.hi, .slice B m1 m2] 29) = w3 at *
      have BK := Lib.hid bk
      have HX3 := Lib.hid x3
      have HT3 := Lib.hid hT3
      have HK3 := Lib.hid hK3
      have hw3 : wr.heap.size < w3.heap.size := bk.lt
      obtain ⟨c0, c1, c2, c3, c4, c5, c6, c7⟩ := x3.cell
      rw [HLO.out] at c5
      rw [HHI.out] at c6
      clear bk x3 hT3 hK3 HTW0 HX1 hb3' hW hg2
      generalize wr.heap.size = Kb at *
      go_cut [109] from 84 to 176 (fun s109 wx => s109 = .bool (decide (lo ≤ j)) ∧ w3 = wx)
      case first =>
        by_cases hlj : lo ≤ j
        all_goals
          go_wp2
          go_meet
          exact ⟨congrArg Value.bool (by simp [hlj]), rfl⟩
      case rest =>
      obtain ⟨hs109, hcw⟩ := hcut
      subst hcw
      go_upto_if 109 with fail
      go_cut [13, 17] from 84 to 176 (fun s13 s17 wx => ∃ lo1 : List Int, Two wx (w.heap.size + 1) s13 lo1 (w.heap.size + 1) (.slice An M cn) ln ∧ Lists (outP (E xs u) lo (j + 1) i) lo1 ∧ Box8 wx Kb u (.slice B m1 m2) ∧ Box8 wx w.heap.size t (.slice (some ⟨g0, 0, none⟩) 1 c') ∧ Below w.heap.size w wx)
      case first =>
        by_cases hlj : lo ≤ j
        · rw [decide_eq_true hlj] at hs109
          subst hs109
          go_wp2
          clear c0 c1 c2 c3 c4 c5 c6 c7
          go_loopg [13, 17] M (fun m' o' kk wq => ∃ r : Nat, kk = .int .i64 (r : Int) ∧ r ≤ M ∧ m' = M - r ∧ Two wq (w.heap.size + 1) o' (addAll lo0 (ln.take r)) (w.heap.size + 1) (.slice An M cn) ln ∧ Box8 wq Kb u (.slice B m1 m2) ∧ Box8 wq w.heap.size t (.slice (some ⟨g0, 0, none⟩) 1 c') ∧ (∀ g, o'.ownBlock = some g → g ≠ Kb) ∧ Below w.heap.size w wq)
          case atStart => exact ⟨0, rfl, Nat.zero_le _, rfl, HT3.out, BK.out, HX3.out, HK3.out, hW3⟩
          case round =>
            obtain ⟨r, rfl, hr, hmr, htw, bkr, xr, hkr, hWr⟩ := hrel
            have HMR := Lib.hid hmr
            have HTW := Lib.hid htw
            have BKR := Lib.hid bkr
            have HXR := Lib.hid xr
            have HKR := Lib.hid hkr
            clear hmr htw bkr xr hkr
            by_cases hrt : r < M
            · have hrt' : r < ln.length := by rw [HLN.out]; exact hrt
              obtain ⟨gl, cl', e2, _, _, hc2⟩ := HTW.out.one.at r hrt'
              injection e2 with e3 e4 e5
              subst e3 e5
              clear e4
              have hat := addAll_take lo0 ln r hrt'
              generalize ln[r]'hrt' = x at *
              have HAT := Lib.hid hat
              have hsz : (addAll lo0 (ln.take r)).length ≤ 1000000 := by
                have h1 := addAll_len (ln.take r) lo0
                rw [List.length_take] at h1
                omega
              have HADD := Lib.hid (add_p wr (w.heap.size + 1) u13 (addAll lo0 (ln.take r)) x HTW.out.out (by have := HTW.out.lo1 hrt'; omega) hsz)
              clear hat hsz
              unfold RetAdd at HADD
              go_wp2_with (go_at_call 56; (with_reducible refine HADD.out.mono ?_); rintro e w6 ⟨v6, rfl, hi6, hg6, hv6⟩)
              go_roundg (M - (r + 1))
              case measure => have := HMR.out; omega
              case rel =>
                have hrow := row_at HTW.out.out
                have hkb := BKR.out.lt
                refine ⟨r + 1, by go_num, by omega, rfl, ?_, BKR.out.grown hg6 (fun e => HKR.out _ e.symm rfl), HXR.out.grown hg6 (fun e => by have := hrow _ e.symm; omega), fun g e => ?_, hWr.grown hg6 hWr.size (fun j e => by have := hrow j e; omega)⟩
                · rw [HAT.out]
                  exact HTW.out.added hi6 hg6 hv6
                · rcases hv6 with hv6 | ⟨g', hv6, hg'⟩
                  · exact HKR.out g (hv6 ▸ e)
                  · rw [hv6] at e
                    injection e with e
                    omega
            · have hqn : ln.take r = ln := List.take_of_length_le (by rw [HLN.out]; omega)
              rw [hqn] at HTW
              go_wp2
              go_meet
              exact ⟨addAll lo0 ln, HTW.out, (HLS0.out.add HLS.out).congr fun x => outP_succ _ lo j i hlj x, BKR.out, HXR.out, hWr⟩
        · rw [decide_eq_false hlj] at hs109
          subst hs109
          go_wp2
          go_meet
          exact ⟨lo0, HT3.out, HLS0.out.congr fun x => outP_none _ lo j i hlj x, BK.out, HX3.out, hW3⟩
      case rest =>
      clear hs109
      obtain ⟨lo1, hT4, hO4, bk4, x4, hW4⟩ := hcut
      clear c0 c1 c2 c3 c4 c5 c6 c7 HT3 HK3 HX3 BK hw3 hW3
      generalize wc = w3 at *
      have hKb : Kb < w3.heap.size := bk4.lt
      have BK := Lib.hid bk4
      have HX3 := Lib.hid x4
      have HI3 := Lib.hid hT4.one
      have HT4 := Lib.hid hT4
      have HO4 := Lib.hid hO4
      have HA3 : Hid (EndsAsk w3 ok u (.slice B m1 m2) xs A 0) := HH.out.kid hum HTK.out hW4 (by omega)
      have hol1 : lo1.length ≤ L + 1 := hO4.len fun x hx => by
        obtain ⟨m, _, _, hm⟩ := hx
        exact HPBm.out m x hm
      obtain ⟨c0, c1, c2, c3, c4, c5, c6, c7⟩ := x4.cell
      rw [HLO.out] at c5
      rw [HHI.out] at c6
      clear bk4 x4 hT4 hO4
      go_wp2
      clear c0 c1 c2 c3 c4 c5 c6 c7
      go_loopg [18, 19] M (fun m' nx kk wq => ∃ (q : Nat) (lx : List Int), kk = .int .i64 (q : Int) ∧ q ≤ M ∧ m' = M - q ∧ Ints wq w3.heap.size nx lx ∧ Lists (fun x => ∃ y : Nat, (y : Int) ∈ ln.take q ∧ E xs u y x) lx ∧ Below w3.heap.size w3 wq)
      case atStart => exact ⟨0, [], rfl, Nat.zero_le _, rfl, Ints.nil _ _, Lists.nil.congr fun x => ⟨fun h => h.elim, fun ⟨y, hy, _⟩ => by simp at hy⟩, Below.refl _ _⟩
      case round =>
        obtain ⟨q, lx, rfl, hq, hmq, hnx, hlx, hWq⟩ := hrel
        have HMQ := Lib.hid hmq
        have HNX := Lib.hid hnx
        have HLX := Lib.hid hlx
        clear hmq hnx hlx
        by_cases hqt : q < M
        · have hqt' : q < ln.length := by rw [HLN.out]; exact hqt
          obtain ⟨gn, cn', e2, _, _, hc2⟩ := (HI3.out.stays hWq).at q hqt'
          injection e2 with e3 e4 e5
          subst e3 e5
          clear e4
          obtain ⟨y, hy, hPy⟩ := HLS.out.bound q hqt'
          have hyL : y ≤ L := HPB.out y hPy
          rw [hy] at hc2
          have hsnoc : ∀ z : Nat, (z : Int) ∈ ln.take (q + 1) ↔ (z : Int) ∈ ln.take q ∨ z = y := by
            intro z
            rw [List.take_succ_eq_append_getElem hqt', hy]
            simp only [List.mem_append, List.mem_singleton]
            constructor
            · rintro (h | h)
              · exact .inl h
              · exact .inr (by omega)
            · rintro (h | h)
              · exact .inl h
              · exact .inr (by omega)
          have HSN := Lib.hid hsnoc
          obtain ⟨b0, b1, b2, b3, b4, b5, b6, b7⟩ := (BK.out.stays hWq).cell
          have q0 : (0 : Int) ≤ (q : Int) := by omega
          have q1 : (q : Int) < (M : Int) := by omega
          have hlxl : lx.length ≤ L + 1 := HLX.out.len fun x hx => by
            obtain ⟨z, hz, hE⟩ := hx
            have hz2 : (z : Int) ∈ ln := List.mem_of_mem_take hz
            obtain ⟨z', e, hP⟩ := (HLS.out.2 _).1 hz2
            have ez : z = z' := by omega
            subst ez
            have := HPB.out z hP
            have := (E_bd HA3.out.wf z x (by rw [HL.out]; exact this) hE).2
            rw [HL.out] at this
            exact this
          have hub : ∀ x, E xs u y x → x ≤ L := fun x hx => by
            have := (E_bd HA3.out.wf y x (by rw [HL.out]; exact hyL) hx).2
            rw [HL.out] at this
            exact this
          have HUB := Lib.hid hub
          have hcall : ∀ W, Below wr.heap.size wr W → Calls Try.prog 34 #[nodeP u (.slice B m1 m2), .slice A L c, .int .i64 y] W (fun e w5 => ∃ Al cl l, e = .returned (.slice Al l.length cl) ∧ Two w5 w3.heap.size u18 lx W.heap.size (.slice Al l.length cl) l ∧ Below w3.heap.size w3 w5 ∧ l.length ≤ L + 1 ∧ Lists (E xs u y) l) := fun W hbW => by
            have ha : EndsAsk W ok u (.slice B m1 m2) xs A y := ⟨HA3.out.wf, (HA3.out.tree.stays hWq).stays hbW, ((HA3.out.rd.below hWq).below (hbW.mono hWq.size)).more (Nat.le_trans hWq.size hbW.size), HA3.out.byte, HA3.out.len, by rw [HL.out]; exact hyL⟩
            have hc := IH.out u W ok (.slice B m1 m2) xs A y c (by omega) ha
            rw [HL.out] at hc
            refine hc.mono fun e w5 h5 => ?_
            obtain ⟨vl, l, he, hvl, hlsl, hb5⟩ := h5
            obtain ⟨Al, cl, hform⟩ := hvl.form
            subst hform
            exact ⟨Al, cl, l, he, Two.start (HNX.out.stays hbW) hb5 hvl, gro (gro hWq hbW) hb5, hlsl.len HUB.out, hlsl⟩
          unfold nodeP at hcall
          have HK := Lib.hid hcall
          clear hsnoc hub hcall hPy hyL
          go_wp2_with fail
          go_still_tail 6, (by kernel_rfl)
          change wpList _ _ _ _ _ wr.drew
          go_wp2_with (go_at_call 34; (with_reducible refine (HK.out wr.drew ((Below.refl _ _).drew)).mono ?_); rintro e w5 ⟨Al, cl, l, rfl, htwo, hW5, hll, hlsl⟩; have HLSL := Lib.hid hlsl; clear hlsl)
          have HTWO := Lib.hid htwo
          clear htwo b0 b1 b2 b3 b4 b5 b6 b7 hc2
          generalize hll2 : l.length = M2 at *
          generalize wr.drew.heap.size = C at HTWO
          have HLL := Lib.hid hll2
          clear hll2
          go_loopg [18, 21] M2 (fun m' o' kk wq => ∃ r : Nat, kk = .int .i64 (r : Int) ∧ r ≤ M2 ∧ m' = M2 - r ∧ Two wq w3.heap.size o' (addAll lx (l.take r)) C (.slice Al M2 cl) l ∧ Below w3.heap.size w3 wq)
          case atStart => exact ⟨0, rfl, Nat.zero_le _, rfl, HTWO.out, hW5⟩
          case round =>
            obtain ⟨r, rfl, hr, hmr, htw, hWr⟩ := hrel
            have HMR := Lib.hid hmr
            have HTW := Lib.hid htw
            clear hmr htw
            by_cases hrt : r < M2
            · have hrt' : r < l.length := by rw [HLL.out]; exact hrt
              obtain ⟨gl, cl', e2, _, _, hc2⟩ := HTW.out.one.at r hrt'
              injection e2 with e3 e4 e5
              subst e3 e5
              clear e4
              have hat := addAll_take lx l r hrt'
              generalize l[r]'hrt' = x at *
              have HAT := Lib.hid hat
              have hsz : (addAll lx (l.take r)).length ≤ 1000000 := by
                have h1 := addAll_len (l.take r) lx
                rw [List.length_take] at h1
                omega
              have HADD := Lib.hid (add_p wr w3.heap.size u18 (addAll lx (l.take r)) x HTW.out.out hWr.size hsz)
              clear hat hsz
              unfold RetAdd at HADD
              go_wp2_with (go_at_call 56; (with_reducible refine HADD.out.mono ?_); rintro e w6 ⟨v6, rfl, hi6, hg6, hv6⟩)
              go_roundg (M2 - (r + 1))
              case measure => have := HMR.out; omega
              case rel =>
                refine ⟨r + 1, by go_num, by omega, rfl, ?_, hWr.grown hg6 hWr.size (row_at HTW.out.out)⟩
                rw [HAT.out]
                exact HTW.out.added hi6 hg6 hv6
            · have hqn : l.take r = l := List.take_of_length_le (by rw [HLL.out]; omega)
              rw [hqn] at HTW
              go_wp2
              go_roundg (M - (q + 1))
              case measure => have := HMQ.out; omega
              case rel =>
                refine ⟨q + 1, addAll lx l, by go_num, by omega, rfl, HTW.out.out, (HLX.out.add HLSL.out).congr fun x => ?_, hWr⟩
                constructor
                · rintro (⟨z, h1, h2⟩ | h2)
                  · exact ⟨z, (HSN.out z).2 (.inl h1), h2⟩
                  · exact ⟨y, (HSN.out y).2 (.inr rfl), h2⟩
                · rintro ⟨z, h1, h2⟩
                  rcases (HSN.out z).1 h1 with h1 | rfl
                  · exact .inl ⟨z, h1, h2⟩
                  · exact .inr h2
        · have hqn : ln.take q = ln := List.take_of_length_le (by rw [HLN.out]; omega)
          rw [hqn] at HLX
          have HNEW : Hid (Lists (iter (E xs u) (j + 1) i) lx) := HLX.out.congr fun x => by
            constructor
            · rintro ⟨y, h1, h2⟩
              obtain ⟨y', e, hP⟩ := (HLS.out.2 _).1 h1
              have ey : y = y' := by omega
              subst ey
              exact ⟨y, hP, h2⟩
            · rintro ⟨y, h1, h2⟩
              exact ⟨y, (HLS.out.2 _).2 ⟨y, rfl, h1⟩, h2⟩
          obtain ⟨Ax, cx, hfx⟩ := HNX.out.form
          subst hfx
          generalize hxl : lx.length = X at *
          have HXL := Lib.hid hxl
          clear hqn hxl
          have hlxl : X ≤ L + 1 := by
            rw [← HXL.out]
            exact HNEW.out.len fun x hx => HPB1.out x hx
          go_wp2
          obtain ⟨w4, hw4⟩ : ∃ w4, w4 = wr := ⟨_, rfl⟩
          rw [← hw4] at HNX hWq ⊢
          clear hw4
          have HI4 := Lib.hid (HI3.out.stays hWq)
          have HX4 := Lib.hid (HX3.out.stays hWq)
          have HW4 := Lib.hid (gro hW4 hWq)
          have HT5 : Hid (Two w4 (w.heap.size + 1) u13 lo1 (w.heap.size + 1) (.slice Ax X cx) lx) := ⟨HT4.out.out.stays hWq, HNX.out.lower (by omega), fun g e e' => by
            have h1 := (World.ownsRow.lt HT4.out.out g e).2
            have h2 := (World.ownsRow.lt HNX.out g e').1
            omega⟩
          go_loopg [22, 23] M (fun m' st kk wq => ∃ (r : Nat) (b : Bool), kk = .int .i64 (r : Int) ∧ st = .bool b ∧ r ≤ M ∧ m' = M - r ∧ (b = true → M = X ∧ ∀ k, k < r → ln[k]? = lx[k]?) ∧ Below w4.heap.size w4 wq)
          case atStart => exact ⟨0, _, rfl, rfl, Nat.zero_le _, rfl, fun e => ⟨by have e' := of_decide_eq_true e; omega, fun k hk => by omega⟩, Below.refl _ _⟩
          case round =>
            obtain ⟨r, b, rfl, rfl, hr, hmr, heq, hWr⟩ := hrel
            have HMR := Lib.hid hmr
            have HEQ := Lib.hid heq
            clear hmr heq
            obtain ⟨c0, c1, c2, c3, c4, c5, c6, c7⟩ := (HX4.out.stays hWr).cell
            rw [HLO.out] at c5
            rw [HHI.out] at c6
            cases b
            · by_cases hrt : r < M
              all_goals
                go_wp2
                go_roundg (hi - (j + 1))
                case measure => have := HMJ.out; omega
                case rel => exact ⟨j + 1, lx, lo1, by go_num, by omega, rfl, ⟨HT5.out.out.stays hWr, HT5.out.one.stays hWr, HT5.out.apart⟩, HO4.out, HNEW.out, HX4.out.stays hWr, gro HW4.out hWr⟩
            · have hMX := (HEQ.out rfl).1
              have HPRE := Lib.hid (HEQ.out rfl).2
              by_cases hrt : r < M
              · have hr1 : r < ln.length := by rw [HLN.out]; exact hrt
                have hr2 : r < lx.length := by rw [HXL.out]; omega
                obtain ⟨ga, ca, e2, _, _, hca⟩ := (HI4.out.stays hWr).at r hr1
                have HNX2 := HNX.out.stays hWr
                rw [← HXL.out] at HNX2
                obtain ⟨gb, cb, e6, _, _, hcb⟩ := HNX2.at r hr2
                injection e2 with e3 e4 e5
                injection e6 with e7 e8 e9
                subst e3 e5 e7 e9
                clear e4 e8 HNX2
                have h1 := List.getElem?_eq_getElem hr1
                have h2 := List.getElem?_eq_getElem hr2
                generalize ln[r]'hr1 = x1 at *
                generalize lx[r]'hr2 = x2 at *
                have H1 := Lib.hid h1
                have H2 := Lib.hid h2
                have HMX := Lib.hid hMX
                have r0 : (0 : Int) ≤ (r : Int) := by omega
                have r1 : (r : Int) < (M : Int) := by omega
                have r2 : (r : Int) < (X : Int) := by omega
                clear h1 h2 hMX
                go_wp2_with fail
                go_quiet (fail)
                go_wp2
                go_roundg (M - (r + 1))
                case measure => have := HMR.out; omega
                case rel =>
                  refine ⟨r + 1, x1 == x2, by go_num, rfl, by omega, rfl, fun e => ⟨HMX.out, fun k hk => ?_⟩, below_drewN hWr _⟩
                  by_cases hkr : k < r
                  · exact HPRE.out k hkr
                  · have hkr' : k = r := by omega
                    subst hkr'
                    rw [H1.out, H2.out]
                    have := eq_of_beq e
                    rw [this]
              · have hsame : ln = lx := by
                  apply List.ext_getElem?
                  intro k
                  by_cases hk : k < r
                  · exact HPRE.out k hk
                  · rw [List.getElem?_eq_none (by rw [HLN.out]; omega), List.getElem?_eq_none (by rw [HXL.out]; omega)]
                have HST8 : Hid (∀ x, iter (E xs u) (j + 1) i x ↔ iter (E xs u) j i x) := fun x => by
                  have h1 := HNEW.out.2 (x : Int)
                  have h2 := HLS.out.2 (x : Int)
                  rw [← hsame, h2] at h1
                  constructor
                  · intro h
                    obtain ⟨y, e, h'⟩ := h1.2 ⟨x, rfl, h⟩
                    have : x = y := by omega
                    exact this ▸ h'
                  · intro h
                    obtain ⟨y, e, h'⟩ := h1.1 ⟨x, rfl, h⟩
                    have : x = y := by omega
                    exact this ▸ h'
                have HFIN : Hid (Lists (E xs t i) (addAll lo1 lx)) := (HO4.out.add HNEW.out).congr fun x => (outP_stop hlt hlh HST8.out x).trans (HE.out x).symm
                have HTW8 : Hid (Two wr (w.heap.size + 1) u13 lo1 (w.heap.size + 1) (.slice Ax X cx) lx) := ⟨HT5.out.out.stays hWr, HT5.out.one.stays hWr, HT5.out.apart⟩
                have HW8 := Lib.hid (gro HW4.out hWr)
                clear hsame hMX
                go_wp2
                clear c0 c1 c2 c3 c4 c5 c6 c7
                go_loopg [13, 24] X (fun m' o' kk wq => ∃ r : Nat, kk = .int .i64 (r : Int) ∧ r ≤ X ∧ m' = X - r ∧ Two wq (w.heap.size + 1) o' (addAll lo1 (lx.take r)) (w.heap.size + 1) (.slice Ax X cx) lx ∧ Below w.heap.size w wq)
                case atStart => exact ⟨0, rfl, Nat.zero_le _, rfl, HTW8.out, HW8.out⟩
                case round =>
                  obtain ⟨r, rfl, hr, hmr, htw, hWr⟩ := hrel
                  have HMR := Lib.hid hmr
                  have HTW := Lib.hid htw
                  clear hmr htw
                  by_cases hrt : r < X
                  · have hrt' : r < lx.length := by rw [HXL.out]; exact hrt
                    obtain ⟨gl, cl', e2, _, _, hc2⟩ := HTW.out.one.at r hrt'
                    injection e2 with e3 e4 e5
                    subst e3 e5
                    clear e4
                    have hat := addAll_take lo1 lx r hrt'
                    generalize lx[r]'hrt' = x at *
                    have HAT := Lib.hid hat
                    have hsz : (addAll lo1 (lx.take r)).length ≤ 1000000 := by
                      have h1 := addAll_len (lx.take r) lo1
                      rw [List.length_take] at h1
                      omega
                    have HADD := Lib.hid (add_p wr (w.heap.size + 1) u13 (addAll lo1 (lx.take r)) x HTW.out.out (by have := hWr.size; have := World.block_lt_of_cell? wr _ hc2; have := HTW.out.lo1 hrt'; omega) hsz)
                    clear hat hsz
                    unfold RetAdd at HADD
                    go_wp2_with (go_at_call 56; (with_reducible refine HADD.out.mono ?_); rintro e w6 ⟨v6, rfl, hi6, hg6, hv6⟩)
                    go_roundg (X - (r + 1))
                    case measure => have := HMR.out; omega
                    case rel =>
                      refine ⟨r + 1, by go_num, by omega, rfl, ?_, hWr.grown hg6 hWr.size (fun j e => by have := row_at HTW.out.out j e; omega)⟩
                      rw [HAT.out]
                      exact HTW.out.added hi6 hg6 hv6
                  · have hqn : lx.take r = lx := List.take_of_length_le (by rw [HXL.out]; omega)
                    rw [hqn] at HTW
                    go_wp2
                    go_ret
                    exact ⟨_, addAll lo1 lx, rfl, HTW.out.out.lower (by omega), HFIN.out, hWr⟩
    · have hjh : j = hi := by omega
      subst hjh
      have HFIN : Hid (Lists (E xs t i) (addAll lo0 ln)) := (HLS0.out.add HLS.out).congr fun x => (outP_all _ lo j i hlh x).trans (HE.out x).symm
      have HTW8 := HTW0
      have HW8 := Lib.hid hW
      generalize hln : ln.length = M at *
      have HLN := Lib.hid hln
      clear hln
      go_wp2
      clear c0 c1 c2 c3 c4 c5 c6 c7
      go_loopg [13, 24] M (fun m' o' kk wq => ∃ r : Nat, kk = .int .i64 (r : Int) ∧ r ≤ M ∧ m' = M - r ∧ Two wq (w.heap.size + 1) o' (addAll lo0 (ln.take r)) (w.heap.size + 1) (.slice An M cn) ln ∧ Below w.heap.size w wq)
      case atStart => exact ⟨0, rfl, Nat.zero_le _, rfl, HTW8.out, HW8.out⟩
      case round =>
        obtain ⟨r, rfl, hr, hmr, htw, hWr⟩ := hrel
        have HMR := Lib.hid hmr
        have HTW := Lib.hid htw
        clear hmr htw
        by_cases hrt : r < M
        · have hrt' : r < ln.length := by rw [HLN.out]; exact hrt
          obtain ⟨gl, cl', e2, _, _, hc2⟩ := HTW.out.one.at r hrt'
          injection e2 with e3 e4 e5
          subst e3 e5
          clear e4
          have hat := addAll_take lo0 ln r hrt'
          generalize ln[r]'hrt' = x at *
          have HAT := Lib.hid hat
          have hsz : (addAll lo0 (ln.take r)).length ≤ 1000000 := by
            have h1 := addAll_len (ln.take r) lo0
            rw [List.length_take] at h1
            omega
          have HADD := Lib.hid (add_p wr (w.heap.size + 1) u13 (addAll lo0 (ln.take r)) x HTW.out.out (by have := hWr.size; have := World.block_lt_of_cell? wr _ hc2; have := HTW.out.lo1 hrt'; omega) hsz)
          clear hat hsz
          unfold RetAdd at HADD
          go_wp2_with (go_at_call 56; (with_reducible refine HADD.out.mono ?_); rintro e w6 ⟨v6, rfl, hi6, hg6, hv6⟩)
          go_roundg (M - (r + 1))
          case measure => have := HMR.out; omega
          case rel =>
            refine ⟨r + 1, by go_num, by omega, rfl, ?_, hWr.grown hg6 hWr.size (fun j e => by have := row_at HTW.out.out j e; omega)⟩
            rw [HAT.out]
            exact HTW.out.added hi6 hg6 hv6
        · have hqn : ln.take r = ln := List.take_of_length_le (by rw [HLN.out]; omega)
          rw [hqn] at HTW
          go_wp2
          go_ret
          exact ⟨_, addAll lo0 ln, rfl, HTW.out.out.lower (by omega), HFIN.out, hWr⟩

theorem ends_p : ∀ N, EndsFor N := by
  intro N
  induction N with
  | zero => intro t w ok k xs A i c h; obtain ⟨op, p, lo, hi, l⟩ := t; simp at h
  | succ N ih =>
    intro t w ok k xs A i c hN h
    rcases h.wf.op_cases with h' | h' | h' | h'
    · exact endsD_one h h'.1
    · exact ends_cat ih hN h h'.1
    · exact ends_alt ih hN h h'.1
    · exact ends_rep ih hN h h'.1

end Go.Proofs.Ytfgppmipaahleaa

/-
  The document's own Word; the laws' own Pattern. Contracts for other texts; no statement of its own.
-/
namespace Go.Proofs.Ytfgppmipaahleaa
open Go Go.RowKit
attribute [local go_sem ↓] Go.wp_at_zero Go.wp_at_succ

/-- A truth is told, in new memory. -/
def RetIs (w : World) (P : Prop) (e : Ending) (w' : World) : Prop := ∃ b : Bool, e = .returned (.bool b) ∧ (b = true ↔ P) ∧ Below w.heap.size w w'

set_option maxRecDepth 20000 in
set_option maxHeartbeats 2000000 in
theorem word_p {w : World} {ok : Nat → Prop} {t : T} {k : Value} {xs : List Int} {A : Option Addr} {c : Nat} (h : EndsAsk w ok t k xs A 0) :
    Calls Try.prog 14 #[nodeP t k, .slice A xs.length c] w (RetIs w (E xs t 0 xs.length)) := by
  obtain ⟨A', n', c', rfl⟩ := h.tree.form
  have b1 := Box8.new w t (.slice A' n' c')
  have hB : Below w.heap.size w (w.alloc (.cells #[.int .i64 t.op, .int .u64 (word t.set 0), .int .u64 (word t.set 1), .int .u64 (word t.set 2), .int .u64 (word t.set 3), .int .i64 t.lo, .int .i64 t.hi, .slice A' n' c'] 29)) := (Below.refl _ _).alloc (Nat.le_refl _) _
  have ha : EndsAsk (w.alloc (.cells #[.int .i64 t.op, .int .u64 (word t.set 0), .int .u64 (word t.set 1), .int .u64 (word t.set 2), .int .u64 (word t.set 3), .int .i64 t.lo, .int .i64 t.hi, .slice A' n' c'] 29)) ok t (.slice A' n' c') xs A 0 := ⟨h.wf, h.tree.alloc _, (h.rd.below hB).more hB.size, h.byte, h.len, Nat.zero_le _⟩
  have hbd : ∀ x, E xs t 0 x → x ≤ xs.length := fun x hx => (E_bd h.wf 0 x (Nat.zero_le _) hx).2
  have hk : Calls Try.prog 34 #[nodeP t (.slice A' n' c'), .slice A xs.length c, .int .i64 0] (w.alloc (.cells #[.int .i64 t.op, .int .u64 (word t.set 0), .int .u64 (word t.set 1), .int .u64 (word t.set 2), .int .u64 (word t.set 3), .int .i64 t.lo, .int .i64 t.hi, .slice A' n' c'] 29)) (fun e w5 => ∃ Al cl l, e = .returned (.slice Al l.length cl) ∧ Ints w5 (w.heap.size + 1) (.slice Al l.length cl) l ∧ Lists (E xs t 0) l ∧ l.length ≤ xs.length + 1 ∧ Below w.heap.size w w5) := by
    refine (ends_p _ t _ ok _ xs A 0 c (Nat.le_refl _) ha).mono fun e w5 h5 => ?_
    obtain ⟨vl, l, he, hvl, hlsl, hb5⟩ := h5
    obtain ⟨Al, cl, hform⟩ := hvl.form
    subst hform
    rw [World.size_alloc] at hvl
    exact ⟨Al, cl, l, he, hvl, hlsl, hlsl.len hbd, gro1 (Below.refl _ _) hb5⟩
  have hlen := h.len
  unfold nodeP at hk ⊢
  have HK := Lib.hid hk
  have HBD := Lib.hid hbd
  clear hk ha b1 h hbd
  generalize hL : xs.length = L at *
  have HL := Lib.hid hL
  clear hL
  go_enter Try.func14, Try.ntmps14
  go_wp2_with (go_at_call 34; (with_reducible refine HK.out.mono ?_); rintro e w5 ⟨Al, cl, l, rfl, hvl, hlsl, hll, hW5⟩; have HLS := Lib.hid hlsl; have HVL := Lib.hid hvl; clear hlsl hvl)
  generalize hM : l.length = M at *
  have HM := Lib.hid hM
  clear hM
  go_loopg [6] M (fun m i wr => ∃ j : Nat, i = .int .i64 (j : Int) ∧ j ≤ M ∧ m = M - j ∧ (∀ k, k < j → ∀ x, l[k]? = some x → x ≠ (L : Int)) ∧ wr = w5)
  case atStart => exact ⟨0, rfl, Nat.zero_le _, rfl, fun k hk => by omega, rfl⟩
  case round =>
    obtain ⟨j, rfl, hj, hmj, hne, rfl⟩ := hrel
    have HMJ := Lib.hid hmj
    have HNE := Lib.hid hne
    clear hmj hne
    by_cases hlt : j < M
    · have hlt' : j < l.length := by rw [HM.out]; exact hlt
      obtain ⟨g, c2, e1, _, _, hc⟩ := HVL.out.at j hlt'
      injection e1 with e1 e2 e3
      subst e1 e3
      clear e2
      obtain ⟨x, hx⟩ : ∃ x, l[j]'hlt' = x := ⟨_, rfl⟩
      rw [hx] at hc
      have HX := Lib.hid hx
      clear hx
      cases hxn : (x == (L : Int))
      · go_wp2
        go_roundg (M - (j + 1))
        case measure => have := HMJ.out; omega
        case rel =>
          refine ⟨j + 1, by go_num, by omega, rfl, fun k hk y hy => ?_, rfl⟩
          by_cases hkj : k = j
          · subst hkj
            rw [List.getElem?_eq_getElem hlt', HX.out] at hy
            injection hy with hy
            subst hy
            simpa using hxn
          · exact HNE.out k (by omega) y hy
      · go_wp2
        go_ret
        refine ⟨true, rfl, ⟨fun _ => ?_, fun _ => rfl⟩, hW5⟩
        have e : x = (L : Int) := by simpa using hxn
        have hm : (L : Int) ∈ l := by rw [← e, ← HX.out]; exact List.getElem_mem hlt'
        obtain ⟨y, hy, hE⟩ := (HLS.out.2 _).1 hm
        have : L = y := by omega
        exact this ▸ hE
    · go_wp2
      go_ret
      refine ⟨false, rfl, ⟨fun h => (by cases h), fun hE => ?_⟩, hW5⟩
      have hm : (L : Int) ∈ l := (HLS.out.2 _).2 ⟨L, rfl, hE⟩
      obtain ⟨k, hk, e⟩ := List.getElem_of_mem hm
      exact absurd rfl (HNE.out k (by rw [HM.out] at hk; omega) (L : Int) (by rw [List.getElem?_eq_getElem hk, e]))

end Go.Proofs.Ytfgppmipaahleaa

/-
  Layer 4's law NfaTells: its walk. Contracts for other texts; no statement of its own.
-/
namespace Go.Proofs.Ytfgppmipaahleaa
open Go Go.RowKit
attribute [local go_sem ↓] Go.wp_at_zero Go.wp_at_succ

/-- What either Build tells: lists at known blocks. -/
def TellsN (w : World) (t : T) (z : Nat) (b0 : Bool) (last : Value) (e : Ending) (w' : World) : Prop :=
  ∃ g1 c1 A2 m2 c2 gm g3 c3, e = .returned (.tuple #[.agg #[.slice (some ⟨g1, 0, none⟩) z c1, .slice A2 m2 c2, .slice (some ⟨gm, 0, none⟩) z z, .slice (some ⟨g3, 0, none⟩) z c3, .bool b0], last]) ∧
    NfaIn w' w'.heap.size (.slice (some ⟨g1, 0, none⟩) z c1) (.slice A2 m2 c2) gm (.slice (some ⟨g3, 0, none⟩) z c3) (lay0 t).1 (lay0 t).2 ∧ Below w.heap.size w w'
theorem tells_of {w w' : World} {t : T} {z : Nat} {b0 : Bool} {A1 A2 A3 : Option Addr} {m1 c1 m2 c2 gm m3 c3 : Nat} {last : Value} (hwf : WF t) (hz : (lay0 t).1.sets.length = z) (hb : (lay0 t).2.empty = b0)
    (hn : NfaAt w' w.heap.size (.slice A1 m1 c1) (.slice A2 m2 c2) gm (.slice A3 m3 c3) (lay0 t).1 (lay0 t).2) (hB : Below w.heap.size w w') :
    TellsN w t z b0 last (.returned (.tuple #[.agg #[.slice A1 m1 c1, .slice A2 m2 c2, .slice (some ⟨gm, 0, none⟩) (lay0 t).1.sets.length (lay0 t).1.sets.length, .slice A3 m3 c3, .bool (lay0 t).2.empty], last])) w' := by
  have hi := hn.rest (lay0_good (xs := []) hwf).1
  have hpos := plR_pos hwf
  have hszz : (lay0 t).1.sets.length = plR t := by have := lay_size hwf ⟨[], []⟩; simpa [lay0] using this
  obtain ⟨g1, c1', e1, _, _⟩ := hi.sets 0 (by omega)
  obtain ⟨g3, c3', v3, e3, _, _, _, _⟩ := hi.fols 0 (by omega)
  rw [hz] at e1 e3
  simp only [Value.slice.injEq] at e1 e3
  obtain ⟨rfl, rfl, rfl⟩ := e1
  obtain ⟨rfl, rfl, rfl⟩ := e3
  exact ⟨g1, c1, A2, m2, c2, gm, g3, c3, by rw [hz, hb], hi, hB⟩

/-- The law's three boxes and what they hold. -/
structure StT (w : World) (gn ga gw : Nat) (t : T) (kv : Value) (z : Nat) (b0 : Bool) (g1 c1 : Nat) (v2 : Value) (gm g3 c3 g1' c1' : Nat) (v2' : Value) (gm' g3' c3' : Nat) (W : World) : Prop where
  n : Box8 W gn t kv
  a : BoxF W ga (.slice (some ⟨g1, 0, none⟩) z c1) v2 (.slice (some ⟨gm, 0, none⟩) z z) (.slice (some ⟨g3, 0, none⟩) z c3) b0
  b : BoxG W gw (.slice (some ⟨g1', 0, none⟩) z c1') v2' (.slice (some ⟨gm', 0, none⟩) z z) (.slice (some ⟨g3', 0, none⟩) z c3') b0
  tree : ∃ ok, Tree W ok t kv
  i : NfaIn W W.heap.size (.slice (some ⟨g1, 0, none⟩) z c1) v2 gm (.slice (some ⟨g3, 0, none⟩) z c3) (lay0 t).1 (lay0 t).2
  j : NfaIn W W.heap.size (.slice (some ⟨g1', 0, none⟩) z c1') v2' gm' (.slice (some ⟨g3', 0, none⟩) z c3') (lay0 t).1 (lay0 t).2
  out : Below w.heap.size w W
theorem StT.stays {w W W' : World} {gn ga gw : Nat} {t : T} {kv : Value} {z : Nat} {b0 : Bool} {g1 c1 : Nat} {v2 : Value} {gm g3 c3 g1' c1' : Nat} {v2' : Value} {gm' g3' c3' : Nat}
    (h : StT w gn ga gw t kv z b0 g1 c1 v2 gm g3 c3 g1' c1' v2' gm' g3' c3' W) (hb : Below W.heap.size W W') : StT w gn ga gw t kv z b0 g1 c1 v2 gm g3 c3 g1' c1' v2' gm' g3' c3' W' := by
  obtain ⟨ok, ht⟩ := h.tree
  exact ⟨h.n.stays hb, h.a.stays hb, h.b.stays hb, ⟨ok, ht.stays hb⟩, (h.i.below hb).more hb.size, (h.j.below hb).more hb.size, gro h.out hb⟩

set_option maxRecDepth 20000 in
set_option maxHeartbeats 4000000 in
theorem nfatells_few {w : World} {s : ByteArray} {t : T} {c : Nat} {xs : List Int} {A : Option Addr} (hs : s.size ≤ 9223372036854775807) (hrd : RdB w w.heap.size A xs) (hby : ∀ k, k < xs.length → 0 ≤ xs.getD k 0 ∧ xs.getD k 0 ≤ 255) (hlen : xs.length ≤ 60) (hp : parse s = .ok t) (h256 : plR t ≤ 256) :
    Calls Try.prog 3 #[.string s, .slice A xs.length c] w fun e w' => e = .returned (.bool true) ∧ Below w.heap.size w w' := by
  have hwf := wf_parse hp
  have HU := Lib.hid (up4_p w)
  have HP := Lib.hid (fun w => rparse_p w s hs)
  unfold RetParse at HP
  simp only [hp] at HP
  obtain ⟨z, hz⟩ : ∃ z, (lay0 t).1.sets.length = z := ⟨_, rfl⟩
  have hzR : z = plR t := by rw [← hz]; have := lay_size hwf ⟨[], []⟩; simpa [lay0] using this
  obtain ⟨b0, hb0⟩ : ∃ b, (lay0 t).2.empty = b := ⟨_, rfl⟩
  have hbuild : ∀ (W : World) (k : Value) (ok : Nat → Prop), Tree W ok t k → Calls Try.prog 7 #[nodeP t k] W (TellsN W t z b0 .nilIface) := fun W k ok ht => (build_p hwf ht h256).mono fun e w' h => by
    obtain ⟨A1, m1, c1, A2, m2, c2, gm, A3, m3, c3, rfl, hn, hb⟩ := h
    exact tells_of hwf hz hb0 hn hb
  have hbuildD : ∀ (W : World) (k : Value) (ok : Nat → Prop), Tree W ok t k → Calls Try.prog 8 #[nodeP t k] W (TellsN W t z b0 (.bool true)) := fun W k ok ht => (buildD_p hwf ht h256).mono fun e w' h => by
    obtain ⟨A1, m1, c1, A2, m2, c2, gm, A3, m3, c3, rfl, hn, hb⟩ := h
    exact tells_of hwf hz hb0 hn hb
  have hplaces : ∀ (W : World) (k : Value) (ok : Nat → Prop), Tree W ok t k → Calls Try.prog 12 #[nodeP t k] W (RetInt W (plN t)) := fun W k ok ht => places_p W hwf ht
  unfold nodeP TellsN at hbuild hbuildD
  unfold nodeP RetInt at hplaces
  have HBU := Lib.hid hbuild
  have HBD := Lib.hid hbuildD
  have HPLC := Lib.hid hplaces
  have hi60 : ¬ ((60 : Int) < (xs.length : Int)) := by omega
  have HWF := Lib.hid hwf
  have HZ := Lib.hid (And.intro hz (And.intro hzR hb0))
  have HB0 := Lib.hid h256
  have hbb : (b0 != b0) = false := by cases b0 <;> rfl
  have HFL : Hid ((ns (lay0 t).2.first).length ≤ 100000) := by
    show _ ≤ _
    obtain ⟨_, hg⟩ := lay0_good (xs := []) hwf
    have := rise_len _ 0 _ hg.sf hg.first
    rw [ns_len]
    omega
  have HZL : Hid (z ≤ 100000) := by show _ ≤ _; omega
  clear hbuild hbuildD hplaces hwf hz hzR hb0 h256 hp hlen
  go_enter Try.func3, Try.ntmps3
  go_wp2_with (first
    | (go_at_call 5; (with_reducible refine HU.out.mono ?_); rintro e w1 ⟨rfl, hb1⟩; have HB1 := Lib.hid hb1; clear hb1)
    | (go_at_call 6; (with_reducible refine (HP.out _).mono ?_); rintro e w2 ⟨t', k', bad, at_, rfl, ht, hb2, a1, a2, a3⟩; subst a1 a2 a3; obtain ⟨A', n', c', rfl⟩ := ht.form; have hb3 := gro HB1.out hb2; have HT := Lib.hid (ht.alloc (.cells #[.int .i64 t'.op, .int .u64 (word t'.set 0), .int .u64 (word t'.set 1), .int .u64 (word t'.set 2), .int .u64 (word t'.set 3), .int .i64 t'.lo, .int .i64 t'.hi, .slice A' n' c'] 29)); have HB := Lib.hid (hb3.alloc hb3.size (.cells #[.int .i64 t'.op, .int .u64 (word t'.set 0), .int .u64 (word t'.set 1), .int .u64 (word t'.set 2), .int .u64 (word t'.set 3), .int .i64 t'.lo, .int .i64 t'.hi, .slice A' n' c'] 29)); have BX := Lib.hid (Box8.new w2 t' (.slice A' n' c')); obtain ⟨r0, r1, r2, r3, r4, r5, r6, r7⟩ := BX.out.cell; clear ht hb2 hb3; unfold nodeV)
    | (go_at_call 7; (with_reducible refine (HBU.out _ _ _ HT.out).mono ?_); rintro e w3 ⟨g1, c1, A2, m2, c2, gm, g3, c3, rfl, hi, hb3⟩; have HB3 := Lib.hid (gro HB.out hb3); have hx3 := BX.out.stays hb3; clear r0 r1 r2 r3 r4 r5 r6 r7; obtain ⟨r0, r1, r2, r3, r4, r5, r6, r7⟩ := hx3.cell; have BX3 := Lib.hid hx3; have hl3 : w2.heap.size < w3.heap.size := hx3.lt; have HT3 := Lib.hid (HT.out.stays hb3); have HI3 := Lib.hid hi; clear hx3 hi hb3)
    | (go_at_call 8; (with_reducible refine (HBD.out _ _ _ (HT3.out.alloc (.cells #[.slice (some ⟨g1, 0, none⟩) z c1, .slice A2 m2 c2, .slice (some ⟨gm, 0, none⟩) z z, .slice (some ⟨g3, 0, none⟩) z c3, .bool b0] 37))).mono ?_); rintro e w4 ⟨g1', c1', A2', m2', c2', gm', g3', c3', rfl, hi, hb4⟩; have hb34 : Below w3.heap.size w3 w4 := gro ((Below.refl _ _).alloc (Nat.le_refl _) _) hb4; have HB34 := Lib.hid hb34; have hx4 := BX3.out.stays hb34; clear r0 r1 r2 r3 r4 r5 r6 r7; obtain ⟨r0, r1, r2, r3, r4, r5, r6, r7⟩ := hx4.cell; have hl4 : w2.heap.size < w4.heap.size := hx4.lt; have hy4 := (BoxF.new w3 (.slice (some ⟨g1, 0, none⟩) z c1) (.slice A2 m2 c2) (.slice (some ⟨gm, 0, none⟩) z z) (.slice (some ⟨g3, 0, none⟩) z c3) b0).stays hb4; obtain ⟨a0, a1, a2, a3, a4⟩ := hy4.cell; have hl4' : w3.heap.size < w4.heap.size := hy4.lt; have hw4 : BoxG (w4.alloc (.cells #[.slice (some ⟨g1', 0, none⟩) z c1', .slice A2' m2' c2', .slice (some ⟨gm', 0, none⟩) z z, .slice (some ⟨g3', 0, none⟩) z c3', .bool b0] 42)) w4.heap.size (.slice (some ⟨g1', 0, none⟩) z c1') (.slice A2' m2' c2') (.slice (some ⟨gm', 0, none⟩) z z) (.slice (some ⟨g3', 0, none⟩) z c3') b0 := heap_alloc_new w4 _; have hal : Below w4.heap.size w4 (w4.alloc (.cells #[.slice (some ⟨g1', 0, none⟩) z c1', .slice A2' m2' c2', .slice (some ⟨gm', 0, none⟩) z z, .slice (some ⟨g3', 0, none⟩) z c3', .bool b0] 42)) := (Below.refl _ _).alloc (Nat.le_refl _) _; have ST := Lib.hid (show StT w w2.heap.size w3.heap.size w4.heap.size t' (.slice A' n' c') z b0 g1 c1 (.slice A2 m2 c2) gm g3 c3 g1' c1' (.slice A2' m2' c2') gm' g3' c3' _ from ⟨hx4.stays hal, hy4.stays hal, hw4, ⟨_, (HT3.out.stays hb34).stays hal⟩, (((HI3.out.below hb34).more hb34.size).below hal).more hal.size, (hi.below hal).more hal.size, gro (gro HB3.out hb34) hal⟩); clear hx4 hy4 hi hb4 hb34 hw4 hal)
    | (go_at_call 10; (with_reducible refine (ints_p ST.out.i.first ST.out.j.first HFL.out).mono ?_); rintro e w5 ⟨rfl, hb5⟩; have hst := ST.out.stays hb5; have S5 := Lib.hid hst; clear a0 a1 a2 a3 a4; obtain ⟨a0, a1, a2, a3, a4⟩ := hst.a.cell; obtain ⟨d0, d1, d2, d3, d4⟩ := hst.b.cell; clear hst hb5)
    | (go_at_call 11; (with_reducible refine (bools_p (F := fun j => (lay0 t').2.last.contains j) (n := z) (fun k hk => S5.out.i.last k (by rw [HZ.out.1]; exact hk)) (fun k hk => S5.out.j.last k (by rw [HZ.out.1]; exact hk)) S5.out.i.lastB S5.out.j.lastB HZL.out).mono ?_); rintro e w6 ⟨rfl, hb6⟩; have hst := S5.out.stays hb6; have S6 := Lib.hid hst; clear a0 a1 a2 a3 a4 d0 d1 d2 d3 d4; obtain ⟨a0, a1, a2, a3, a4⟩ := hst.a.cell; obtain ⟨d0, d1, d2, d3, d4⟩ := hst.b.cell; clear hst hb6)
    | fail)
  go_loopg [13] z (fun m i wr => ∃ p : Nat, i = .int .i64 (p : Int) ∧ p ≤ z ∧ m = z - p ∧ StT w w2.heap.size w3.heap.size w4.heap.size t' (.slice A' n' c') z b0 g1 c1 (.slice A2 m2 c2) gm g3 c3 g1' c1' (.slice A2' m2' c2') gm' g3' c3' wr)
  case atStart => exact ⟨0, by first | rfl | trivial, Nat.zero_le _, by first | rfl | trivial, S6.out⟩
  case round =>
    obtain ⟨p, rfl, hp, hmp, hst⟩ := hrel
    have HMP := Lib.hid hmp
    have SR := Lib.hid hst
    clear hmp a0 a1 a2 a3 a4 d0 d1 d2 d3 d4 r0 r1 r2 r3 r4 r5 r6 r7
    obtain ⟨a0, a1, a2, a3, a4⟩ := hst.a.cell
    obtain ⟨d0, d1, d2, d3, d4⟩ := hst.b.cell
    clear hst
    by_cases hpz : p < z
    · have hpz' : p < (lay0 t').1.sets.length := by rw [HZ.out.1]; exact hpz
      obtain ⟨ga, ca, ea, -, ha⟩ := SR.out.i.sets p hpz'
      obtain ⟨gb, cb, eb, -, hb⟩ := SR.out.j.sets p hpz'
      obtain ⟨gc, cc, vc, ec, -, hc, ic, -⟩ := SR.out.i.fols p hpz'
      obtain ⟨gd, cd, vd, ed, -, hd, id', -⟩ := SR.out.j.fols p hpz'
      rw [HZ.out.1] at ea eb ec ed
      simp only [Value.slice.injEq, Option.some.injEq, Addr.mk.injEq, and_true, true_and] at ea eb ec ed
      obtain ⟨rfl, rfl⟩ := ea
      obtain ⟨rfl, rfl⟩ := eb
      obtain ⟨rfl, rfl⟩ := ec
      obtain ⟨rfl, rfl⟩ := ed
      obtain ⟨Ac, nc, mc, hfc⟩ := ic.form3
      subst hfc
      obtain ⟨Ad, nd, md, hfd⟩ := id'.form3
      subst hfd
      have s0 := ha 0 (by decide)
      have s1 := ha 1 (by decide)
      have s2 := ha 2 (by decide)
      have s3 := ha 3 (by decide)
      have t0 := hb 0 (by decide)
      have t1 := hb 1 (by decide)
      have t2 := hb 2 (by decide)
      have t3 := hb 3 (by decide)
      generalize (lay0 t').1.sets.getD p noneP = qp at *
      rw [Nat.add_zero] at s0 t0
      have hll : (ns ((lay0 t').1.follow.getD p [])).length ≤ 100000 := by
        obtain ⟨hl, hg⟩ := lay0_good (xs := []) HWF.out
        have := rise_len _ 0 (lay0 t').1.sets.length (hg.st p (Nat.zero_le _) hpz') fun x hx => ⟨Nat.zero_le _, hl.lt p x hx⟩
        rw [ns_len]
        have h1 := HZ.out.1
        have h2 := HZL.out
        omega
      have HIN := Lib.hid (fun (W : World) (hb : Below wr.heap.size wr W) => ints_p (ic.stays hb) (id'.stays hb) hll)
      have q4 : ∀ (x0 x1 x2 x3 : Int) (w : World), (Op.equalIn 10000 26 (.agg #[.int .u64 x0, .int .u64 x1, .int .u64 x2, .int .u64 x3]) (.agg #[.int .u64 x0, .int .u64 x1, .int .u64 x2, .int .u64 x3])).run Try.prog w = .ok true w := fun x0 x1 x2 x3 w => by rw [eq4]; simp
      have hpb : p < 100000 := by have := HZL.out; omega
      have p0 : (0 : Int) ≤ (p : Int) := by omega
      have p1 : (p : Int) < (z : Int) := by omega
      have HS := Lib.hid (fun (W : World) (hb : Below wr.heap.size wr W) => SR.out.stays hb)
      clear ha hb ic id' hll hpz'
      go_upto_region 14 with fail
      go_region_held3 (fun w' => w'.cell? ⟨w3.heap.size, 0, none⟩ = some (.slice (some ⟨g1, 0, none⟩) z c1) ∧ w'.cell? ⟨w3.heap.size, 3, none⟩ = some (.slice (some ⟨g3, 0, none⟩) z c3) ∧ w'.cell? ⟨w4.heap.size, 0, none⟩ = some (.slice (some ⟨g1', 0, none⟩) z c1') ∧ w'.cell? ⟨w4.heap.size, 3, none⟩ = some (.slice (some ⟨g3', 0, none⟩) z c3') ∧
          w'.cell? ⟨g1, p * 4, none⟩ = some (.int .u64 (word qp 0)) ∧ w'.cell? ⟨g1, p * 4 + 1, none⟩ = some (.int .u64 (word qp 1)) ∧ w'.cell? ⟨g1, p * 4 + 2, none⟩ = some (.int .u64 (word qp 2)) ∧ w'.cell? ⟨g1, p * 4 + 3, none⟩ = some (.int .u64 (word qp 3)) ∧
          w'.cell? ⟨g1', p * 4, none⟩ = some (.int .u64 (word qp 0)) ∧ w'.cell? ⟨g1', p * 4 + 1, none⟩ = some (.int .u64 (word qp 1)) ∧ w'.cell? ⟨g1', p * 4 + 2, none⟩ = some (.int .u64 (word qp 2)) ∧ w'.cell? ⟨g1', p * 4 + 3, none⟩ = some (.int .u64 (word qp 3)) ∧
          w'.cell? ⟨g3, p, none⟩ = some (.slice Ac nc mc) ∧ w'.cell? ⟨g3', p, none⟩ = some (.slice Ad nd md))
        (exact ⟨a0, a3, d0, d3, s0, s1, s2, s3, t0, t1, t2, t3, hc, hd⟩) (first
        | (go_at_call 10; (with_reducible refine (HIN.out wr.drew ((Below.refl _ _).drew)).mono ?_); rintro e w8 ⟨rfl, hb8⟩; have hb9 : Below wr.heap.size wr w8 := undrew hb8; have S8 := Lib.hid (HS.out w8 hb9); replace a0 := cell_stays a0 hb9; replace a3 := cell_stays a3 hb9; replace d0 := cell_stays d0 hb9; replace d3 := cell_stays d3 hb9; replace s0 := cell_stays s0 hb9; replace s1 := cell_stays s1 hb9; replace s2 := cell_stays s2 hb9; replace s3 := cell_stays s3 hb9; replace t0 := cell_stays t0 hb9; replace t1 := cell_stays t1 hb9; replace t2 := cell_stays t2 hb9; replace t3 := cell_stays t3 hb9; replace hc := cell_stays hc hb9; replace hd := cell_stays hd hb9; clear hb8 hb9))
      all_goals
        go_wp2
        go_roundg (z - (p + 1))
        case measure => have := HMP.out; omega
        case rel => exact ⟨p + 1, by go_num, by omega, rfl, S8.out⟩
    · obtain ⟨r0, r1, r2, r3, r4, r5, r6, r7⟩ := SR.out.n.cell
      have hl9 : w2.heap.size < wr.heap.size := SR.out.n.lt
      have hpz' : p = z := by omega
      subst hpz'
      by_cases hpl : plN t' ≤ 60
      · obtain ⟨bv, hbv⟩ : ∃ bv : Bool, (bv = true ↔ E xs t' 0 xs.length) := by
          by_cases hE : E xs t' 0 xs.length
          · exact ⟨true, by simp [hE]⟩
          · exact ⟨false, by simp [hE]⟩
        have hnl : ¬ (60 : Int) < (plN t' : Int) := by omega
        have HPL := Lib.hid (fun (W : World) (hb : Below wr.heap.size wr W) => let ⟨ok, ht⟩ := SR.out.tree; HPLC.out W _ ok (ht.stays hb))
        have HW1 := Lib.hid (fun (W : World) (hb : Below wr.heap.size wr W) => (show Calls Try.prog 13 #[.agg #[.slice (some ⟨g1, 0, none⟩) p c1, .slice A2 m2 c2, .slice (some ⟨gm, 0, none⟩) p p, .slice (some ⟨g3, 0, none⟩) p c3, .bool b0], .slice A xs.length c] W fun e w' => e = .returned (.bool bv) ∧ Below W.heap.size W w' from by
          have hst := SR.out.stays hb
          have h := nhas_p (c := c) HWF.out HB0.out hst.i HZ.out.1.symm ((hrd.below hst.out).more hst.out.size) hby (by omega)
          rw [HZ.out.1, HZ.out.2.2] at h
          exact h.mono fun e w' ⟨b, h1, h2, h3⟩ => ⟨by rw [h1, show b = bv from Bool.eq_iff_iff.2 (h2.trans hbv.symm)], h3⟩))
        have HW2 := Lib.hid (fun (W : World) (hb : Below wr.heap.size wr W) => (show Calls Try.prog 14 #[nodeP t' (.slice A' n' c'), .slice A xs.length c] W fun e w' => e = .returned (.bool bv) ∧ Below W.heap.size W w' from by
          have hst := SR.out.stays hb
          obtain ⟨ok, ht⟩ := hst.tree
          have h := word_p (c := c) ⟨HWF.out, ht, (hrd.below hst.out).more hst.out.size, hby, by omega, Nat.zero_le _⟩
          exact h.mono fun e w' ⟨b, h1, h2, h3⟩ => ⟨by rw [h1, show b = bv from Bool.eq_iff_iff.2 (h2.trans hbv.symm)], h3⟩))
        unfold nodeP at HW2
        have hbb2 : (bv == bv) = true := by cases bv <;> rfl
        have HS := Lib.hid (fun (W : World) (hb : Below wr.heap.size wr W) => SR.out.stays hb)
        clear hbv hpl
        go_wp2_with (first
          | (go_at_call 12; (with_reducible refine (HPL.out wr (Below.refl _ _)).mono ?_); rintro e w7 ⟨rfl, hb7⟩; have HB7 := Lib.hid hb7; have hst := HS.out w7 hb7; clear r0 r1 r2 r3 r4 r5 r6 r7 a0 a1 a2 a3 a4 d0 d1 d2 d3 d4; obtain ⟨r0, r1, r2, r3, r4, r5, r6, r7⟩ := hst.n.cell; obtain ⟨a0, a1, a2, a3, a4⟩ := hst.a.cell; clear hst hb7)
          | fail)
        go_upto_region 18 with fail
        go_region_held3 (fun w' => w'.cell? ⟨w2.heap.size, 0, none⟩ = some (.int .i64 t'.op) ∧ w'.cell? ⟨w2.heap.size, 1, none⟩ = some (.int .u64 (word t'.set 0)) ∧ w'.cell? ⟨w2.heap.size, 2, none⟩ = some (.int .u64 (word t'.set 1)) ∧ w'.cell? ⟨w2.heap.size, 3, none⟩ = some (.int .u64 (word t'.set 2)) ∧ w'.cell? ⟨w2.heap.size, 4, none⟩ = some (.int .u64 (word t'.set 3)) ∧ w'.cell? ⟨w2.heap.size, 5, none⟩ = some (.int .i64 t'.lo) ∧ w'.cell? ⟨w2.heap.size, 6, none⟩ = some (.int .i64 t'.hi) ∧ w'.cell? ⟨w2.heap.size, 7, none⟩ = some (.slice A' n' c') ∧
            w'.cell? ⟨w3.heap.size, 0, none⟩ = some (.slice (some ⟨g1, 0, none⟩) p c1) ∧ w'.cell? ⟨w3.heap.size, 1, none⟩ = some (.slice A2 m2 c2) ∧ w'.cell? ⟨w3.heap.size, 2, none⟩ = some (.slice (some ⟨gm, 0, none⟩) p p) ∧ w'.cell? ⟨w3.heap.size, 3, none⟩ = some (.slice (some ⟨g3, 0, none⟩) p c3) ∧ w'.cell? ⟨w3.heap.size, 4, none⟩ = some (.bool b0))
          (exact ⟨r0, r1, r2, r3, r4, r5, r6, r7, a0, a1, a2, a3, a4⟩) (first
          | (go_at_call 13; (with_reducible refine (HW1.out w7.drew HB7.out.drew).mono ?_); rintro e w8 ⟨rfl, hb8⟩; have hb9 := gro HB7.out (undrew hb8); have HB8 := Lib.hid hb9; have hst := HS.out w8 hb9; clear r0 r1 r2 r3 r4 r5 r6 r7 a0 a1 a2 a3 a4; obtain ⟨r0, r1, r2, r3, r4, r5, r6, r7⟩ := hst.n.cell; obtain ⟨a0, a1, a2, a3, a4⟩ := hst.a.cell; clear hst hb8 hb9)
          | (go_at_call 14; (with_reducible refine (HW2.out w8 HB8.out).mono ?_); rintro e w9 ⟨rfl, hbx⟩; have hb9 := gro HB8.out hbx; have HB9 := Lib.hid hb9; have hst := HS.out w9 hb9; clear r0 r1 r2 r3 r4 r5 r6 r7 a0 a1 a2 a3 a4; obtain ⟨r0, r1, r2, r3, r4, r5, r6, r7⟩ := hst.n.cell; obtain ⟨a0, a1, a2, a3, a4⟩ := hst.a.cell; clear hst hbx hb9))
        all_goals
          go_wp2
          go_ret
          exact ⟨rfl, gro SR.out.out HB9.out⟩
      · have hnl : (60 : Int) < (plN t' : Int) := by omega
        have HPL := Lib.hid (let ⟨ok, ht⟩ := SR.out.tree; HPLC.out wr _ ok ht)
        clear hpl
        go_wp2_with (first
          | (go_at_call 12; (with_reducible refine HPL.out.mono ?_); rintro e w7 ⟨rfl, hb7⟩; have HB7 := Lib.hid hb7; clear hb7)
          | fail)
        go_ret
        exact ⟨rfl, gro SR.out.out HB7.out⟩
end Go.Proofs.Ytfgppmipaahleaa
