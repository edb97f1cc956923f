/-
  Several texts of this proof in one file: SetHas, NfaHas. No statement of its own.
-/
import Derived.Test.YtfgppmipaahleaaMn1
import Derived.Deep.DrawnRows
import Derived.Test.YtfgppmipaahleaaMn9
import Derived.BigQuiet
set_option linter.unusedVariables false
set_option linter.unusedSimpArgs false

/-
  What Has of package set does, whatever it is called with. Contracts for other texts; no statement of its own.
-/
namespace Go.Proofs.Ytfgppmipaahleaa
open Go Go.RowKit
attribute [local go_sem ↓] Go.wp_at_zero Go.wp_at_succ

set_option maxHeartbeats 400000 in
theorem has_p (p : Nat → Bool) (b : Int) (w : World) (hb : 0 ≤ b) (hb' : b ≤ 255) :
    Calls Try.prog 33 #[.agg #[.int .u64 (word p 0), .int .u64 (word p 1), .int .u64 (word p 2), .int .u64 (word p 3)], .int .u8 b] w fun e w' => e = .returned (.bool (p b.toNat)) ∧ Below w.heap.size w w' := by
  have hv := words_at p b hb hb'
  have H := has_bits p b hb hb'
  rw [← H]
  clear H
  go_enter Try.func33, Try.ntmps33
  go_wp2
  go_ret
  exact ⟨rfl, (Below.refl _ _).alloc (Nat.le_refl _) _⟩

end Go.Proofs.Ytfgppmipaahleaa

/-
  nfa.Has: whether a word goes through the places. Contracts for other texts; no statement of its own.
-/
namespace Go.Proofs.Ytfgppmipaahleaa
open Go Go.RowKit
attribute [local go_sem ↓] Go.wp_at_zero Go.wp_at_succ

/-- Places in memory, at rest. -/
structure NfaIn (w : World) (B : Nat) (vs v1 : Value) (gm : Nat) (vf : Value) (s : Lay) (x : Str) : Prop where
  sets : ∀ p, p < s.sets.length → ∃ g c, vs = .slice (some ⟨g, 0, none⟩) s.sets.length c ∧ g < B ∧ ∀ r, r < 4 → w.cell? ⟨g, p * 4 + r, none⟩ = some (.int .u64 (word (s.sets.getD p noneP) r))
  first : Ints w 0 v1 (ns x.first)
  firstB : ∀ b, v1.ownBlock = some b → b < B
  last : ∀ p, p < s.sets.length → w.cell? ⟨gm, p, none⟩ = some (.bool (x.last.contains p))
  lastB : gm < B
  fols : ∀ p, p < s.sets.length → ∃ g c v, vf = .slice (some ⟨g, 0, none⟩) s.sets.length c ∧ g < B ∧ w.cell? ⟨g, p, none⟩ = some v ∧ Ints w 0 v (ns (s.follow.getD p [])) ∧ ∀ b, v.ownBlock = some b → b < B
theorem NfaAt.rest {w : World} {C gm : Nat} {vs v1 vf : Value} {s : Lay} {x : Str} (h : NfaAt w C vs v1 gm vf s x) (hl : LInv s) : NfaIn w w.heap.size vs v1 gm vf s x := by
  obtain ⟨Q, hr⟩ := h.rows
  obtain ⟨fs, hfo, hfs⟩ := hr.fols
  refine ⟨fun p hp => ?_, h.first.low (Nat.zero_le _), fun b e => (h.first.in e).2, fun p hp => h.last.cell p hp, h.last.in.2, fun p hp => ?_⟩
  · have hs := hr.sets
    rcases hs.2 with ⟨_, h0⟩ | ⟨g, c, cur, rfl, _, hg, _⟩
    · omega
    · refine ⟨g, c, rfl, lt_of_some hg, fun r hr => ?_⟩
      rw [World.ownsRow.cellAt hs (p * 4 + r) (by omega), setsC_get _ _ _ hp hr, List.getD_eq_getElem?_getD, List.getElem?_eq_getElem hp]
      rfl
  · have hp' : p < s.follow.length := by rw [hl.len]; exact hp
    rcases hfo.2 with ⟨_, h0⟩ | ⟨g, c, cur, rfl, _, hg, _⟩
    · omega
    · have hpf : p < fs.length := by rw [hfs.len]; exact hp'
      refine ⟨g, c, fs[p]'hpf, by rw [hl.len], lt_of_some hg, ?_, (hfs.get p _ _ (List.getElem?_eq_getElem hpf) (getD_get s.follow p [] hp')).low (Nat.zero_le _), fun b e => ?_⟩
      · rw [World.ownsRow.cellAt hfo p (by omega)]; exact List.getElem?_eq_getElem hpf
      · exact ((hfs.get p _ _ (List.getElem?_eq_getElem hpf) (getD_get s.follow p [] hp')).in e).2
theorem NfaIn.below {w w' : World} {B gm : Nat} {vs v1 vf : Value} {s : Lay} {x : Str} (h : NfaIn w B vs v1 gm vf s x) (hb : Below B w w') : NfaIn w' B vs v1 gm vf s x := by
  refine ⟨fun p hp => ?_, h.first.block fun b e _ => hb.block b (h.firstB b e), h.firstB, fun p hp => (hb.cell (p := ⟨gm, p, none⟩) h.lastB).trans (h.last p hp), h.lastB, fun p hp => ?_⟩
  · obtain ⟨g, c, e, hg, hc⟩ := h.sets p hp
    exact ⟨g, c, e, hg, fun r hr => (hb.cell (p := ⟨g, p * 4 + r, none⟩) hg).trans (hc r hr)⟩
  · obtain ⟨g, c, v, e, hg, hc, hi, hv⟩ := h.fols p hp
    exact ⟨g, c, v, e, hg, (hb.cell (p := ⟨g, p, none⟩) hg).trans hc, hi.block fun b e _ => hb.block b (hv b e), hv⟩

theorem below_dn {B : Nat} {a w : World} (h : Below B a w) (n : Nat) : Below B a (w.drewN n) := ⟨h.os, h.tape, h.output, h.size, h.block⟩
def RetRun (w : World) (P : Prop) (e : Ending) (w' : World) : Prop := ∃ b : Bool, e = .returned (.bool b) ∧ (b = true ↔ P) ∧ Below w.heap.size w w'

set_option maxRecDepth 20000 in
set_option maxHeartbeats 4000000 in
theorem nfahas_p {w : World} {A1 A2 A3 : Option Addr} {m1 c1 m2 c2 gm m3 c3 n : Nat} {s : Lay} {x : Str} {xs : List Int} {A : Option Addr} {c : Nat} (hn : s.sets.length = n) (h : NfaIn w w.heap.size (.slice A1 m1 c1) (.slice A2 m2 c2) gm (.slice A3 m3 c3) s x) (hm1 : m1 = n)
    (hfl : ∀ p ∈ x.first, p < n) (hfo : ∀ q p, p ∈ s.follow.getD q [] → p < n) (hfn : x.first.length ≤ 1000) (hff : ∀ q, q < n → (s.follow.getD q []).length ≤ 1000) (hn256 : n ≤ 256)
    (hrd : RdB w w.heap.size A xs) (hby : ∀ k, k < xs.length → 0 ≤ xs.getD k 0 ∧ xs.getD k 0 ≤ 255) (hlen : xs.length ≤ 100000) :
    Calls Try.prog 13 #[.agg #[.slice A1 m1 c1, .slice A2 m2 c2, .slice (some ⟨gm, 0, none⟩) n n, .slice A3 m3 c3, .bool x.empty], .slice A xs.length c] w (RetRun w (Rec (eats xs s) (fol s) x 0 xs.length)) := by
  subst hm1
  obtain ⟨i0, hi, hi0, hi1, hi2⟩ := info_parts Try.infoBool
  obtain ⟨L, hL⟩ : ∃ L, xs.length = L := ⟨_, rfl⟩
  obtain ⟨ex, hex⟩ : ∃ e, x.empty = e := ⟨_, rfl⟩
  rw [hex, hL]
  have bF := BoxF.new w (.slice A1 m1 c1) (.slice A2 m2 c2) (.slice (some ⟨gm, 0, none⟩) m1 m1) (.slice A3 m3 c3) ex
  have hB1 : Below w.heap.size w (w.alloc (.cells #[.slice A1 m1 c1, .slice A2 m2 c2, .slice (some ⟨gm, 0, none⟩) m1 m1, .slice A3 m3 c3, .bool ex] 37)) := (Below.refl _ _).alloc (Nat.le_refl _) _
  obtain ⟨wm, hmk, hown, hgm⟩ := run_make_full (P := Try.prog) (w.alloc (.cells #[.slice A1 m1 c1, .slice A2 m2 c2, .slice (some ⟨gm, 0, none⟩) m1 m1, .slice A3 m3 c3, .bool ex] 37)) (w.heap.size + 1) 34 4 i0 _ 1 Try.underlying34 hi hi0 hi1 .i64 .i64 m1 (by rw [hi2]; omega) (by unfold maxLen; omega) (by simp)
  rw [bools_made] at hown
  rw [World.size_alloc] at hmk hown
  have hBm : Below (w.heap.size + 1) (w.alloc (.cells #[.slice A1 m1 c1, .slice A2 m2 c2, .slice (some ⟨gm, 0, none⟩) m1 m1, .slice A3 m3 c3, .bool ex] 37)) wm := (Below.refl _ _).grown hgm (by simp) (fun k e => by cases e)
  have hBmw := hB1.trans (hBm.mono (by omega))
  have bFm : BoxF wm w.heap.size (.slice A1 m1 c1) (.slice A2 m2 c2) (.slice (some ⟨gm, 0, none⟩) m1 m1) (.slice A3 m3 c3) ex := (hBm.block _ (by omega)).trans bF
  have hnm := h.below hBmw
  have BM : Hid (Bools wm (w.heap.size + 1) (w.heap.size + 1) m1 fun _ => false) := hown
  obtain ⟨f0, f1, f2, f3, f4⟩ := bF.cell
  obtain ⟨e0, e1, e2, e3, e4⟩ := bFm.cell
  have HN := Lib.hid h
  have HNM := Lib.hid hnm
  have HBF := Lib.hid bFm
  have HBW := Lib.hid hBmw
  have HFL := Lib.hid hfl
  have HFO := Lib.hid hfo
  have HFN : Hid (x.first.length ≤ 100000) := by show _ ≤ _; omega
  have HFF := Lib.hid hff
  have HRD := Lib.hid hrd
  have HBY := Lib.hid hby
  have HL := Lib.hid hL
  have HNN := Lib.hid hn
  have HEX := Lib.hid hex
  clear h hnm bF bFm hBmw hBm hB1 hfl hfo hfn hff hrd hby hL hn hex hown hgm
  go_enter Try.func13, Try.ntmps13
  go_wp2_with (go_at_call 27; (refine (mark_p BM.out HNM.out.first HFL.out HFN.out (by omega)).mono ?_); rintro e w7 ⟨rfl, hb7, k7⟩; have hbox7 := HBF.out.off k7 (by intro e; have : w.heap.size = w.heap.size + 1 := e; omega); have hbw7 : Below (w.heap.size + 1) wm w7 := ⟨k7.os, k7.tape, k7.output, k7.size, fun b hb => k7.block b (by have := HBF.out.lt; have := BM.out.in.2; omega) (by intro e; have e' : b = w.heap.size + 1 := e; omega)⟩; have B7 := Lib.hid hb7; have BX7 := Lib.hid hbox7; have BW7 := Lib.hid hbw7; clear hb7 k7 hbox7 hbw7)
  clear f0 f1 f2 f3 f4 e0 e1 e2 e3 e4 hmk
  go_loopg [5, 6, 25] L (fun m e a i wr => ∃ (k g : Nat) (F : Nat → Bool) (b : Bool), e = .bool b ∧ a = .slice (some ⟨g, 0, none⟩) m1 m1 ∧ i = .int .i64 (k : Int) ∧ k ≤ L ∧ m = L - k ∧ (b = true ↔ Rec (eats xs s) (fol s) x 0 k) ∧ Bools wr (w.heap.size + 1) g m1 F ∧ (∀ p, p < m1 → (F p = true ↔ Ahead xs s x k p)) ∧ Below (w.heap.size + 1) wm wr)
  case atStart =>
    refine ⟨0, w.heap.size + 1, fun j => false || x.first.contains j, ex, by first | rfl | trivial, by first | rfl | trivial, by first | rfl | trivial, Nat.zero_le _, by first | rfl | trivial, by rw [rec_zero, HEX.out], B7.out, fun p hp => ?_, BW7.out⟩
    unfold Ahead
    simp only [Bool.false_or, List.contains_iff_mem]
    constructor
    · intro h; exact .inl ⟨by first | rfl | trivial, h⟩
    · rintro (⟨_, h⟩ | ⟨q, h, _⟩)
      · exact h
      · have := goes_pos h; omega
  case round =>
    obtain ⟨k, g, F, bE, rfl, rfl, rfl, hk, hmk, hbe, hbo, hah, hbw⟩ := hrel
    generalize wr = wo at *
    have HMK := Lib.hid hmk
    clear hmk
    have hBr := HBW.out.trans (hbw.mono (by omega))
    by_cases hkl : k < L
    · have hkl' : k < xs.length := by rw [HL.out]; exact hkl
      obtain ⟨ba, off, rfl, hba, hcb⟩ := (HRD.out.below hBr) k hkl'
      have hby := HBY.out k hkl'
      obtain ⟨y, hy⟩ : ∃ y, xs.getD k 0 = y := ⟨_, rfl⟩
      rw [hy] at hcb hby
      have hnr := HN.out.below hBr
      have hbx : BoxF wo w.heap.size (.slice A1 m1 c1) (.slice A2 m2 c2) (.slice (some ⟨gm, 0, none⟩) m1 m1) (.slice A3 m3 c3) ex := (hbw.block _ (by omega)).trans HBF.out
      obtain ⟨f0, f1, f2, f3, f4⟩ := hbx.cell
      have hsr := hbx.lt
      obtain ⟨w9, hmk, hown, hgm⟩ := run_make_full (P := Try.prog) wo (w.heap.size + 1) 34 4 i0 _ 1 Try.underlying34 hi hi0 hi1 .i64 .i64 m1 (by rw [hi2]; omega) (by unfold maxLen; omega) (by omega)
      rw [bools_made] at hown
      have hb9 : Below wo.heap.size wo w9 := (Below.refl _ _).grown hgm (Nat.le_refl _) (fun k e => by cases e)
      have B9 : Hid (Bools w9 (w.heap.size + 1) wo.heap.size m1 fun _ => false) := hown
      have HB9 := Lib.hid hb9
      have HY := Lib.hid hy
      have HYB := Lib.hid hby
      have HNR := Lib.hid hnr
      have HBX := Lib.hid hbx
      have HBO := Lib.hid hbo
      have HAH := Lib.hid hah
      have HBE := Lib.hid hbe
      have HBR := Lib.hid hBr
      have HBWR := Lib.hid hbw
      have hgr := hbo.in.2
      have k0 : (0 : Int) ≤ (k : Int) := by omega
      have k1 : (k : Int) < (L : Int) := by omega
      have HGLT : Hid (∀ p, Gone xs s x k p → p < m1) := fun p hp => by
        rcases ((gone_iff k p).1 hp).1 with ⟨_, h⟩ | ⟨q, _, h⟩
        · exact HFL.out p h
        · exact HFO.out q p h
      clear hown hgm hb9 hy hby hnr hbx hbo hah hbe hBr hbw
      go_wp2
      go_loopg [5, 10, 35] m1 (fun m e d i wi => ∃ (q : Nat) (G : Nat → Bool) (be bd : Bool), e = .bool be ∧ d = .bool bd ∧ i = .int .i64 (q : Int) ∧ q ≤ m1 ∧ m = m1 - q ∧ (be = true ↔ ∃ p, p < q ∧ Gone xs s x k p ∧ p ∈ x.last) ∧ (bd = true ↔ ∃ p, p < q ∧ Gone xs s x k p) ∧
        Bools wi (w.heap.size + 1) wo.heap.size m1 G ∧ (∀ p', p' < m1 → (G p' = true ↔ ∃ p, p < q ∧ Gone xs s x k p ∧ fol s p p')) ∧ Below wo.heap.size wo wi)
      case atStart => exact ⟨0, fun _ => false, false, false, by first | rfl | trivial, by first | rfl | trivial, by first | rfl | trivial, Nat.zero_le _, by first | rfl | trivial, by simp, by simp, B9.out, fun p' _ => by simp, HB9.out⟩
      case round =>
        obtain ⟨q, G, be, bd, rfl, rfl, rfl, hq, hmq, hbe, hbd, hbo, hG, hwi⟩ := hrel
        generalize wr = wi at *
        have HMQ := Lib.hid hmq
        clear hmq
        have hwm : w.heap.size ≤ wo.heap.size := by omega
        by_cases hql : q < m1
        · have hqs : q < s.sets.length := by rw [HNN.out]; exact hql
          have cq := (hwi.cell (p := ⟨g, q, none⟩) hgr).trans (HBO.out.cell q hql)
          have hni := HNR.out.below (hwi.mono hwm)
          have hbxi : BoxF wi w.heap.size (.slice A1 m1 c1) (.slice A2 m2 c2) (.slice (some ⟨gm, 0, none⟩) m1 m1) (.slice A3 m3 c3) ex := (hwi.block _ (by omega)).trans HBX.out
          obtain ⟨f0, f1, f2, f3, f4⟩ := hbxi.cell
          obtain ⟨g1, c1', e1, hg1, hs4⟩ := hni.sets q hqs
          obtain ⟨g3, c3', v3, e3, hg3, hc3, hi3, hv3⟩ := hni.fols q hqs
          have hlq := hni.last q hqs
          rw [HNN.out] at e1 e3
          simp only [Value.slice.injEq] at e1 e3
          obtain ⟨rfl, -, rfl⟩ := e1
          obtain ⟨rfl, hm3, rfl⟩ := e3
          have hm3 := hm3.symm
          subst hm3
          obtain ⟨P, hP⟩ : ∃ P, s.sets.getD q noneP = P := ⟨_, rfl⟩
          rw [hP] at hs4
          have s0 := hs4 0 (by omega)
          have s1 := hs4 1 (by omega)
          have s2 := hs4 2 (by omega)
          have s3 := hs4 3 (by omega)
          rw [Nat.add_zero] at s0
          have hgone : Gone xs s x k q ↔ F q = true ∧ P y.toNat = true := by
            rw [gone_iff, ← HAH.out q hql]
            unfold eats
            rw [hP, HY.out]
            constructor
            · rintro ⟨h1, _, h2⟩; exact ⟨h1, h2⟩
            · rintro ⟨h1, h2⟩; exact ⟨h1, by rw [HL.out]; exact hkl, h2⟩
          obtain ⟨fq, hfq⟩ : ∃ b, F q = b := ⟨_, rfl⟩
          obtain ⟨rq, hrq⟩ : ∃ b, P y.toNat = b := ⟨_, rfl⟩
          obtain ⟨lq, hlq'⟩ : ∃ b, x.last.contains q = b := ⟨_, rfl⟩
          rw [hfq] at cq
          rw [hfq, hrq] at hgone
          rw [hlq'] at hlq
          have hmore : ∀ R : Nat → Prop, (∃ p, p < q + 1 ∧ Gone xs s x k p ∧ R p) ↔ (∃ p, p < q ∧ Gone xs s x k p ∧ R p) ∨ (Gone xs s x k q ∧ R q) := fun R => by
            constructor
            · rintro ⟨p, hp, h1, h2⟩
              rcases Nat.lt_or_ge p q with h | h
              · exact .inl ⟨p, h, h1, h2⟩
              · have : p = q := by omega
                subst this
                exact .inr ⟨h1, h2⟩
            · rintro (⟨p, hp, h1, h2⟩ | ⟨h1, h2⟩)
              · exact ⟨p, by omega, h1, h2⟩
              · exact ⟨q, by omega, h1, h2⟩
          have hmore1 : (∃ p, p < q + 1 ∧ Gone xs s x k p) ↔ (∃ p, p < q ∧ Gone xs s x k p) ∨ Gone xs s x k q := by
            have := hmore fun _ => True
            simpa using this
          have hw7s := hwi.size
          have yb := HYB.out
          have HGONE := Lib.hid hgone
          have HMORE := Lib.hid hmore
          have HMORE1 := Lib.hid hmore1
          have HBB := Lib.hid hbo
          have HGG := Lib.hid hG
          have HBE2 := Lib.hid hbe
          have HBD2 := Lib.hid hbd
          have HWI := Lib.hid hwi
          have HI3 := Lib.hid hi3
          have HLQ := Lib.hid hlq'
          have q0 : (0 : Int) ≤ (q : Int) := by omega
          have q1 : (q : Int) < (m1 : Int) := by omega
          have HBXI := Lib.hid hbxi
          have HFF2 := Lib.hid (HFF.out q hql)
          obtain ⟨A6, m6, c6, e6⟩ := hi3.form3
          subst e6
          clear hgone hmore hmore1 hbo hG hbe hbd hwi hi3 hlq' hfq hP hs4 hni hbxi hv3
          cases fq
          · have hng : ¬ Gone xs s x k q := fun h => by have := (HGONE.out.1 h).1; cases this
            have HNG := Lib.hid hng
            clear hng
            go_wp2
            go_roundg (m1 - (q + 1))
            case measure => have := HMQ.out; omega
            case rel =>
              have hng := HNG.out
              exact ⟨q + 1, G, be, bd, rfl, rfl, by go_num, by omega, rfl, by rw [HMORE.out]; simp [hng, HBE2.out], by rw [HMORE1.out]; simp [hng, HBD2.out], HBB.out, fun p' hp' => by rw [HMORE.out, HGG.out p' hp']; simp [hng], HWI.out⟩
          · cases rq
            · have hng : ¬ Gone xs s x k q := fun h => by have := (HGONE.out.1 h).2; cases this
              have HNG := Lib.hid hng
              clear hng
              go_wp2_with (go_at_call 33; (with_reducible refine (has_p P y _ yb.1 yb.2).mono ?_); rintro e w4 ⟨rfl, hb4⟩; rw [hrq])
              go_roundg (m1 - (q + 1))
              case measure => have := HMQ.out; omega
              case rel =>
                have hng := HNG.out
                exact ⟨q + 1, G, be, bd, rfl, rfl, by go_num, by omega, rfl, by rw [HMORE.out]; simp [hng, HBE2.out], by rw [HMORE1.out]; simp [hng, HBD2.out], HBB.out.stays hb4, fun p' hp' => by rw [HMORE.out, HGG.out p' hp']; simp [hng], HWI.out.trans (hb4.mono HWI.out.size)⟩
            · have hg : Gone xs s x k q := HGONE.out.2 ⟨rfl, rfl⟩
              have HG := Lib.hid hg
              clear hg
              cases be
              all_goals
                go_wp2_with (go_at_call 33; (with_reducible refine (has_p P y _ yb.1 yb.2).mono ?_); rintro e w4 ⟨rfl, hb4⟩; rw [hrq]; obtain ⟨ff0, ff1, ff2, ff3, ff4⟩ := (HBXI.out.stays hb4).cell; have hl4 := cell_stays hlq hb4; have hc4 := cell_stays hc3 hb4; have HB4 := Lib.hid hb4; clear hb4)
                go_quiet (fail)
                go_wp2_with (go_at_call 27; (refine (mark_p (HBB.out.stays (below_dn HB4.out _)) (HI3.out.stays (below_dn HB4.out _)) (fun p hp => HFO.out q p hp) (by have := HFF2.out; omega) (by omega)).mono ?_); rintro e w5 ⟨rfl, hb5, k5⟩; have B5 := Lib.hid hb5; have K5 := Lib.hid k5; clear hb5 k5)
                go_roundg (m1 - (q + 1))
                case measure => have := HMQ.out; omega
                case rel =>
                  have hg := HG.out
                  have hb4 := HB4.out
                  have hin := HBB.out.in.2
                  have hw5 : Below wo.heap.size wo w5 := (HWI.out.trans (hb4.mono HWI.out.size)).trans ⟨K5.out.os, K5.out.tape, K5.out.output, K5.out.size, fun b hb => K5.out.block b (show b < w4.heap.size by have := hb4.size; omega) (by intro e; have e' : b = wo.heap.size := e; omega)⟩
                  have hlm : x.last.contains q = true ↔ q ∈ x.last := by simp
                  rw [HLQ.out] at hlm
                  refine ⟨q + 1, fun j => G j || (s.follow.getD q []).contains j, _, true, rfl, by first | rfl | trivial, by go_num, by omega, rfl, ?_, ?_, B5.out, fun p' hp' => ?_, hw5⟩
                  · rw [HMORE.out, ← HBE2.out]; simp [hg, hlm]
                  · rw [HMORE1.out]; simp [hg]
                  · rw [HMORE.out, ← HGG.out p' hp']; simp [hg, fol]
        · have hqm : q = m1 := by omega
          subst hqm
          have hE : ∀ R : Nat → Prop, (∃ p, p < q ∧ Gone xs s x k p ∧ R p) ↔ ∃ p, Gone xs s x k p ∧ R p := fun R => ⟨fun ⟨p, _, h⟩ => ⟨p, h⟩, fun ⟨p, h1, h2⟩ => ⟨p, HGLT.out p h1, h1, h2⟩⟩
          have hwm2 := hwi.size
          have HBB := Lib.hid hbo
          have HGG := Lib.hid hG
          have HBE2 := Lib.hid hbe
          have HBD2 := Lib.hid hbd
          have HWI := Lib.hid hwi
          have HEE := Lib.hid hE
          clear hbo hG hbe hbd hwi hE
          cases bd
          · go_wp2
            go_ret
            refine ⟨false, rfl, ⟨fun h => (by cases h), fun h => ?_⟩, HBR.out.trans (HWI.out.mono hwm)⟩
            refine absurd h (rec_stops k L hkl fun p hp => ?_)
            have := HBD2.out.2 ⟨p, HGLT.out p hp, hp⟩
            cases this
          · go_wp2
            go_roundg (L - (k + 1))
            case measure => have := HMK.out; omega
            case rel =>
              refine ⟨k + 1, wo.heap.size, G, be, rfl, rfl, by go_num, by omega, rfl, ?_, HBB.out, fun p hp => ?_, HBWR.out.trans (HWI.out.mono (by omega))⟩
              · rw [HBE2.out, HEE.out, rec_next]
              · rw [HGG.out p hp, HEE.out, ahead_next]
    · have hkL : k = L := by omega
      subst hkL
      have HBE := Lib.hid hbe
      have HBR := Lib.hid hBr
      clear hbe hBr hah hbo hbw
      go_wp2
      go_ret
      exact ⟨bE, rfl, HBE.out, HBR.out⟩
end Go.Proofs.Ytfgppmipaahleaa
