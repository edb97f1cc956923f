/-
  Several texts of this proof in one file: SetHas, NfaHas, RefRd6, RefRel, RefGo. No statement of its own.
-/
import Derived.Test.YtammicfijnffaaaDoorMn1
import Derived.Deep.DrawnRows
import Derived.Test.YtammicfijnffaaaDoorMn9
import Derived.BigQuiet
import Derived.Test.YtammicfijnffaaaDoorMn3
import Derived.Deep.DeepCutAuto
set_option linter.unusedVariables false
set_option linter.unusedSimpArgs false

/-
  What Has of package set does, whatever it is called with. Contracts for other texts; no statement of its own.
-/
namespace Go.Proofs.YtammicfijnffaaaDoor
open Go Go.RowKit
attribute [local go_sem ↓] Go.wp_at_zero Go.wp_at_succ

set_option maxHeartbeats 400000 in
theorem has_p (p : Nat → Bool) (b : Int) (w : World) (hb : 0 ≤ b) (hb' : b ≤ 255) :
    Calls Tryd.prog 15 #[.agg #[.int .u64 (word p 0), .int .u64 (word p 1), .int .u64 (word p 2), .int .u64 (word p 3)], .int .u8 b] w fun e w' => e = .returned (.bool (p b.toNat)) ∧ Below w.heap.size w w' := by
  have hv := words_at p b hb hb'
  have H := has_bits p b hb hb'
  rw [← H]
  clear H
  go_enter Tryd.func15, Tryd.ntmps15
  go_wp2
  go_ret
  exact ⟨rfl, (Below.refl _ _).alloc (Nat.le_refl _) _⟩

end Go.Proofs.YtammicfijnffaaaDoor

/-
  nfa.Has: whether a word goes through the places. Contracts for other texts; no statement of its own.
-/
namespace Go.Proofs.YtammicfijnffaaaDoor
open Go Go.RowKit
attribute [local go_sem ↓] Go.wp_at_zero Go.wp_at_succ

/-- Places in memory, at rest. -/
structure NfaIn (w : World) (B : Nat) (vs v1 : Value) (gm : Nat) (vf : Value) (s : Lay) (x : Str) : Prop where
  sets : ∀ p, p < s.sets.length → ∃ g c, vs = .slice (some ⟨g, 0, none⟩) s.sets.length c ∧ g < B ∧ ∀ r, r < 4 → w.cell? ⟨g, p * 4 + r, none⟩ = some (.int .u64 (word (s.sets.getD p noneP) r))
  first : Ints w 0 v1 (ns x.first)
  firstB : ∀ b, v1.ownBlock = some b → b < B
  last : ∀ p, p < s.sets.length → w.cell? ⟨gm, p, none⟩ = some (.bool (x.last.contains p))
  lastB : gm < B
  fols : ∀ p, p < s.sets.length → ∃ g c v, vf = .slice (some ⟨g, 0, none⟩) s.sets.length c ∧ g < B ∧ w.cell? ⟨g, p, none⟩ = some v ∧ Ints w 0 v (ns (s.follow.getD p [])) ∧ ∀ b, v.ownBlock = some b → b < B
theorem NfaAt.rest {w : World} {C gm : Nat} {vs v1 vf : Value} {s : Lay} {x : Str} (h : NfaAt w C vs v1 gm vf s x) (hl : LInv s) : NfaIn w w.heap.size vs v1 gm vf s x := by
  obtain ⟨Q, hr⟩ := h.rows
  obtain ⟨fs, hfo, hfs⟩ := hr.fols
  refine ⟨fun p hp => ?_, h.first.low (Nat.zero_le _), fun b e => (h.first.in e).2, fun p hp => h.last.cell p hp, h.last.in.2, fun p hp => ?_⟩
  · have hs := hr.sets
    rcases hs.2 with ⟨_, h0⟩ | ⟨g, c, cur, rfl, _, hg, _⟩
    · omega
    · refine ⟨g, c, rfl, lt_of_some hg, fun r hr => ?_⟩
      rw [World.ownsRow.cellAt hs (p * 4 + r) (by omega), setsC_get _ _ _ hp hr, List.getD_eq_getElem?_getD, List.getElem?_eq_getElem hp]
      rfl
  · have hp' : p < s.follow.length := by rw [hl.len]; exact hp
    rcases hfo.2 with ⟨_, h0⟩ | ⟨g, c, cur, rfl, _, hg, _⟩
    · omega
    · have hpf : p < fs.length := by rw [hfs.len]; exact hp'
      refine ⟨g, c, fs[p]'hpf, by rw [hl.len], lt_of_some hg, ?_, (hfs.get p _ _ (List.getElem?_eq_getElem hpf) (getD_get s.follow p [] hp')).low (Nat.zero_le _), fun b e => ?_⟩
      · rw [World.ownsRow.cellAt hfo p (by omega)]; exact List.getElem?_eq_getElem hpf
      · exact ((hfs.get p _ _ (List.getElem?_eq_getElem hpf) (getD_get s.follow p [] hp')).in e).2
theorem NfaIn.below {w w' : World} {B gm : Nat} {vs v1 vf : Value} {s : Lay} {x : Str} (h : NfaIn w B vs v1 gm vf s x) (hb : Below B w w') : NfaIn w' B vs v1 gm vf s x := by
  refine ⟨fun p hp => ?_, h.first.block fun b e _ => hb.block b (h.firstB b e), h.firstB, fun p hp => (hb.cell (p := ⟨gm, p, none⟩) h.lastB).trans (h.last p hp), h.lastB, fun p hp => ?_⟩
  · obtain ⟨g, c, e, hg, hc⟩ := h.sets p hp
    exact ⟨g, c, e, hg, fun r hr => (hb.cell (p := ⟨g, p * 4 + r, none⟩) hg).trans (hc r hr)⟩
  · obtain ⟨g, c, v, e, hg, hc, hi, hv⟩ := h.fols p hp
    exact ⟨g, c, v, e, hg, (hb.cell (p := ⟨g, p, none⟩) hg).trans hc, hi.block fun b e _ => hb.block b (hv b e), hv⟩

theorem below_dn {B : Nat} {a w : World} (h : Below B a w) (n : Nat) : Below B a (w.drewN n) := ⟨h.os, h.tape, h.output, h.size, h.block⟩
def RetRun (w : World) (P : Prop) (e : Ending) (w' : World) : Prop := ∃ b : Bool, e = .returned (.bool b) ∧ (b = true ↔ P) ∧ Below w.heap.size w w'

set_option maxRecDepth 20000 in
set_option maxHeartbeats 4000000 in
theorem nfahas_p {w : World} {A1 A2 A3 : Option Addr} {m1 c1 m2 c2 gm m3 c3 n : Nat} {s : Lay} {x : Str} {xs : List Int} {A : Option Addr} {c : Nat} (hn : s.sets.length = n) (h : NfaIn w w.heap.size (.slice A1 m1 c1) (.slice A2 m2 c2) gm (.slice A3 m3 c3) s x) (hm1 : m1 = n)
    (hfl : ∀ p ∈ x.first, p < n) (hfo : ∀ q p, p ∈ s.follow.getD q [] → p < n) (hfn : x.first.length ≤ 1000) (hff : ∀ q, q < n → (s.follow.getD q []).length ≤ 1000) (hn256 : n ≤ 256)
    (hrd : RdB w w.heap.size A xs) (hby : ∀ k, k < xs.length → 0 ≤ xs.getD k 0 ∧ xs.getD k 0 ≤ 255) (hlen : xs.length ≤ 100000) :
    Calls Tryd.prog 7 #[.agg #[.slice A1 m1 c1, .slice A2 m2 c2, .slice (some ⟨gm, 0, none⟩) n n, .slice A3 m3 c3, .bool x.empty], .slice A xs.length c] w (RetRun w (Rec (eats xs s) (fol s) x 0 xs.length)) := by
  subst hm1
  obtain ⟨i0, hi, hi0, hi1, hi2⟩ := info_parts Tryd.infoBool
  obtain ⟨L, hL⟩ : ∃ L, xs.length = L := ⟨_, rfl⟩
  obtain ⟨ex, hex⟩ : ∃ e, x.empty = e := ⟨_, rfl⟩
  rw [hex, hL]
  have bF := BoxF.new w (.slice A1 m1 c1) (.slice A2 m2 c2) (.slice (some ⟨gm, 0, none⟩) m1 m1) (.slice A3 m3 c3) ex
  have hB1 : Below w.heap.size w (w.alloc (.cells #[.slice A1 m1 c1, .slice A2 m2 c2, .slice (some ⟨gm, 0, none⟩) m1 m1, .slice A3 m3 c3, .bool ex] 37)) := (Below.refl _ _).alloc (Nat.le_refl _) _
  obtain ⟨wm, hmk, hown, hgm⟩ := run_make_full (P := Tryd.prog) (w.alloc (.cells #[.slice A1 m1 c1, .slice A2 m2 c2, .slice (some ⟨gm, 0, none⟩) m1 m1, .slice A3 m3 c3, .bool ex] 37)) (w.heap.size + 1) 34 4 i0 _ 1 Tryd.underlying34 hi hi0 hi1 .i64 .i64 m1 (by rw [hi2]; omega) (by unfold maxLen; omega) (by simp)
  rw [bools_made] at hown
  rw [World.size_alloc] at hmk hown
  have hBm : Below (w.heap.size + 1) (w.alloc (.cells #[.slice A1 m1 c1, .slice A2 m2 c2, .slice (some ⟨gm, 0, none⟩) m1 m1, .slice A3 m3 c3, .bool ex] 37)) wm := (Below.refl _ _).grown hgm (by simp) (fun k e => by cases e)
  have hBmw := hB1.trans (hBm.mono (by omega))
  have bFm : BoxF wm w.heap.size (.slice A1 m1 c1) (.slice A2 m2 c2) (.slice (some ⟨gm, 0, none⟩) m1 m1) (.slice A3 m3 c3) ex := (hBm.block _ (by omega)).trans bF
  have hnm := h.below hBmw
  have BM : Hid (Bools wm (w.heap.size + 1) (w.heap.size + 1) m1 fun _ => false) := hown
  obtain ⟨f0, f1, f2, f3, f4⟩ := bF.cell
  obtain ⟨e0, e1, e2, e3, e4⟩ := bFm.cell
  have HN := Lib.hid h
  have HNM := Lib.hid hnm
  have HBF := Lib.hid bFm
  have HBW := Lib.hid hBmw
  have HFL := Lib.hid hfl
  have HFO := Lib.hid hfo
  have HFN : Hid (x.first.length ≤ 100000) := by show _ ≤ _; omega
  have HFF := Lib.hid hff
  have HRD := Lib.hid hrd
  have HBY := Lib.hid hby
  have HL := Lib.hid hL
  have HNN := Lib.hid hn
  have HEX := Lib.hid hex
  clear h hnm bF bFm hBmw hBm hB1 hfl hfo hfn hff hrd hby hL hn hex hown hgm
  go_enter Tryd.func7, Tryd.ntmps7
  go_wp2_with (go_at_call 14; (refine (mark_p BM.out HNM.out.first HFL.out HFN.out (by omega)).mono ?_); rintro e w7 ⟨rfl, hb7, k7⟩; have hbox7 := HBF.out.off k7 (by intro e; have : w.heap.size = w.heap.size + 1 := e; omega); have hbw7 : Below (w.heap.size + 1) wm w7 := ⟨k7.os, k7.tape, k7.output, k7.size, fun b hb => k7.block b (by have := HBF.out.lt; have := BM.out.in.2; omega) (by intro e; have e' : b = w.heap.size + 1 := e; omega)⟩; have B7 := Lib.hid hb7; have BX7 := Lib.hid hbox7; have BW7 := Lib.hid hbw7; clear hb7 k7 hbox7 hbw7)
  clear f0 f1 f2 f3 f4 e0 e1 e2 e3 e4 hmk
  go_loopg [5, 6, 25] L (fun m e a i wr => ∃ (k g : Nat) (F : Nat → Bool) (b : Bool), e = .bool b ∧ a = .slice (some ⟨g, 0, none⟩) m1 m1 ∧ i = .int .i64 (k : Int) ∧ k ≤ L ∧ m = L - k ∧ (b = true ↔ Rec (eats xs s) (fol s) x 0 k) ∧ Bools wr (w.heap.size + 1) g m1 F ∧ (∀ p, p < m1 → (F p = true ↔ Ahead xs s x k p)) ∧ Below (w.heap.size + 1) wm wr)
  case atStart =>
    refine ⟨0, w.heap.size + 1, fun j => false || x.first.contains j, ex, by first | rfl | trivial, by first | rfl | trivial, by first | rfl | trivial, Nat.zero_le _, by first | rfl | trivial, by rw [rec_zero, HEX.out], B7.out, fun p hp => ?_, BW7.out⟩
    unfold Ahead
    simp only [Bool.false_or, List.contains_iff_mem]
    constructor
    · intro h; exact .inl ⟨by first | rfl | trivial, h⟩
    · rintro (⟨_, h⟩ | ⟨q, h, _⟩)
      · exact h
      · have := goes_pos h; omega
  case round =>
    obtain ⟨k, g, F, bE, rfl, rfl, rfl, hk, hmk, hbe, hbo, hah, hbw⟩ := hrel
    generalize wr = wo at *
    have HMK := Lib.hid hmk
    clear hmk
    have hBr := HBW.out.trans (hbw.mono (by omega))
    by_cases hkl : k < L
    · have hkl' : k < xs.length := by rw [HL.out]; exact hkl
      obtain ⟨ba, off, rfl, hba, hcb⟩ := (HRD.out.below hBr) k hkl'
      have hby := HBY.out k hkl'
      obtain ⟨y, hy⟩ : ∃ y, xs.getD k 0 = y := ⟨_, rfl⟩
      rw [hy] at hcb hby
      have hnr := HN.out.below hBr
      have hbx : BoxF wo w.heap.size (.slice A1 m1 c1) (.slice A2 m2 c2) (.slice (some ⟨gm, 0, none⟩) m1 m1) (.slice A3 m3 c3) ex := (hbw.block _ (by omega)).trans HBF.out
      obtain ⟨f0, f1, f2, f3, f4⟩ := hbx.cell
      have hsr := hbx.lt
      obtain ⟨w9, hmk, hown, hgm⟩ := run_make_full (P := Tryd.prog) wo (w.heap.size + 1) 34 4 i0 _ 1 Tryd.underlying34 hi hi0 hi1 .i64 .i64 m1 (by rw [hi2]; omega) (by unfold maxLen; omega) (by omega)
      rw [bools_made] at hown
      have hb9 : Below wo.heap.size wo w9 := (Below.refl _ _).grown hgm (Nat.le_refl _) (fun k e => by cases e)
      have B9 : Hid (Bools w9 (w.heap.size + 1) wo.heap.size m1 fun _ => false) := hown
      have HB9 := Lib.hid hb9
      have HY := Lib.hid hy
      have HYB := Lib.hid hby
      have HNR := Lib.hid hnr
      have HBX := Lib.hid hbx
      have HBO := Lib.hid hbo
      have HAH := Lib.hid hah
      have HBE := Lib.hid hbe
      have HBR := Lib.hid hBr
      have HBWR := Lib.hid hbw
      have hgr := hbo.in.2
      have k0 : (0 : Int) ≤ (k : Int) := by omega
      have k1 : (k : Int) < (L : Int) := by omega
      have HGLT : Hid (∀ p, Gone xs s x k p → p < m1) := fun p hp => by
        rcases ((gone_iff k p).1 hp).1 with ⟨_, h⟩ | ⟨q, _, h⟩
        · exact HFL.out p h
        · exact HFO.out q p h
      clear hown hgm hb9 hy hby hnr hbx hbo hah hbe hBr hbw
      go_wp2
      go_loopg [5, 10, 35] m1 (fun m e d i wi => ∃ (q : Nat) (G : Nat → Bool) (be bd : Bool), e = .bool be ∧ d = .bool bd ∧ i = .int .i64 (q : Int) ∧ q ≤ m1 ∧ m = m1 - q ∧ (be = true ↔ ∃ p, p < q ∧ Gone xs s x k p ∧ p ∈ x.last) ∧ (bd = true ↔ ∃ p, p < q ∧ Gone xs s x k p) ∧
        Bools wi (w.heap.size + 1) wo.heap.size m1 G ∧ (∀ p', p' < m1 → (G p' = true ↔ ∃ p, p < q ∧ Gone xs s x k p ∧ fol s p p')) ∧ Below wo.heap.size wo wi)
      case atStart => exact ⟨0, fun _ => false, false, false, by first | rfl | trivial, by first | rfl | trivial, by first | rfl | trivial, Nat.zero_le _, by first | rfl | trivial, by simp, by simp, B9.out, fun p' _ => by simp, HB9.out⟩
      case round =>
        obtain ⟨q, G, be, bd, rfl, rfl, rfl, hq, hmq, hbe, hbd, hbo, hG, hwi⟩ := hrel
        generalize wr = wi at *
        have HMQ := Lib.hid hmq
        clear hmq
        have hwm : w.heap.size ≤ wo.heap.size := by omega
        by_cases hql : q < m1
        · have hqs : q < s.sets.length := by rw [HNN.out]; exact hql
          have cq := (hwi.cell (p := ⟨g, q, none⟩) hgr).trans (HBO.out.cell q hql)
          have hni := HNR.out.below (hwi.mono hwm)
          have hbxi : BoxF wi w.heap.size (.slice A1 m1 c1) (.slice A2 m2 c2) (.slice (some ⟨gm, 0, none⟩) m1 m1) (.slice A3 m3 c3) ex := (hwi.block _ (by omega)).trans HBX.out
          obtain ⟨f0, f1, f2, f3, f4⟩ := hbxi.cell
          obtain ⟨g1, c1', e1, hg1, hs4⟩ := hni.sets q hqs
          obtain ⟨g3, c3', v3, e3, hg3, hc3, hi3, hv3⟩ := hni.fols q hqs
          have hlq := hni.last q hqs
          rw [HNN.out] at e1 e3
          simp only [Value.slice.injEq] at e1 e3
          obtain ⟨rfl, -, rfl⟩ := e1
          obtain ⟨rfl, hm3, rfl⟩ := e3
          have hm3 := hm3.symm
          subst hm3
          obtain ⟨P, hP⟩ : ∃ P, s.sets.getD q noneP = P := ⟨_, rfl⟩
          rw [hP] at hs4
          have s0 := hs4 0 (by omega)
          have s1 := hs4 1 (by omega)
          have s2 := hs4 2 (by omega)
          have s3 := hs4 3 (by omega)
          rw [Nat.add_zero] at s0
          have hgone : Gone xs s x k q ↔ F q = true ∧ P y.toNat = true := by
            rw [gone_iff, ← HAH.out q hql]
            unfold eats
            rw [hP, HY.out]
            constructor
            · rintro ⟨h1, _, h2⟩; exact ⟨h1, h2⟩
            · rintro ⟨h1, h2⟩; exact ⟨h1, by rw [HL.out]; exact hkl, h2⟩
          obtain ⟨fq, hfq⟩ : ∃ b, F q = b := ⟨_, rfl⟩
          obtain ⟨rq, hrq⟩ : ∃ b, P y.toNat = b := ⟨_, rfl⟩
          obtain ⟨lq, hlq'⟩ : ∃ b, x.last.contains q = b := ⟨_, rfl⟩
          rw [hfq] at cq
          rw [hfq, hrq] at hgone
          rw [hlq'] at hlq
          have hmore : ∀ R : Nat → Prop, (∃ p, p < q + 1 ∧ Gone xs s x k p ∧ R p) ↔ (∃ p, p < q ∧ Gone xs s x k p ∧ R p) ∨ (Gone xs s x k q ∧ R q) := fun R => by
            constructor
            · rintro ⟨p, hp, h1, h2⟩
              rcases Nat.lt_or_ge p q with h | h
              · exact .inl ⟨p, h, h1, h2⟩
              · have : p = q := by omega
                subst this
                exact .inr ⟨h1, h2⟩
            · rintro (⟨p, hp, h1, h2⟩ | ⟨h1, h2⟩)
              · exact ⟨p, by omega, h1, h2⟩
              · exact ⟨q, by omega, h1, h2⟩
          have hmore1 : (∃ p, p < q + 1 ∧ Gone xs s x k p) ↔ (∃ p, p < q ∧ Gone xs s x k p) ∨ Gone xs s x k q := by
            have := hmore fun _ => True
            simpa using this
          have hw7s := hwi.size
          have yb := HYB.out
          have HGONE := Lib.hid hgone
          have HMORE := Lib.hid hmore
          have HMORE1 := Lib.hid hmore1
          have HBB := Lib.hid hbo
          have HGG := Lib.hid hG
          have HBE2 := Lib.hid hbe
          have HBD2 := Lib.hid hbd
          have HWI := Lib.hid hwi
          have HI3 := Lib.hid hi3
          have HLQ := Lib.hid hlq'
          have q0 : (0 : Int) ≤ (q : Int) := by omega
          have q1 : (q : Int) < (m1 : Int) := by omega
          have HBXI := Lib.hid hbxi
          have HFF2 := Lib.hid (HFF.out q hql)
          obtain ⟨A6, m6, c6, e6⟩ := hi3.form3
          subst e6
          clear hgone hmore hmore1 hbo hG hbe hbd hwi hi3 hlq' hfq hP hs4 hni hbxi hv3
          cases fq
          · have hng : ¬ Gone xs s x k q := fun h => by have := (HGONE.out.1 h).1; cases this
            have HNG := Lib.hid hng
            clear hng
            go_wp2
            go_roundg (m1 - (q + 1))
            case measure => have := HMQ.out; omega
            case rel =>
              have hng := HNG.out
              exact ⟨q + 1, G, be, bd, rfl, rfl, by go_num, by omega, rfl, by rw [HMORE.out]; simp [hng, HBE2.out], by rw [HMORE1.out]; simp [hng, HBD2.out], HBB.out, fun p' hp' => by rw [HMORE.out, HGG.out p' hp']; simp [hng], HWI.out⟩
          · cases rq
            · have hng : ¬ Gone xs s x k q := fun h => by have := (HGONE.out.1 h).2; cases this
              have HNG := Lib.hid hng
              clear hng
              go_wp2_with (go_at_call 15; (with_reducible refine (has_p P y _ yb.1 yb.2).mono ?_); rintro e w4 ⟨rfl, hb4⟩; rw [hrq])
              go_roundg (m1 - (q + 1))
              case measure => have := HMQ.out; omega
              case rel =>
                have hng := HNG.out
                exact ⟨q + 1, G, be, bd, rfl, rfl, by go_num, by omega, rfl, by rw [HMORE.out]; simp [hng, HBE2.out], by rw [HMORE1.out]; simp [hng, HBD2.out], HBB.out.stays hb4, fun p' hp' => by rw [HMORE.out, HGG.out p' hp']; simp [hng], HWI.out.trans (hb4.mono HWI.out.size)⟩
            · have hg : Gone xs s x k q := HGONE.out.2 ⟨rfl, rfl⟩
              have HG := Lib.hid hg
              clear hg
              cases be
              all_goals
                go_wp2_with (go_at_call 15; (with_reducible refine (has_p P y _ yb.1 yb.2).mono ?_); rintro e w4 ⟨rfl, hb4⟩; rw [hrq]; obtain ⟨ff0, ff1, ff2, ff3, ff4⟩ := (HBXI.out.stays hb4).cell; have hl4 := cell_stays hlq hb4; have hc4 := cell_stays hc3 hb4; have HB4 := Lib.hid hb4; clear hb4)
                go_quiet (fail)
                go_wp2_with (go_at_call 14; (refine (mark_p (HBB.out.stays (below_dn HB4.out _)) (HI3.out.stays (below_dn HB4.out _)) (fun p hp => HFO.out q p hp) (by have := HFF2.out; omega) (by omega)).mono ?_); rintro e w5 ⟨rfl, hb5, k5⟩; have B5 := Lib.hid hb5; have K5 := Lib.hid k5; clear hb5 k5)
                go_roundg (m1 - (q + 1))
                case measure => have := HMQ.out; omega
                case rel =>
                  have hg := HG.out
                  have hb4 := HB4.out
                  have hin := HBB.out.in.2
                  have hw5 : Below wo.heap.size wo w5 := (HWI.out.trans (hb4.mono HWI.out.size)).trans ⟨K5.out.os, K5.out.tape, K5.out.output, K5.out.size, fun b hb => K5.out.block b (show b < w4.heap.size by have := hb4.size; omega) (by intro e; have e' : b = wo.heap.size := e; omega)⟩
                  have hlm : x.last.contains q = true ↔ q ∈ x.last := by simp
                  rw [HLQ.out] at hlm
                  refine ⟨q + 1, fun j => G j || (s.follow.getD q []).contains j, _, true, rfl, by first | rfl | trivial, by go_num, by omega, rfl, ?_, ?_, B5.out, fun p' hp' => ?_, hw5⟩
                  · rw [HMORE.out, ← HBE2.out]; simp [hg, hlm]
                  · rw [HMORE1.out]; simp [hg]
                  · rw [HMORE.out, ← HGG.out p' hp']; simp [hg, fol]
        · have hqm : q = m1 := by omega
          subst hqm
          have hE : ∀ R : Nat → Prop, (∃ p, p < q ∧ Gone xs s x k p ∧ R p) ↔ ∃ p, Gone xs s x k p ∧ R p := fun R => ⟨fun ⟨p, _, h⟩ => ⟨p, h⟩, fun ⟨p, h1, h2⟩ => ⟨p, HGLT.out p h1, h1, h2⟩⟩
          have hwm2 := hwi.size
          have HBB := Lib.hid hbo
          have HGG := Lib.hid hG
          have HBE2 := Lib.hid hbe
          have HBD2 := Lib.hid hbd
          have HWI := Lib.hid hwi
          have HEE := Lib.hid hE
          clear hbo hG hbe hbd hwi hE
          cases bd
          · go_wp2
            go_ret
            refine ⟨false, rfl, ⟨fun h => (by cases h), fun h => ?_⟩, HBR.out.trans (HWI.out.mono hwm)⟩
            refine absurd h (rec_stops k L hkl fun p hp => ?_)
            have := HBD2.out.2 ⟨p, HGLT.out p hp, hp⟩
            cases this
          · go_wp2
            go_roundg (L - (k + 1))
            case measure => have := HMK.out; omega
            case rel =>
              refine ⟨k + 1, wo.heap.size, G, be, rfl, rfl, by go_num, by omega, rfl, ?_, HBB.out, fun p hp => ?_, HBWR.out.trans (HWI.out.mono (by omega))⟩
              · rw [HBE2.out, HEE.out, rec_next]
              · rw [HGG.out p hp, HEE.out, ahead_next]
    · have hkL : k = L := by omega
      subst hkL
      have HBE := Lib.hid hbe
      have HBR := Lib.hid hBr
      clear hbe hBr hah hbo hbw
      go_wp2
      go_ret
      exact ⟨bE, rfl, HBE.out, HBR.out⟩
end Go.Proofs.YtammicfijnffaaaDoor

/-
  The document's own reader of patterns: item, whole: what it does, as a function of the reader's state. Contracts for other texts; no statement of its own.
-/
namespace Go.Proofs.YtammicfijnffaaaDoor
open Go Go.RowKit
attribute [local go_sem ↓] Go.wp_at_zero Go.wp_at_succ

/-- Is a backslash next, with a byte behind it? -/
def St.escHere (s : ByteArray) (st : St) : Bool := st.peek s == 92 && decide (st.pos + 1 < s.size)

set_option maxRecDepth 20000 in
set_option maxHeartbeats 4000000 in
theorem item_rest (w : World) (g : Nat) (s : ByteArray) (st : St) (h : Rdr w g s st) (hs : s.size ≤ 1000) (hpos : st.pos ≤ s.size) (hw : st.wideHere s = false) :
    Calls Tryd.prog 58 #[.pointer (some ⟨g, 0, none⟩)] w fun e w' => e = .returned (setV (st.item s).1) ∧ Rdr w' g s (st.item s).2 ∧ w.grownBy w' (some g) := by
  have b0 := Box4.new0 w
  have r0 := h.alloc (.cells #[.int .u64 0, .int .u64 0, .int .u64 0, .int .u64 0] 26)
  have hO : w.grownBy (w.alloc (.cells #[.int .u64 0, .int .u64 0, .int .u64 0, .int .u64 0] 26)) (some g) := only_alloc (only_refl _ _) _
  have hgw := h.lt
  generalize hw0 : w.alloc (.cells #[.int .u64 0, .int .u64 0, .int .u64 0, .int .u64 0] 26) = w0 at *
  have HW := Lib.hid hw0
  have HH := Lib.hid hw
  clear hw0 hw
  go_enter Tryd.func58, Tryd.ntmps58
  go_wp2_with fail
  rw [HW.out]
  clear HW
  go_cut [22] (fun s22 wx => s22 = .bool (st.escHere s) ∧ Rdr wx g s st ∧ Box4 wx w.heap.size noneP ∧ w.grownBy wx (some g))
  case first =>
    obtain ⟨c0, c1, c2, c3, c4⟩ := r0.cell
    by_cases hp : st.peek s = 92
    · have HP := Lib.hid hp
      by_cases hlt : st.pos + 1 < s.size
      · have HS : Hid (st.escHere s = true) := by show St.escHere s st = true; unfold St.escHere; simp [hp, hlt]
        clear hp
        have k0 : (0 : Int) ≤ (st.pos : Int) + 1 := by omega
        have k1 : (st.pos : Int) + 1 < (s.size : Int) := by omega
        have k2 : IntKind.i64.wrap ((st.pos : Int) + 1) = (st.pos : Int) + 1 := IntWalk.i64_in _ (by omega)
        have k3 : ((st.pos : Int) + 1).toNat = st.pos + 1 := by omega
        have hd : decide ((st.pos : Int) + 1 < (s.size : Int)) = true := by simp; omega
        go_quiet ((go_at_call 33; exact Calls.quiet_of (quiet_peek _ g s st (by first | exact r0 | exact r0.drewN _) hs 92 HP.out)))
        go_wp2_with fail
        go_meet
        exact ⟨by rw [HS.out], r0.drewN _, b0, only_drewN hO _⟩
      · have HS : Hid (st.escHere s = false) := by show St.escHere s st = false; unfold St.escHere; simp [hlt]
        clear hp
        have k2 : IntKind.i64.wrap ((st.pos : Int) + 1) = (st.pos : Int) + 1 := IntWalk.i64_in _ (by omega)
        have hd : decide ((st.pos : Int) + 1 < (s.size : Int)) = false := by simp; omega
        go_quiet ((go_at_call 33; exact Calls.quiet_of (quiet_peek _ g s st (by first | exact r0 | exact r0.drewN _) hs 92 HP.out)))
        go_wp2_with fail
        go_meet
        exact ⟨by rw [HS.out], r0.drewN _, b0, only_drewN hO _⟩
    · have hp' : (st.peek s == 92) = false := by simp [hp]
      have HS : Hid (st.escHere s = false) := by show St.escHere s st = false; unfold St.escHere; simp [hp]
      clear hp
      go_quiet ((go_at_call 33; exact Calls.quiet_of (quiet_peek _ g s st (by first | exact r0 | exact r0.drewN _) hs _ rfl)))
      go_wp2_with fail
      go_meet
      exact ⟨by rw [HS.out], r0.drewN _, b0, only_drewN hO _⟩
  case rest =>
  clear r0 b0 hO
  obtain ⟨hs22, r0, b0, hO⟩ := hcut
  generalize wc = w1 at *
  go_upto_if 22 with fail
  go_cut [] (fun wx => Rdr wx g s st ∧ Box4 wx w.heap.size noneP ∧ w.grownBy wx (some g))
  case first =>
    cases hesc : st.escHere s
    · rw [hesc] at hs22
      subst hs22
      go_wp2_with fail
      go_meet
      exact ⟨r0, b0, hO⟩
    · rw [hesc] at hs22
      subst hs22
      have he2 := hesc
      unfold St.escHere at he2
      simp only [Bool.and_eq_true, beq_iff_eq, decide_eq_true_eq] at he2
      obtain ⟨hp, hlt⟩ := he2
      have hwd : isWide (bt s (st.pos + 1) : Int) = false := by
        have := HH.out
        unfold St.wideHere at this
        simpa [hp, hlt] using this
      clear hp hesc
      have hbe := bt_eq s (st.pos + 1) hlt
      have k0 : (0 : Int) ≤ (st.pos : Int) + 1 := by omega
      have k1 : (st.pos : Int) + 1 < (s.size : Int) := by omega
      have k2 : IntKind.i64.wrap ((st.pos : Int) + 1) = (st.pos : Int) + 1 := IntWalk.i64_in _ (by omega)
      have k3 : ((st.pos : Int) + 1).toNat = st.pos + 1 := by omega
      go_wp2_with fail
      obtain ⟨c0, c1, c2, c3, c4⟩ := r0.cell
      have k4 : IntKind.i64.wrap (((s[st.pos + 1]'hlt).toNat : Nat) : Int) = (bt s (st.pos + 1) : Int) := by
        have := UInt8.toNat_lt (s[st.pos + 1]'hlt)
        rw [hbe, IntWalk.i64_in _ (by omega)]
      have hgw1 : g < w1.heap.size := r0.lt
      clear hbe
      refine wp_region_noPanic ?_
      first | go_region_held (fun w' => w'.cell? ⟨g, 0, none⟩ = some (.string s) ∧ w'.cell? ⟨g, 1, none⟩ = some (.int .i64 (st.pos : Int)))
        (first | exact ⟨c0, c1⟩ | (go_split_ands; refine ⟨?_, ?_⟩ <;> first | with_reducible assumption | with_reducible exact cell_stays ‹_› ‹_›) | with_reducible exact ⟨(r2.alloc _).cell.1, (r2.alloc _).cell.2.1⟩ | with_reducible exact ⟨(r2.far4 (g' := w1.heap.size) (by omega) _ _ _ _).cell.1, (r2.far4 (g' := w1.heap.size) (by omega) _ _ _ _).cell.2.1⟩ | go_keep)
        (first | (go_at_call 55; (with_reducible refine (wide_p _ _).mono ?_); rintro e w2 ⟨rfl, hb2⟩; unfold setV; have r2 : Rdr w2 g s st := (by first | with_reducible exact r0.drew.stays hb2 | with_reducible exact (r0.drew.alloc _).stays hb2 | with_reducible exact (r0.alloc _).drew.stays hb2); (try (have bx : Box4 w2 w1.heap.size noneP := (by first | with_reducible exact (Box4.new0 w1.drew).stays hb2 | with_reducible exact (Box4.new0 w1).drew.stays hb2); obtain ⟨x0, x1, x2, x3⟩ := bx.cell; obtain ⟨y0, y1, y2, y3⟩ := bx.frozen))))
            | fail
      all_goals try
        have nA : w.heap.size ≠ w1.heap.size := by have := b0.lt; omega
        have gA : g ≠ w1.heap.size := by omega
        have bZ : Box4 (put4 w2 w1.heap.size (wideP (bt s (st.pos + 1) : Int))) w.heap.size noneP := (show Box4 w2 w.heap.size noneP by first | with_reducible exact (b0.drew.alloc _).stays hb2 | with_reducible exact (b0.alloc _).drew.stays hb2).putFar nA _
        have rA := r2.put4 gA (wideP (bt s (st.pos + 1) : Int))
        have oA : w.grownBy (put4 w2 w1.heap.size (wideP (bt s (st.pos + 1) : Int))) (some g) := only_put4 (by first | with_reducible exact only_below (only_alloc (only_drew hO) _) hb2 | with_reducible exact only_below (only_drew (only_alloc hO _)) hb2) hO.size _
        change NoPanic _ _ _ (put4 w2 w1.heap.size (wideP (bt s (st.pos + 1) : Int)))
        generalize put4 w2 w1.heap.size (wideP (bt s (st.pos + 1) : Int)) = w3 at *
      all_goals try
        fail_if_success (have := oA)
        have rA := r2.alloc (.cells #[.int .u64 (word (wideP (bt s (st.pos + 1) : Int)) 0), .int .u64 (word (wideP (bt s (st.pos + 1) : Int)) 1), .int .u64 (word (wideP (bt s (st.pos + 1) : Int)) 2), .int .u64 (word (wideP (bt s (st.pos + 1) : Int)) 3)] 26)
        have bZ := (b0.drew.stays hb2).alloc (.cells #[.int .u64 (word (wideP (bt s (st.pos + 1) : Int)) 0), .int .u64 (word (wideP (bt s (st.pos + 1) : Int)) 1), .int .u64 (word (wideP (bt s (st.pos + 1) : Int)) 2), .int .u64 (word (wideP (bt s (st.pos + 1) : Int)) 3)] 26)
        have oA := only_alloc (only_below (only_drew hO) hb2) (.cells #[.int .u64 (word (wideP (bt s (st.pos + 1) : Int)) 0), .int .u64 (word (wideP (bt s (st.pos + 1) : Int)) 1), .int .u64 (word (wideP (bt s (st.pos + 1) : Int)) 2), .int .u64 (word (wideP (bt s (st.pos + 1) : Int)) 3)] 26)
        generalize w2.alloc (.cells #[.int .u64 (word (wideP (bt s (st.pos + 1) : Int)) 0), .int .u64 (word (wideP (bt s (st.pos + 1) : Int)) 1), .int .u64 (word (wideP (bt s (st.pos + 1) : Int)) 2), .int .u64 (word (wideP (bt s (st.pos + 1) : Int)) 3)] 26) = w3 at *
      all_goals
        refine NoPanic.normal ?_
        clear hb2 r2 b0 r0 hO c0 c1 c2 c3 c4
        go_wp2_with fail
        go_meet
        exact ⟨rA, bZ, oA⟩
  case rest =>
    obtain ⟨r1, b1, hO1⟩ := hcut
    have hm1 := member_pos s st hpos
    have hl1 := member_bd s st
    have HE : Hid (st.item s = if (st.member s).2.peek s = 45 then (rangeP (st.member s).1 (((st.member s).2.step 1).member s).1, if (((st.member s).2.step 1).member s).1 < (st.member s).1 then (((st.member s).2.step 1).member s).2.fail (((((st.member s).2.step 1).member s).2.pos : Int) - 1) 2 else (((st.member s).2.step 1).member s).2) else (rangeP (st.member s).1 (st.member s).1, (st.member s).2)) := by
      show St.item s st = _
      unfold St.item
      rw [if_neg (by rw [HH.out]; simp)]
    have HM := Lib.hid (member_p wc g s st r1 hs hpos)
    generalize hlo : (st.member s).1 = lo at *
    generalize hs1 : (st.member s).2 = st1 at *
    clear hlo hs1 HH
    have hgb : w.heap.size ≠ g := by omega
    by_cases hp : st1.peek s = 45
    · have hp1 := peek_pos s st1 (by omega)
      have hE := HE.out
      rw [if_pos hp] at hE
      clear HE
      have hp' : (st1.peek s == 45) = true := by simp [hp]
      clear hp
      have hm3 := member_pos s (st1.step 1) (show st1.pos + 1 ≤ s.size by omega)
      have hl3 := member_bd s (st1.step 1)
      have HM3 : ∀ w, Rdr w g s (st1.step 1) → Calls Tryd.prog 63 #[.pointer (some ⟨g, 0, none⟩)] w fun e w' => e = .returned (.int .u8 ((st1.step 1).member s).1) ∧ Rdr w' g s ((st1.step 1).member s).2 ∧ w.grownBy w' (some g) := fun w h => member_p w g s (st1.step 1) h hs (show st1.pos + 1 ≤ s.size by omega)
      have hp2 := hp1.2
      clear hp1
      generalize hhi : ((st1.step 1).member s).1 = hi at *
      generalize hs3 : ((st1.step 1).member s).2 = st3 at *
      clear hhi hs3
      replace HM3 := Lib.hid HM3
      by_cases hlt : hi < lo
      · rw [if_pos hlt] at hE
        have HE := Lib.hid hE
        clear hE
        go_wp2_with (first
          | (go_at_call 63; (with_reducible refine (HM.out).mono ?_); rintro e w2 ⟨rfl, r2, o2⟩; have b2 := b1.grown o2 (by simpa using hgb); obtain ⟨c0, c1, c2, c3, c4⟩ := r2.cell; obtain ⟨f0, f1, f2, f3, f4⟩ := r2.frozen)
          | (go_at_call 33; (with_reducible refine (peek_p _ g s st1 r2 hs).mono ?_); rintro e w3 ⟨rfl, n, rfl⟩; have r3 := ((r2.drewN n).setPos (st1.pos + 1)))
          | (go_at_call 63; refine (HM3.out _ r3).mono ?_; rintro e w4 ⟨rfl, r4, o4⟩; obtain ⟨k0, k1, k2, k3, k4⟩ := r4.cell)
          | (go_at_call 50; (with_reducible refine (fail_p _ g s st3 _ _ r4).mono ?_); rintro e w5 ⟨rfl, r5, o5⟩)
          | (go_at_call 64; (with_reducible refine (rrange_p lo hi _ (by omega) (by omega) (by omega) (by omega)).mono ?_); rintro e w6 ⟨rfl, hb6⟩; unfold setV; have b3 : Box4 ((w2.drewN n).setCell ⟨g, 1, none⟩ (.int .i64 ((st1.pos + 1 : Nat) : Int))) w.heap.size noneP := b2.far hgb _; have b6 := ((b3.grown o4 (by simpa using hgb)).grown o5 (by simpa using hgb)).stays hb6; have r6 := r5.stays hb6; obtain ⟨l0, l1, l2, l3⟩ := b6.cell; obtain ⟨m0, m1, m2, m3⟩ := b6.frozen))
        refine bodyPost_ret (v := setV (rangeP lo hi)) ?_ rfl ⟨by rw [HE.out], ?_, ?_⟩
        · unfold setV
          simp [results, Tryd.results58, go_sem, l0, l1, l2, l3]
        · rw [HE.out]; exact r6.far4 (Ne.symm hgb) _ _ _ _
        · exact only_setNew (only_setNew (only_setNew (only_setNew (only_below (only_trans (only_trans (only_set (only_drewN (only_trans hO1 o2) n) _) o4) o5) hb6) (Nat.le_refl _) _) (Nat.le_refl _) _) (Nat.le_refl _) _) (Nat.le_refl _) _
      · rw [if_neg hlt] at hE
        have HE := Lib.hid hE
        clear hE
        go_wp2_with (first
          | (go_at_call 63; (with_reducible refine (HM.out).mono ?_); rintro e w2 ⟨rfl, r2, o2⟩; have b2 := b1.grown o2 (by simpa using hgb); obtain ⟨c0, c1, c2, c3, c4⟩ := r2.cell; obtain ⟨f0, f1, f2, f3, f4⟩ := r2.frozen)
          | (go_at_call 33; (with_reducible refine (peek_p _ g s st1 r2 hs).mono ?_); rintro e w3 ⟨rfl, n, rfl⟩; have r3 := ((r2.drewN n).setPos (st1.pos + 1)))
          | (go_at_call 63; refine (HM3.out _ r3).mono ?_; rintro e w4 ⟨rfl, r4, o4⟩; obtain ⟨k0, k1, k2, k3, k4⟩ := r4.cell)
          | (go_at_call 64; (with_reducible refine (rrange_p lo hi _ (by omega) (by omega) (by omega) (by omega)).mono ?_); rintro e w6 ⟨rfl, hb6⟩; unfold setV; have b3 : Box4 ((w2.drewN n).setCell ⟨g, 1, none⟩ (.int .i64 ((st1.pos + 1 : Nat) : Int))) w.heap.size noneP := b2.far hgb _; have b6 := (b3.grown o4 (by simpa using hgb)).stays hb6; have r6 := r4.stays hb6; obtain ⟨l0, l1, l2, l3⟩ := b6.cell; obtain ⟨m0, m1, m2, m3⟩ := b6.frozen))
        refine bodyPost_ret (v := setV (rangeP lo hi)) ?_ rfl ⟨by rw [HE.out], ?_, ?_⟩
        · unfold setV
          simp [results, Tryd.results58, go_sem, l0, l1, l2, l3]
        · rw [HE.out]; exact r6.far4 (Ne.symm hgb) _ _ _ _
        · exact only_setNew (only_setNew (only_setNew (only_setNew (only_below (only_trans (only_set (only_drewN (only_trans hO1 o2) n) _) o4) hb6) (Nat.le_refl _) _) (Nat.le_refl _) _) (Nat.le_refl _) _) (Nat.le_refl _) _
    · have hE := HE.out
      rw [if_neg hp] at hE
      clear HE
      have HE := Lib.hid hE
      clear hE
      have hp' : (st1.peek s == 45) = false := by simp [hp]
      clear hp
      go_wp2_with (first
          | (go_at_call 63; (with_reducible refine (HM.out).mono ?_); rintro e w2 ⟨rfl, r2, o2⟩; have b2 := b1.grown o2 (by simpa using hgb))
          | (go_at_call 33; (with_reducible refine (peek_p _ g s st1 r2 hs).mono ?_); rintro e w3 ⟨rfl, n, rfl⟩)
          | (go_at_call 64; (with_reducible refine (rrange_p lo lo _ (by omega) (by omega) (by omega) (by omega)).mono ?_); rintro e w4 ⟨rfl, hb4⟩; unfold setV; have b4 := (show Box4 (w2.drewN n) w.heap.size noneP from b2).stays hb4; have r4 := (r2.drewN n).stays hb4; obtain ⟨l0, l1, l2, l3⟩ := b4.cell; obtain ⟨m0, m1, m2, m3⟩ := b4.frozen))
      refine bodyPost_ret (v := setV (rangeP lo lo)) ?_ rfl ⟨by rw [HE.out], ?_, ?_⟩
      · unfold setV
        simp [results, Tryd.results58, go_sem, l0, l1, l2, l3]
      · rw [HE.out]; exact r4.far4 (Ne.symm hgb) _ _ _ _
      · exact only_setNew (only_setNew (only_setNew (only_setNew (only_below (only_drewN (only_trans hO1 o2) n) hb4) (Nat.le_refl _) _) (Nat.le_refl _) _) (Nat.le_refl _) _) (Nat.le_refl _) _

theorem item_p (w : World) (g : Nat) (s : ByteArray) (st : St) (h : Rdr w g s st) (hs : s.size ≤ 1000) (hpos : st.pos ≤ s.size) :
    Calls Tryd.prog 58 #[.pointer (some ⟨g, 0, none⟩)] w fun e w' => e = .returned (setV (st.item s).1) ∧ Rdr w' g s (st.item s).2 ∧ w.grownBy w' (some g) := by
  cases hw : st.wideHere s
  · exact item_rest w g s st h hs hpos hw
  · have e : st.item s = (wideP (bt s (st.pos + 1) : Int), st.step 2) := by unfold St.item; rw [if_pos hw]
    rw [e]
    exact item_wide w g s st h hs hw

end Go.Proofs.YtammicfijnffaaaDoor

/-
  The document's own reader of patterns: its small steps, held against the plain grammar. No program; no statement of its own.
-/
namespace Go.Proofs.YtammicfijnffaaaDoor
open Go

/-- What the reader has done is what the grammar says: what is read, where it ends; or what is amiss, where. What was amiss before stays. -/
def Rel {α : Type} (s : ByteArray) (o : R α) (st : St) (a : α) (st' : St) : Prop :=
  st'.opn = st.opn ∧ st'.pos ≤ s.size ∧ (st.bad ≠ 0 → st'.bad = st.bad ∧ st'.spot = st.spot) ∧
  (st.bad = 0 → match o with
    | .ok (x, p) => a = x ∧ st'.pos = p ∧ st'.bad = 0
    | .error (c, q) => c ≠ 0 ∧ st'.bad = c ∧ st'.spot = q)

section
variable (s : ByteArray) (st : St)
theorem fail_keep (h : st.bad ≠ 0) (a b : Int) : st.fail a b = st := by unfold St.fail; rw [if_neg h]
theorem fail_new (h : st.bad = 0) (a b : Int) : st.fail a b = { st with bad := b, spot := a } := by unfold St.fail; rw [if_pos h]
theorem peek_ok (h : st.bad = 0) (hp : st.pos < s.size) : st.peek s = (bt s st.pos : Int) := by unfold St.peek; rw [if_neg (by omega)]
theorem peek_end (h : st.bad = 0) (hp : s.size ≤ st.pos) : st.peek s = -1 := by unfold St.peek; rw [if_pos (by omega)]
theorem peek_bad (h : st.bad ≠ 0) : st.peek s = -1 := by unfold St.peek; rw [if_pos (by omega)]
theorem next_ok (h : st.bad = 0) (hp : st.pos < s.size) : st.next s = ((bt s st.pos : Int), st.step 1) := by
  unfold St.next; rw [peek_ok s st h hp, if_neg (by omega)]
theorem next_end (h : st.bad = 0) (hp : s.size ≤ st.pos) : st.next s = (-1, { st with bad := 2, spot := s.size }) := by
  unfold St.next; rw [peek_end s st h hp, if_pos (by omega), fail_new _ h]
theorem next_bad (h : st.bad ≠ 0) : st.next s = (-1, st) := by
  unfold St.next; rw [peek_bad s st h, if_pos (by omega), fail_keep _ h]
theorem inT_neg (t : ByteArray) : inT (-1) t = false := by
  cases h : inT (-1) t
  · rfl
  · have := inT_nonneg _ _ h; omega

/-- Whether the next byte is that one. -/
theorem peek_isB (h : st.bad = 0) (c : Nat) : (st.peek s = (c : Int)) ↔ isB s st.pos c = true := by
  unfold isB
  by_cases hp : st.pos < s.size
  · rw [peek_ok s st h hp]; simp [hp]; omega
  · rw [peek_end s st h (by omega)]; simp [hp]

theorem escaped_bad (h : st.bad ≠ 0) : st.escaped s = (0, st) := by
  unfold St.escaped
  simp only [next_bad s st h, inT_neg, fail_keep st h]
  simp
theorem escaped_rel (hpos : st.pos ≤ s.size) : Rel s (cEsc s st.pos) st (st.escaped s).1 (st.escaped s).2 := by
  by_cases hb : st.bad = 0
  · refine ⟨?_, (escaped_pos s st hpos).1, fun h => absurd hb h, fun _ => ?_⟩
    · unfold St.escaped St.next
      simp only
      have e : ∀ (x : St) a b, (x.fail a b).opn = x.opn := fun x a b => by unfold St.fail; split <;> rfl
      repeat' split
      all_goals simp [e, St.step]
    · by_cases hp : st.pos < s.size
      · unfold St.escaped cEsc quotT
        simp only [next_ok s st hb hp, hp, if_true]
        have e1 : ((bt s st.pos : Int) = 110) ↔ bt s st.pos = 110 := by omega
        have e2 : ((bt s st.pos : Int) = 116) ↔ bt s st.pos = 116 := by omega
        simp only [e1, e2]
        by_cases h1 : bt s st.pos = 110
        · simp only [h1, if_true]; exact ⟨trivial, rfl, hb⟩
        · simp only [h1, if_false]
          by_cases h2 : bt s st.pos = 116
          · simp only [h2, if_true]; exact ⟨trivial, rfl, hb⟩
          · simp only [h2, if_false]
            by_cases h3 : inT (bt s st.pos : Int) ⟨#[92, 46, 91, 93, 40, 41, 123, 125, 124, 63, 42, 43, 94, 36, 45, 47]⟩ = true
            · simp only [h3, if_true]; exact ⟨trivial, rfl, hb⟩
            · simp only [h3]
              rw [if_neg (by simp), if_neg (by simp), fail_new _ (by exact hb)]
              exact ⟨by simp, rfl, by simp [St.step]⟩
      · unfold St.escaped cEsc
        simp only [next_end s st hb (by omega), inT_neg, hp, if_false]
        simp [St.fail]
        omega
  · rw [escaped_bad s st hb]
    exact ⟨rfl, hpos, fun _ => ⟨rfl, rfl⟩, fun h => absurd h hb⟩
theorem member_bad (h : st.bad ≠ 0) : st.member s = (0, st) := by
  unfold St.member
  simp [next_bad s st h]
  omega
theorem member_rel (hpos : st.pos ≤ s.size) : Rel s (cMem s st.pos) st (st.member s).1 (st.member s).2 := by
  by_cases hb : st.bad = 0
  · by_cases hp : st.pos < s.size
    · have e1 : ((bt s st.pos : Int) = 93) ↔ bt s st.pos = 93 := by omega
      have e2 : ((bt s st.pos : Int) = 92) ↔ bt s st.pos = 92 := by omega
      unfold St.member cMem
      simp only [next_ok s st hb hp, hp, if_true, e1, e2]
      by_cases h3 : bt s st.pos = 93
      · simp only [h3, if_true]
        rw [fail_new _ (by exact hb)]
        refine ⟨rfl, by simp [St.step]; omega, fun h => absurd hb h, fun _ => ⟨by simp, rfl, by simp [St.step]⟩⟩
      · simp only [h3, if_false]
        by_cases h2 : bt s st.pos = 92
        · simp only [h2, if_true]
          have := escaped_rel s (st.step 1) (show st.pos + 1 ≤ s.size by omega)
          exact this
        · simp only [h2, if_false]
          refine ⟨rfl, by simp [St.step]; omega, fun h => absurd hb h, fun _ => ⟨by omega, rfl, hb⟩⟩
    · unfold St.member cMem
      simp only [next_end s st hb (by omega), hp, if_false]
      refine ⟨rfl, hpos, fun h => absurd hb h, fun _ => ?_⟩
      simp
      omega
  · rw [member_bad s st hb]
    exact ⟨rfl, hpos, fun _ => ⟨rfl, rfl⟩, fun h => absurd h hb⟩
theorem number_bad (h : st.bad ≠ 0) : st.number s = (0, st) := by
  unfold St.number
  simp [next_bad s st h, fail_keep st h]
theorem number_rel (hpos : st.pos ≤ s.size) : Rel s (cNum s st.pos) st (st.number s).1 (st.number s).2 := by
  by_cases hb : st.bad = 0
  · by_cases hp : st.pos < s.size
    · unfold St.number cNum
      simp only [next_ok s st hb hp]
      by_cases hd : isD s st.pos = true
      · have hd' := hd
        simp [isD] at hd'
        have hx : ¬ ((bt s st.pos : Int) < 48 ∨ 57 < (bt s st.pos : Int)) := by omega
        rw [if_pos hd]
        simp only [hx, if_false]
        by_cases hd2 : isD s (st.pos + 1) = true
        · have hd3 := hd2
          simp [isD] at hd3
          rw [peek_ok s (st.step 1) hb (by simp [St.step]; omega), if_pos hd2]
          have hy : (48 ≤ (bt s (st.step 1).pos : Int) ∧ (bt s (st.step 1).pos : Int) ≤ 57) := by simp only [St.step]; omega
          rw [if_pos hy]
          refine ⟨rfl, by simp [St.step]; omega, fun h => absurd hb h, fun _ => ⟨by simp only [St.step]; omega, rfl, hb⟩⟩
        · have hd3 : ¬ (48 ≤ (st.step 1).peek s ∧ (st.step 1).peek s ≤ 57) := by
            by_cases hp2 : st.pos + 1 < s.size
            · rw [peek_ok s (st.step 1) hb (by simpa [St.step] using hp2)]
              simp [isD, hp2] at hd2
              simp only [St.step]
              omega
            · rw [peek_end s (st.step 1) hb (by simp [St.step]; omega)]
              omega
          rw [if_neg hd2, if_neg hd3]
          refine ⟨rfl, by simp [St.step]; omega, fun h => absurd hb h, fun _ => ⟨rfl, rfl, hb⟩⟩
      · have hd' := hd
        simp [isD, hp] at hd'
        have hx : (bt s st.pos : Int) < 48 ∨ 57 < (bt s st.pos : Int) := by omega
        rw [if_neg hd, if_pos hx, fail_new _ (by exact hb)]
        refine ⟨rfl, by simp [St.step]; omega, fun h => absurd hb h, fun _ => ⟨by simp, rfl, by simp [St.step]⟩⟩
    · unfold St.number cNum
      simp only [next_end s st hb (by omega)]
      have hd : ¬ isD s st.pos = true := by simp [isD, hp]
      rw [if_neg hd, if_pos (by omega)]
      refine ⟨rfl, hpos, fun h => absurd hb h, fun _ => ?_⟩
      simp [St.fail]
      omega
  · rw [number_bad s st hb]
    exact ⟨rfl, hpos, fun _ => ⟨rfl, rfl⟩, fun h => absurd h hb⟩

theorem wide_eq (hb : st.bad = 0) : st.wideHere s = cWide s st.pos := by
  unfold St.wideHere cWide
  congr 1
  congr 1
  rw [Bool.eq_iff_iff, ← peek_isB s st hb 92]
  simp
theorem item_bad (h : st.bad ≠ 0) : st.item s = (rangeP 0 0, st) := by
  unfold St.item St.wideHere
  simp [peek_bad s st h, member_bad s st h]
theorem item_rel (hpos : st.pos ≤ s.size) : Rel s (cItem s st.pos) st (st.item s).1 (st.item s).2 := by
  by_cases hb : st.bad = 0
  · unfold St.item cItem
    rw [wide_eq s st hb]
    by_cases hw : cWide s st.pos = true
    · rw [if_pos hw, if_pos hw]
      simp [cWide] at hw
      exact ⟨rfl, by simp [St.step]; omega, fun h => absurd hb h, fun _ => ⟨rfl, rfl, hb⟩⟩
    · rw [if_neg hw, if_neg hw]
      have hm := member_rel s st hpos
      have hbd := member_bd s st
      revert hm hbd
      generalize (st.member s).1 = lo
      generalize (st.member s).2 = st1
      generalize cMem s st.pos = o
      rintro ⟨m1, m2, m3, m4⟩ hbd
      replace m4 := m4 hb
      match o, m4 with
      | .error (c, q), m4 =>
        have hz : st1.bad ≠ 0 := by rw [m4.2.1]; exact m4.1
        simp only [thenR, peek_bad s st1 hz]
        exact ⟨m1, m2, fun h => absurd hb h, fun _ => m4⟩
      | .ok (x, p), m4 =>
        obtain ⟨rfl, rfl, hz⟩ := m4
        simp only [thenR]
        by_cases h45 : isB s st1.pos 45 = true
        · have hp := (peek_isB s st1 hz 45).2 h45
          have hlt := isB_lt h45
          rw [if_pos h45, if_pos (show st1.peek s = 45 from hp)]
          have hm := member_rel s (st1.step 1) (show st1.pos + 1 ≤ s.size by omega)
          revert hm
          rw [show (st1.step 1).pos = st1.pos + 1 from rfl]
          generalize ((st1.step 1).member s).1 = hi
          generalize ((st1.step 1).member s).2 = st3
          generalize cMem s (st1.pos + 1) = o
          rintro ⟨n1, n2, n3, n4⟩
          replace n4 := n4 hz
          match o, n4 with
          | .error (c, q), n4 =>
            have hz3 : st3.bad ≠ 0 := by rw [n4.2.1]; exact n4.1
            simp only [fail_keep st3 hz3, ite_self]
            exact ⟨n1.trans m1, n2, fun h => absurd hb h, fun _ => n4⟩
          | .ok (y, p), n4 =>
            obtain ⟨rfl, rfl, hz3⟩ := n4
            by_cases hlo : hi < lo
            · simp only [hlo, if_true]
              rw [fail_new _ hz3]
              exact ⟨n1.trans m1, n2, fun h => absurd hb h, fun _ => ⟨by simp, rfl, rfl⟩⟩
            · simp only [hlo, if_false]
              exact ⟨n1.trans m1, n2, fun h => absurd hb h, fun _ => ⟨rfl, rfl, hz3⟩⟩
        · have hp : ¬ (st1.peek s = 45) := fun h => h45 ((peek_isB s st1 hz 45).1 (by simpa using h))
          rw [if_neg h45, if_neg hp]
          exact ⟨m1, m2, fun h => absurd hb h, fun _ => ⟨rfl, rfl, hz⟩⟩
  · rw [item_bad s st hb]
    exact ⟨rfl, hpos, fun _ => ⟨rfl, rfl⟩, fun h => absurd h hb⟩
end
end Go.Proofs.YtammicfijnffaaaDoor

/-
  A loop of the document's own reader, held against the grammar's loop: how far it is. No program; no statement of its own.
-/
namespace Go.Proofs.YtammicfijnffaaaDoor
open Go

/-- m rounds at most are to come; what is told in the end is what the rest of the loop tells. -/
def Going {α : Type} (s : ByteArray) (o : R α) (step : α → Nat → Option (R α)) (st : St) (m : Nat) (a : α) (st2 : St) : Prop :=
  st2.opn = st.opn ∧ st2.pos ≤ s.size ∧
  ((st2.bad = 0 ∧ st.bad = 0 ∧ o = loopR step m a st2.pos ∧ s.size + 1 - st2.pos ≤ m) ∨
   (st2.bad ≠ 0 ∧ m = 0 ∧ (st.bad ≠ 0 → st2.bad = st.bad ∧ st2.spot = st.spot) ∧ (st.bad = 0 → o = .error (st2.bad, st2.spot))))

section
variable {α β : Type} {s : ByteArray} {o : R α} {step : α → Nat → Option (R α)} {st st2 st3 : St} {m : Nat} {a a' : α} {r : R α}
theorem Rel.opn {b : β} {r : R β} (h : Rel s r st b st2) : st2.opn = st.opn := h.1
theorem Rel.pos {b : β} {r : R β} (h : Rel s r st b st2) : st2.pos ≤ s.size := h.2.1
theorem Rel.bad {b : β} {r : R β} (h : Rel s r st b st2) (hb : st.bad ≠ 0) : st2.bad ≠ 0 := by have := h.2.2.1 hb; omega
theorem Rel.cases {b : β} {r : R β} (h : Rel s r st b st2) (hb : st.bad = 0) : (st2.bad = 0 ∧ r = .ok (b, st2.pos)) ∨ (st2.bad ≠ 0 ∧ r = .error (st2.bad, st2.spot)) := by
  have h4 := h.2.2.2 hb
  match r, h4 with
  | .ok (x, p), h4 => obtain ⟨rfl, rfl, hz⟩ := h4; exact .inl ⟨hz, rfl⟩
  | .error (c, q), h4 => obtain ⟨hc, rfl, rfl⟩ := h4; exact .inr ⟨hc, rfl⟩
theorem Rel.mk0 {b : β} {r : R β} (h1 : st2.opn = st.opn) (h2 : st2.pos ≤ s.size) (h3 : st.bad ≠ 0 → st2.bad = st.bad ∧ st2.spot = st.spot) (h4 : st.bad = 0 → (st2.bad = 0 ∧ r = .ok (b, st2.pos)) ∨ (st2.bad ≠ 0 ∧ r = .error (st2.bad, st2.spot))) : Rel s r st b st2 := by
  refine ⟨h1, h2, h3, fun hb => ?_⟩
  rcases h4 hb with ⟨hz, rfl⟩ | ⟨hz, rfl⟩
  · exact ⟨rfl, rfl, hz⟩
  · exact ⟨hz, rfl, rfl⟩

/-- One thing behind the other. -/
theorem Rel.then {b : β} {r : R β} {f : β → Nat → R α} (h : Rel s r st b st2) (hz : st2.bad ≠ 0 → st3.bad = st2.bad ∧ st3.spot = st2.spot ∧ st3.opn = st2.opn ∧ st3.pos ≤ s.size) (hf : st.bad = 0 → st2.bad = 0 → Rel s (f b st2.pos) st2 a st3) : Rel s (thenR r f) st a st3 := by
  by_cases hb : st.bad = 0
  · rcases h.cases hb with ⟨h1, h2⟩ | ⟨h1, h2⟩
    · have := hf hb h1
      refine Rel.mk0 (this.opn.trans h.opn) this.pos (fun h => absurd hb h) fun _ => ?_
      rw [h2]
      exact this.cases h1
    · have := hz h1
      refine Rel.mk0 (this.2.2.1.trans h.opn) this.2.2.2 (fun h => absurd hb h) fun _ => ?_
      rw [h2]
      exact .inr ⟨by omega, by rw [this.1, this.2.1]; rfl⟩
  · have h1 := h.bad hb
    have := hz h1
    have h3 := h.2.2.1 hb
    exact Rel.mk0 (this.2.2.1.trans h.opn) this.2.2.2 (fun _ => ⟨by omega, by omega⟩) (fun h => absurd h hb)
theorem Going.start {b : β} {r : R β} {f : β → α} (h : Rel s r st b st2) : Going s (thenR r fun b p => loopR step (s.size + 1) (f b) p) step st (if st2.bad = 0 then s.size + 1 else 0) (f b) st2 := by
  refine ⟨h.opn, h.pos, ?_⟩
  by_cases hb : st.bad = 0
  · rcases h.cases hb with ⟨h1, h2⟩ | ⟨h1, h2⟩
    · left
      rw [if_pos h1, h2]
      exact ⟨h1, hb, rfl, by omega⟩
    · right
      rw [if_neg h1, h2]
      exact ⟨h1, rfl, fun h => absurd hb h, fun _ => rfl⟩
  · right
    rw [if_neg (h.bad hb)]
    exact ⟨h.bad hb, rfl, h.2.2.1, fun h => absurd h hb⟩
theorem Going.on (h : Going s o step st m a st2) (hb : st2.bad = 0) (hs : step a st2.pos = some r) (hr : Rel s r st2 a' st3) (hf : Fwd s st2.pos r) :
    (if st3.bad = 0 then m - 1 else 0) < m ∧ Going s o step st (if st3.bad = 0 then m - 1 else 0) a' st3 := by
  obtain ⟨h1, h2, ⟨_, h4, h5, h6⟩ | ⟨h3, _⟩⟩ := h
  · have hm : 0 < m := by omega
    obtain ⟨k, rfl⟩ : ∃ k, m = k + 1 := ⟨m - 1, by omega⟩
    unfold loopR at h5
    rw [hs] at h5
    refine ⟨by split <;> omega, hr.opn.trans h1, hr.pos, ?_⟩
    rcases hr.cases hb with ⟨h7, h8⟩ | ⟨h7, h8⟩
    · left
      rw [if_pos h7]
      rw [h8] at h5 hf
      have := hf.1
      exact ⟨h7, h4, h5, by omega⟩
    · right
      rw [if_neg h7]
      rw [h8] at h5
      exact ⟨h7, rfl, fun h => absurd h4 h, fun _ => h5⟩
  · exact absurd hb h3
theorem Going.stop (h : Going s o step st m a st2) (hs : st2.bad = 0 → step a st2.pos = none) : Rel s o st a st2 := by
  obtain ⟨h1, h2, ⟨h3, h4, h5, h6⟩ | ⟨h3, h4, h5, h6⟩⟩ := h
  · obtain ⟨k, rfl⟩ : ∃ k, m = k + 1 := ⟨m - 1, by omega⟩
    unfold loopR at h5
    rw [hs h3] at h5
    exact Rel.mk0 h1 h2 (fun h => absurd h4 h) fun _ => .inl ⟨h3, h5⟩
  · exact Rel.mk0 h1 h2 h5 fun h => .inr ⟨h3, h6 h⟩
theorem Rel.swap {b : β} {r r' : R β} (h : Rel s r st b st2) (he : st.bad = 0 → r = r') : Rel s r' st b st2 :=
  ⟨h.1, h.2.1, h.2.2.1, fun hb => by rw [← he hb]; exact h.2.2.2 hb⟩
theorem Rel.from {b : β} {r : R β} (h : Rel s r st3 b st2) (h1 : st3.opn = st.opn) (h2 : st3.bad = st.bad) (h3 : st3.spot = st.spot) : Rel s r st b st2 :=
  ⟨h.1.trans h1, h.2.1, fun hb => by have := h.2.2.1 (by rw [h2]; exact hb); rw [← h2, ← h3]; exact this, fun hb => h.2.2.2 (by rw [h2]; exact hb)⟩
theorem Going.opn (h : Going s o step st m a st2) : st2.opn = st.opn := h.1
theorem Going.pos (h : Going s o step st m a st2) : st2.pos ≤ s.size := h.2.1
theorem Going.bad0 (h : Going s o step st m a st2) (hb : st2.bad = 0) : st.bad = 0 := by
  obtain ⟨h1, h2, ⟨h3, h4, h5, h6⟩ | ⟨h3, h4, h5, h6⟩⟩ := h
  · exact h4
  · exact absurd hb h3
end

end Go.Proofs.YtammicfijnffaaaDoor
