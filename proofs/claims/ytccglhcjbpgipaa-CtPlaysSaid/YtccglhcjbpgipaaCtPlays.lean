/-
  The statement CtPlays of layer 10: the walk. Contracts for other texts; no statement of its own.
-/
import Derived.Test.YtccglhcjbpgipaaCtRd
import Derived.Test.YtccglhcjbpgipaaCtRefDo
import Derived.Deep.RegionHeld3
set_option linter.unusedVariables false
set_option linter.unusedSimpArgs false
namespace Go.Proofs.Ytccglhcjbpgipaa
open Go Go.RowKit

/-- Both machines, side by side. -/
structure Both (w0 w : World) (F G : Nat → Prop) (p q m : Nat) (f : Int → Int) (tr : List Ins) (tr' : List Ins) : Prop where
  mach : Mach w F p m f tr
  doc : Doc w G q m f tr'
  off : ∀ b, F b → ¬ G b
  nf : ∀ b, F b → w0.heap.size ≤ b
  ng : ∀ b, G b → w0.heap.size ≤ b
  bel : Below w0.heap.size w0 w
theorem Doc.lt {w : World} {F : Nat → Prop} {p m : Nat} {f : Int → Int} {tr : List Ins} (h : Doc w F p m f tr) : ∀ b, F b → b < w.heap.size := by
  obtain ⟨mb, lv, D, h1⟩ := h
  exact h1.fl
theorem Doc.keep {w w' : World} {F Q : Nat → Prop} {p m : Nat} {f : Int → Int} {tr : List Ins} (h : Doc w F p m f tr) (hk : Kept Q w w') (hq : ∀ b, F b → ¬ Q b) : Doc w' F p m f tr := by
  obtain ⟨mb, lv, D, h1⟩ := h
  exact ⟨mb, lv, D, h1.keep hk.size fun b e => hk.block b (h1.fl b e) (hq b e)⟩
section
variable {w0 w w' : World} {F F' G G' : Nat → Prop} {p q m : Nat} {f f' : Int → Int} {tr tr' tu tu' : List Ins}
/-- The second machine has done something. -/
theorem Both.two (h : Both w0 w F G p q m f tr tu) (hm : Doc w' G' q m f tu') (hk : Kept G w w') (hn : ∀ b, G' b → G b ∨ w.heap.size ≤ b) : Both w0 w' F G' p q m f tr tu' :=
  ⟨h.mach.kept hk fun b e e' => h.off b e e', hm, fun b e e' => (hn b e').elim (fun x => h.off b e x) (fun x => by have := h.mach.lt b e; omega), h.nf, fun b e => (hn b e).elim (h.ng b) fun e' => Nat.le_trans h.bel.size e', h.bel.trans (hk.below h.bel.size h.ng)⟩
/-- Both have done the same. -/
theorem Both.both (h : Both w0 w F G p q m f tr tu) {w'' : World} (hm : Mach w' F' p m f' tr') (hk : Kept F w w') (hn : ∀ b, F' b → F b ∨ w.heap.size ≤ b) (hd : Doc w'' G' q m f' tu') (hk' : Kept G w' w'') (hn' : ∀ b, G' b → G b ∨ w'.heap.size ≤ b) : Both w0 w'' F' G' p q m f' tr' tu' := by
  have hB : Below w0.heap.size w0 w' := h.bel.trans (hk.below h.bel.size h.nf)
  have hoff : ∀ b, F' b → ¬ G b := fun b e e' => (hn b e).elim (fun x => h.off b x e') (fun x => by have := h.doc.lt b e'; omega)
  exact ⟨hm.kept hk' fun b e e' => hoff b e e', hd, fun b e e' => (hn' b e').elim (fun x => hoff b e x) (fun x => by have := hm.lt b e; omega), fun b e => (hn b e).elim (h.nf b) fun e' => Nat.le_trans h.bel.size e', fun b e => (hn' b e).elim (h.ng b) fun e' => Nat.le_trans hB.size e', hB.trans (hk'.below hB.size h.ng)⟩
/-- The first machine has done something. -/
theorem Both.one (h : Both w0 w F G p q m f tr tu) (hm : Mach w' F' p m f tr') (hk : Kept F w w') (hn : ∀ b, F' b → F b ∨ w.heap.size ≤ b) : Both w0 w' F' G p q m f tr' tu :=
  ⟨hm, h.doc.keep hk fun b e e' => h.off b e' e, fun b e e' => (hn b e).elim (fun x => h.off b x e') (fun x => by have := h.doc.lt b e'; omega), fun b e => (hn b e).elim (h.nf b) fun e' => Nat.le_trans h.bel.size e', h.ng, h.bel.trans (hk.below h.bel.size h.nf)⟩
theorem Both.stays (h : Both w0 w F G p q m f tr tu) (hb : Below w.heap.size w w') : Both w0 w' F G p q m f tr tu :=
  ⟨h.mach.stays hb, h.doc.keep (Kept.of_below (fun _ => False) hb) fun b e e' => e', h.off, h.nf, h.ng, h.bel.trans (hb.mono h.bel.size)⟩
/-- What Emit tells. -/
theorem emit_p {w : World} {F : Nat → Prop} {p m : Nat} {f : Int → Int} {tr : List Ins} (h : Mach w F p m f tr) (c : Nat) (hc : c < m) (hm : m ≤ 200000) (hlen : tr.length ≤ 99999) :
    Calls Try.prog 26 #[.pointer (some ⟨p, 0, none⟩), .agg #[.int .i64 11, .int .i64 0, .int .i64 (c : Int), .int .i64 0, .int .i64 0, .int .u64 0]] w fun e w' => e = .returned (.tuple #[.int .u64 (f c), .nilIface]) ∧ ∃ F' tr', Mach w' F' p m f tr' ∧ tr'.length = tr.length + 1 ∧ Kept F w w' ∧ (∀ b, F' b → F b ∨ w.heap.size ≤ b) := by
  have hmay : may ⟨11, 0, (c : Int), 0, 0, 0⟩ m = true := by simp [may, there]; omega
  refine (do_p h ⟨11, 0, (c : Int), 0, 0, 0⟩ (fits_of ⟨i64_of (by decide), i64_of (by decide), i64_of ⟨by omega, by omega⟩, i64_of (by decide), i64_of (by decide), u64_of (by decide)⟩) hm hlen).mono fun e w' ⟨h1, F', h2, h3, h4⟩ => ?_
  unfold toldM errM at h1
  unfold nextM nextT at h2
  rw [hmay] at h1 h2
  simp only [if_true, nextF, told] at h1 h2
  exact ⟨h1, F', _, h2, by simp, h3, h4⟩
end

set_option maxRecDepth 20000 in
set_option maxHeartbeats 4000000 in
theorem ctplays_p {w : World} {A B : Option Addr} {ca cb : Nat} {l : List Ins} {zs : List Int} (cells : Int) (hcells : I64 cells) (hl : RdI w A l) (hfit : ∀ (i : Nat) (x : Ins), l[i]? = some x → x.fits) (has : RdZ .i64 w B zs) (hab : ∀ k, k < zs.length → I64 (zs.getD k 0)) (hlc : l.length ≤ 9223372036854775807) (hac : zs.length ≤ 9223372036854775807) :
    Calls Try.prog 6 #[.int .i64 cells, .slice A l.length ca, .slice B zs.length cb] w fun e w' => e = .returned (.bool true) ∧ Below w.heap.size w w' := by
  have HU := Lib.hid (up10_p w)
  have hc1 := hcells.1
  have hc2 := hcells.2
  have hnew := fun W => new_p W cells hcells
  unfold RetNew at hnew
  obtain ⟨N, hN⟩ : ∃ N, l.length = N := ⟨_, rfl⟩
  obtain ⟨M, hM⟩ : ∃ M, zs.length = M := ⟨_, rfl⟩
  rw [hN] at hlc
  rw [hM] at hac hab
  rw [hN, hM]
  have HN := Lib.hid hN
  have HM := Lib.hid hM
  have HL := Lib.hid hl
  have HF := Lib.hid hfit
  have HA := Lib.hid has
  have HAB := Lib.hid hab
  clear hN hM hl hfit has hab hcells
  by_cases b1 : cells < 1
  · simp only [show ¬ (1 ≤ cells ∧ cells ≤ 200000) from by omega, if_false] at hnew
    have HNO := Lib.hid hnew
    clear hnew
    go_enter Try.func6, Try.ntmps6
    go_wp2_with (first
      | (go_at_call 23; (with_reducible refine HU.out.mono ?_); rintro e w1 ⟨rfl, hb1⟩; have HB1 := Lib.hid hb1; clear hb1)
      | (go_at_call 24; (with_reducible refine (HNO.out _).mono ?_); rintro e w2 ⟨rfl, b2⟩; have HB2 := Lib.hid (gro HB1.out b2); clear b2)
      | fail)
    go_ret
    exact ⟨rfl, HB2.out⟩
  by_cases b2 : (200000 : Int) < cells
  · simp only [show ¬ (1 ≤ cells ∧ cells ≤ 200000) from by omega, if_false] at hnew
    have HNO := Lib.hid hnew
    clear hnew
    go_enter Try.func6, Try.ntmps6
    go_wp2_with (first
      | (go_at_call 23; (with_reducible refine HU.out.mono ?_); rintro e w1 ⟨rfl, hb1⟩; have HB1 := Lib.hid hb1; clear hb1)
      | (go_at_call 24; (with_reducible refine (HNO.out _).mono ?_); rintro e w2 ⟨rfl, b2⟩; have HB2 := Lib.hid (gro HB1.out b2); clear b2)
      | fail)
    go_ret
    exact ⟨rfl, HB2.out⟩
  simp only [show (1 ≤ cells ∧ cells ≤ 200000) from ⟨by omega, by omega⟩, and_self, if_true] at hnew
  have HNW := Lib.hid hnew
  clear hnew
  by_cases b3 : (300 : Int) < (N : Int)
  · go_enter Try.func6, Try.ntmps6
    go_wp2_with (first
      | (go_at_call 23; (with_reducible refine HU.out.mono ?_); rintro e w1 ⟨rfl, hb1⟩; have HB1 := Lib.hid hb1; clear hb1)
      | (go_at_call 24; (with_reducible refine (HNW.out _).mono ?_); rintro e w2 ⟨p, F, rfl, _, b2, _⟩; have HB2 := Lib.hid (gro HB1.out b2); clear b2)
      | fail)
    go_ret
    exact ⟨rfl, HB2.out⟩
  by_cases b4 : (50 : Int) < (M : Int)
  · go_enter Try.func6, Try.ntmps6
    go_wp2_with (first
      | (go_at_call 23; (with_reducible refine HU.out.mono ?_); rintro e w1 ⟨rfl, hb1⟩; have HB1 := Lib.hid hb1; clear hb1)
      | (go_at_call 24; (with_reducible refine (HNW.out _).mono ?_); rintro e w2 ⟨p, F, rfl, _, b2, _⟩; have HB2 := Lib.hid (gro HB1.out b2); clear b2)
      | fail)
    go_ret
    exact ⟨rfl, HB2.out⟩
  obtain ⟨m, rfl⟩ : ∃ m : Nat, cells = (m : Int) := ⟨cells.toNat, by omega⟩
  rw [Int.toNat_natCast] at HNW
  have hm : m ≤ 200000 := by omega
  have HDN := Lib.hid (fun W => dnew_p W m hm)
  go_enter Try.func6, Try.ntmps6
  go_wp2_with (first
    | (go_at_call 23; (with_reducible refine HU.out.mono ?_); rintro e w1 ⟨rfl, hb1⟩; have HB1 := Lib.hid hb1; clear hb1)
    | (go_at_call 24; (with_reducible refine (HNW.out _).mono ?_); rintro e w2 ⟨p, F, rfl, m2, b2', n2⟩; have M2 := Lib.hid m2; have HB2 := Lib.hid (gro HB1.out b2'); have N2 := Lib.hid n2; clear m2 b2' n2)
    | (go_at_call 25; (with_reducible refine (HDN.out _).mono ?_); rintro e w3 ⟨q, G, rfl, d3, b3', n3⟩; have D3 := Lib.hid d3; have B3 := Lib.hid b3'; have N3 := Lib.hid n3; clear d3 b3' n3)
    | fail)
  have hb0 : Both w w3 F G p q m (fun _ => 0) [] [] := by
    have b23 := B3.out
    have hs := HB2.out.size
    have hs1 := HB1.out.size
    refine ⟨M2.out.stays b23, D3.out, fun b e e' => ?_, fun b e => Nat.le_trans hs1 (N2.out b e), fun b e => Nat.le_trans hs (N3.out b e), gro HB2.out b23⟩
    have h1 := M2.out.lt b e
    have h2 := N3.out b e'
    omega
  have HB0 := Lib.hid hb0
  clear hb0
  go_loopg [10] N (fun mm i wr => ∃ (k : Nat) (F G : Nat → Prop) (f : Int → Int) (tr : List Ins), i = .int .i64 (k : Int) ∧ k ≤ N ∧ mm = N - k ∧ Both w wr F G p q m f tr tr ∧ tr.length ≤ k)
  case atStart => exact ⟨0, _, _, _, _, by first | rfl | trivial, Nat.zero_le _, by first | rfl | trivial, HB0.out, Nat.le_refl _⟩
  case round =>
    obtain ⟨k, F, G, f, tr, rfl, hk, hmk, hbo, htl⟩ := hrel
    have HMK := Lib.hid hmk
    have HBO := Lib.hid hbo
    have HTL := Lib.hid htl
    clear hmk htl
    by_cases hkN : k < N
    · obtain ⟨x, hx⟩ : ∃ x, l[k]? = some x := ⟨_, List.getElem?_eq_getElem (by rw [HN.out]; omega)⟩
      have hfx := HF.out k x hx
      obtain ⟨g, off, rfl, hg, z0, z1, z2, z3, z4, z5⟩ := (HL.out.stays hbo.bel).at hx
      have hdo := do_p hbo.mach x hfx hm (by have := HTL.out; omega)
      have hdd := fun (W : World) (hW : Kept F wr W) => ddo_p (hbo.doc.keep hW fun b e e' => hbo.off b e' e) x hfx hm (by have := HTL.out; omega)
      have hco := fun W => code_p W (may x m)
      have hlx := HL.out
      have HAT := Lib.hid (fun (W : World) (hW : Below w.heap.size w W) => (hlx.stays hW).at hx)
      unfold RetDo at hdo
      unfold RetDoc at hdd
      obtain ⟨tv, htv⟩ : ∃ tv, toldM x m f = tv := ⟨_, rfl⟩
      obtain ⟨ev, hev⟩ : ∃ ev, errM (may x m) = ev := ⟨_, rfl⟩
      obtain ⟨bv, hbv⟩ : ∃ bv : Int, (if may x m = true then (0 : Int) else 1) = bv := ⟨_, rfl⟩
      rw [htv, hev] at hdo
      rw [htv, hbv] at hdd
      rw [hev, hbv] at hco
      obtain ⟨f', hf'⟩ : ∃ f', nextM x m f = f' := ⟨_, rfl⟩
      obtain ⟨tr', htr'⟩ : ∃ tr', nextT x m tr = tr' := ⟨_, rfl⟩
      have hlen' : tr'.length ≤ k + 1 := by
        rw [← htr']
        unfold nextT
        have := HTL.out
        split
        · simp; omega
        · omega
      rw [hf', htr'] at hdo hdd
      unfold insV at hdo hdd
      obtain ⟨o, d, a, b, c', n⟩ := x
      simp only at hdo hdd z0 z1 z2 z3 z4 z5 HAT
      have HDO := Lib.hid hdo
      have HDD := Lib.hid hdd
      have HCO := Lib.hid hco
      have HLN := Lib.hid hlen'
      have i0 : (0 : Int) ≤ (k : Int) := by omega
      have i1 : (k : Int) < (N : Int) := by omega
      clear hx hfx hdo hdd hco htv hev hbv hf' htr' hlen' hbo hg hlx
      go_wp2_with (first
        | (go_at_call 26; (with_reducible refine HDO.out.mono ?_); rintro e w4 ⟨rfl, F', m4, k4, n4⟩; obtain ⟨g', off', e', _, y0, y1, y2, y3, y4, y5⟩ := HAT.out w4 (HBO.out.bel.trans (k4.below HBO.out.bel.size HBO.out.nf)); injection e' with e'; injection e' with e1 e2 e3; subst e1 e2; have M4 := Lib.hid m4; have K4 := Lib.hid k4; have N4 := Lib.hid n4; clear m4 k4 n4 e3)
        | (go_at_call 27; (with_reducible refine (HDD.out _ K4.out).mono ?_); rintro e w5 ⟨rfl, G', d5, k5, n5⟩; have HB5 := Lib.hid (HBO.out.both M4.out K4.out N4.out d5 k5 n5); clear d5 k5 n5)
        | (go_at_call 13; (with_reducible refine (HCO.out _).mono ?_); rintro e w6 ⟨rfl, rfl⟩)
        | fail)
      go_roundg (N - (k + 1))
      case measure => have := HMK.out; omega
      case rel => exact ⟨k + 1, _, _, _, _, by go_num, by omega, rfl, HB5.out, HLN.out⟩
    · have hkl : k = N := by omega
      subst hkl
      go_wp2
      obtain ⟨mb, lv, D, hd⟩ := id hbo.doc
      obtain ⟨Al, cl, rfl⟩ := own_formR hd.row
      have hgq := hd.fq
      have hfq : ¬ F q := fun e => hbo.off q e hgq
      have htk := fun (W : World) (hW : Below wr.heap.size wr W) => take_p (hbo.mach.stays hW) (by have := HTL.out; omega)
      have hsm := fun (W : World) (v : Value) (A4 : Option Addr) (c4 : Nat) (hW : Kept F wr W) (ho : W.ownsRow 0 71 6 (.slice A4 tr.length c4) tr.length (insL tr)) => same_p (c := c4) (c' := cl) (RdI.of_row ho rfl) (RdI.of_row (hd.keep hW.size fun b e => hW.block b (hd.fl b e) fun e' => hbo.off b e' e).row rfl) (by have := HTL.out; omega)
      have q2 : wr.cell? ⟨q, 2, none⟩ = some (.slice Al tr.length cl) := hd.c2
      obtain ⟨T, hT⟩ : ∃ T, tr.length = T := ⟨_, rfl⟩
      rw [hT] at q2 htk hsm
      have HTK := Lib.hid htk
      have HSM := Lib.hid hsm
      have HFQ := Lib.hid hfq
      have HTT := Lib.hid hT
      clear htk hsm hd hbo hgq hfq hT
      go_region_held3 (fun W => W.cell? ⟨q, 2, none⟩ = some (.slice Al T cl)) (repeat (first | with_reducible assumption | with_reducible refine cell_dr ?_ | with_reducible refine cell_stays ?_ B6.out)) (first
        | (go_at_call 29; (with_reducible refine (HTK.out _ (by repeat (first | with_reducible exact Below.refl _ _ | with_reducible refine Below.drew ?_))).mono ?_); rintro e w4 ⟨v4, rfl, o4, m4, k4⟩; obtain ⟨A4, c4, rfl⟩ := own_formR o4; have q4 := k4.cell (a := ⟨q, 2, none⟩) (cell_dr q2) HFQ.out; have K4 := Lib.hid ((Kept.of_below F (Below.refl wr.heap.size wr).drew).trans k4 fun b e => .inl e); have O4 := Lib.hid (own_lower o4 (Nat.zero_le _)); have M4 := Lib.hid m4; clear o4 m4 k4)
        | (go_at_call 28; (with_reducible refine (HSM.out _ (.nilIface) _ _ K4.out O4.out).mono ?_); rintro e w6 ⟨rfl, b6⟩; have B6 := Lib.hid b6; clear b6)
        | fail)
      have hb6 := (HBO.out.one M4.out K4.out fun b e => .inl e).stays B6.out
      have HB6 := Lib.hid hb6
      have htk2 := take_p hb6.mach (by simp)
      have HTK2 := Lib.hid htk2
      clear hb6 htk2 q2 q4 HTK HSM K4 O4 M4 B6
      go_wp2_with (first
        | (go_at_call 29; (with_reducible refine HTK2.out.mono ?_); rintro e w7 ⟨v7, rfl, o7, m7, k7⟩; obtain ⟨A7, c7, rfl⟩ := own_formR o7; have HB7 := Lib.hid (HB6.out.one m7 k7 fun b e => .inl e); clear o7 m7 k7)
        | fail)
      go_loopg [16] M (fun mm i wr => ∃ (j : Nat) (F : Nat → Prop) (tu : List Ins), i = .int .i64 (j : Int) ∧ j ≤ M ∧ mm = M - j ∧ Both w wr F G p q m f tu tr ∧ tu.length ≤ j)
      case atStart => exact ⟨0, _, _, by first | rfl | trivial, Nat.zero_le _, by first | rfl | trivial, HB7.out, Nat.le_refl _⟩
      case round =>
        obtain ⟨j, F, tu, rfl, hj, hmj, hbo, htl⟩ := hrel
        have HMJ := Lib.hid hmj
        have HBJ := Lib.hid hbo
        have HTJ := Lib.hid htl
        clear hmj htl
        by_cases hjM : j < M
        · obtain ⟨g, off, rfl, hg, za⟩ := (HA.out.stays hbo.bel) j (by rw [HM.out]; exact hjM)
          obtain ⟨a, ha⟩ : ∃ a, zs.getD j 0 = a := ⟨_, rfl⟩
          have hai := HAB.out j hjM
          rw [ha] at za hai
          have hpk := fun W => pick_p W a (m : Int) hai ⟨by omega, by omega⟩
          have hem := fun (c : Nat) (hc : c < m) => emit_p hbo.mach c hc hm (by have := HTJ.out; omega)
          obtain ⟨mb', lv', D', hd⟩ := id hbo.doc
          have hdk := fun (W : World) (hW : Kept F wr W) => hd.keep hW.size fun b e => hW.block b (hd.fl b e) fun e' => hbo.off b e' e
          have HPK := Lib.hid hpk
          have HEM := Lib.hid hem
          have HDK := Lib.hid hdk
          have i0 : (0 : Int) ≤ (j : Int) := by omega
          have i1 : (j : Int) < (M : Int) := by omega
          clear hpk hem hdk hd hbo ha hai hg
          go_wp2_with (first
            | (go_at_call 30; (with_reducible refine (HPK.out _).mono ?_); rintro e w8 ⟨c, rfl, hc, rfl⟩; have hc' : c < m := (by omega))
            | (go_at_call 26; (with_reducible refine (HEM.out c hc').mono ?_); rintro e w9 ⟨rfl, F9, tr9, m9, l9, k9, n9⟩; have d9 := HDK.out w9 k9; have y1 := d9.c1; have hlk := d9.look (a := (c : Int)) (i64_of ⟨by omega, by omega⟩); have HB9 := Lib.hid (HBJ.out.one m9 k9 n9); have HL9 := Lib.hid l9; clear m9 k9 n9 d9 l9)
            | fail)
          go_roundg (M - (j + 1))
          case measure => have := HMJ.out; omega
          case rel => exact ⟨j + 1, _, _, by go_num, by omega, rfl, HB9.out, by rw [HL9.out]; have := HTJ.out; omega⟩
        · have hjl : j = M := by omega
          subst hjl
          go_wp2
          go_ret
          exact ⟨rfl, hbo.bel⟩
end Go.Proofs.Ytccglhcjbpgipaa
