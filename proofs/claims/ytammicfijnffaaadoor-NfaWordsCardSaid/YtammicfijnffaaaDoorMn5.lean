/-
  Several texts of this proof in one file: NfaJoin, App2, NfaOneA. No statement of its own.
-/
import Derived.Test.YtammicfijnffaaaDoorMn4
import Derived.Deep.RegionLaw
import Derived.StillTailTactics
import Derived.Deep.LoopGhost
import Derived.Deep.CutRange
import Derived.Deep.DeepCutAuto
import Derived.Test.YtammicfijnffaaaDoorMn2
set_option linter.unusedVariables false
set_option linter.unusedSimpArgs false

/-
  nfa: one stretch behind another one. Contracts for other texts; no statement of its own.
-/
namespace Go.Proofs.YtammicfijnffaaaDoor
open Go Go.RowKit
attribute [local go_sem ↓] Go.wp_at_zero Go.wp_at_succ

/-- Two stretches beside each other. -/
structure TwoS (vx1 vx2 vy1 vy2 : Value) : Prop where
  a11 : ∀ b, vx1.ownBlock = some b → vy1.ownBlock ≠ some b
  a12 : ∀ b, vx1.ownBlock = some b → vy2.ownBlock ≠ some b
  a21 : ∀ b, vx2.ownBlock = some b → vy1.ownBlock ≠ some b
  a22 : ∀ b, vx2.ownBlock = some b → vy2.ownBlock ≠ some b
/-- What a call leaves that lays out, or joins: a layout and a stretch; blocks of Q and P may have changed. -/
def RetLay (w : World) (B gl C : Nat) (s : Lay) (x : Str) (Q P : Nat → Prop) (e : Ending) (w' : World) : Prop :=
  ∃ v1 v2 Q', e = .returned (.agg #[v1, v2, .bool x.empty]) ∧ LayAt w' B gl s Q' ∧ StrAt w' C v1 v2 x Q' ∧ Kept P w w' ∧ ∀ b, Q' b → Q b ∨ w.heap.size ≤ b

set_option maxRecDepth 20000 in
set_option maxHeartbeats 4000000 in
theorem join_p {w : World} {B gl C a b c : Nat} {s : Lay} {Q : Nat → Prop} {x y : Str} {vx1 vx2 vy1 vy2 : Value} (hlay : LayAt w B gl s Q) (hx : StrAt w C vx1 vx2 x Q) (hy : StrAt w C vy1 vy2 y Q)
    (hxy : TwoS vx1 vx2 vy1 vy2) (hB : B ≤ w.heap.size) (hC : C ≤ w.heap.size) (hl : LInv s) (n1 : Nice s a b x) (n2 : Nice s b c y) (hc : c ≤ s.sets.length) (h1000 : s.sets.length ≤ 1000) :
    Calls Tryd.prog 36 #[.pointer (some ⟨gl, 0, none⟩), .agg #[vx1, vx2, .bool x.empty], .agg #[vy1, vy2, .bool y.empty]] w
      (RetLay w B gl C (joinL s x y) (joinX x y) Q (fun b => Q b ∨ vx1.ownBlock = some b ∨ vx2.ownBlock = some b)) := by
  obtain ⟨A1, m1, c1, rfl⟩ := hx.first.form3
  obtain ⟨A3, m3, c3, rfl⟩ := hy.first.form3
  obtain ⟨A4', m4', c4', rfl⟩ := hy.last.form3
  have hbc : b ≤ c := by obtain ⟨R, g⟩ := n2; exact g.le
  have l1 := n1.len
  have l2 := n2.len
  have hxl : ∀ p ∈ x.last, p < s.follow.length := fun p hp => by
    obtain ⟨R, g1⟩ := n1
    obtain ⟨R2, g2⟩ := n2
    rw [hl.len]
    have := (g1.last p hp).2
    have := g2.le
    omega
  have hbd : ∀ (k : Nat) q, q ∈ x.last → ((linkAll s.follow (x.last.take k) y.first).getD q []).length ≤ 2000 := by
    intro k q hq
    obtain ⟨R, g1⟩ := n1
    have hb := g1.last q hq
    have hr := rise_len _ a b (g1.st q hb.1 hb.2) fun p hp => g1.stay q p hb.1 hb.2 hp
    have hnd : x.last.Nodup := g1.sl.imp fun h => Nat.ne_of_lt h
    rw [linkAll_get _ _ _ (fun p hp => hxl p (List.mem_of_mem_take hp)) (hnd.sublist (List.take_sublist _ _))]
    split
    · rw [List.length_append]; omega
    · omega
  have bX := ((BoxS.new w (.slice A1 m1 c1) vx2 x.empty).alloc (.cells #[(.slice A3 m3 c3), (.slice A4' m4' c4'), .bool y.empty] 55)).alloc (.cells #[.slice none 0 0, .slice none 0 0, .bool false] 55)
  have bY := (BoxS.new (w.alloc (.cells #[(.slice A1 m1 c1), vx2, .bool x.empty] 55)) (.slice A3 m3 c3) (.slice A4' m4' c4') y.empty).alloc (.cells #[.slice none 0 0, .slice none 0 0, .bool false] 55)
  have bR := BoxS.new ((w.alloc (.cells #[(.slice A1 m1 c1), vx2, .bool x.empty] 55)).alloc (.cells #[(.slice A3 m3 c3), (.slice A4' m4' c4'), .bool y.empty] 55)) (.slice none 0 0) (.slice none 0 0) false
  have hB0 : Below w.heap.size w (((w.alloc (.cells #[(.slice A1 m1 c1), vx2, .bool x.empty] 55)).alloc (.cells #[(.slice A3 m3 c3), (.slice A4' m4' c4'), .bool y.empty] 55)).alloc (.cells #[.slice none 0 0, .slice none 0 0, .bool false] 55)) :=
    (((Below.refl _ _).alloc (Nat.le_refl _) _).alloc (by simp) _).alloc (by simp; omega) _
  simp only [World.size_alloc] at bY bR
  obtain ⟨A2, c2, e2, -, -⟩ := hx.last.news
  rw [ns_len] at e2
  subst e2
  have hsz := hB0.size
  obtain ⟨L, hL⟩ : ∃ L, x.last.length = L := ⟨_, rfl⟩
  rw [hL] at bX bY bR hB0 hx hxy hsz ⊢
  obtain ⟨ex, hex⟩ : ∃ e, x.empty = e := ⟨_, rfl⟩
  obtain ⟨ey, hey⟩ : ∃ e, y.empty = e := ⟨_, rfl⟩
  rw [hex] at bX bY bR hB0 hsz ⊢
  rw [hey] at bX bY bR hB0 hsz ⊢
  have HLAY := Lib.hid (hlay.stays hB0)
  have HX := Lib.hid (hx.stays hB0)
  have HY := Lib.hid (hy.stays hB0)
  have HBX := Lib.hid bX
  have HBY := Lib.hid bY
  have HBR := Lib.hid bR
  have HB0 := Lib.hid hB0
  have HSZ := Lib.hid (And.intro hB (And.intro hC hsz))
  have HE := Lib.hid (And.intro hex hey)
  have HL := Lib.hid hL
  have HGE := Lib.hid hlay.ge
  have HXY := Lib.hid hxy
  have HXL := Lib.hid hxl
  have HBD := Lib.hid hbd
  have HLI := Lib.hid hl
  have H12 := Lib.hid (And.intro l1 l2)
  have HN := Lib.hid (And.intro n1 n2)
  have HC := Lib.hid hc
  have HBC := Lib.hid hbc
  have H1000 := Lib.hid h1000
  clear hlay hx hy bX bY bR hB0 hB hC hex hey hL hxy hxl hbd hl l1 l2 n1 n2 hc hbc h1000 hsz
  go_enter Tryd.func36, Tryd.ntmps36
  go_wp2
  generalize hw3 : (((w.alloc (.cells #[(.slice A1 m1 c1), .slice A2 L c2, .bool ex] 55)).alloc (.cells #[(.slice A3 m3 c3), (.slice A4' m4' c4'), .bool ey] 55)).alloc (.cells #[.slice none 0 0, .slice none 0 0, .bool false] 55)) = w3 at *
  clear hw3
  go_loopg [13] L (fun m i wr => ∃ k : Nat, i = .int .i64 (k : Int) ∧ k ≤ L ∧ m = L - k ∧ ∃ Qr, LayAt wr B gl ⟨s.sets, linkAll s.follow (x.last.take k) y.first⟩ Qr ∧ (∀ b, Qr b → Q b ∨ w3.heap.size ≤ b) ∧ Kept Q w3 wr)
  case atStart => exact ⟨0, rfl, Nat.zero_le _, rfl, Q, by simpa [linkAll] using HLAY.out, fun b h => .inl h, Kept.refl _ _⟩
  case round =>
    obtain ⟨k, rfl, hk, hmk, Qr, hlr, hqr, hkr⟩ := hrel
    have HMK := Lib.hid hmk
    clear hmk
    by_cases hkl : k < L
    · have hkl' : k < x.last.length := by rw [HL.out]; exact hkl
      have hxw := HX.out.off hkr (Q' := Q) fun b h => .inl h
      have hyw := HY.out.off hkr (Q' := Q) fun b h => .inl h
      obtain ⟨g2, c2', e2, hC2, hg2, hcell⟩ := hxw.last.at k (by rw [ns_len]; exact hkl')
      rw [ns_len, HL.out] at e2
      simp only [Value.slice.injEq] at e2
      obtain ⟨rfl, -, rfl⟩ := e2
      have hpl := HXL.out _ (List.getElem_mem hkl')
      have htk := linkAll_take s.follow x.last y.first k hkl'
      have hce : (ns x.last)[k]'(by rw [ns_len]; exact hkl') = ((x.last[k]'hkl' : Nat) : Int) := by simp [ns]
      rw [hce] at hcell
      obtain ⟨p, hp⟩ : ∃ p, x.last[k]'hkl' = p := ⟨_, rfl⟩
      have hbd := HBD.out k _ (List.getElem_mem hkl')
      rw [hp] at hpl htk hcell hbd
      have hlr' : p < (⟨s.sets, linkAll s.follow (x.last.take k) y.first⟩ : Lay).follow.length := by show p < (linkAll s.follow (x.last.take k) y.first).length; rw [linkAll_len]; exact hpl
      obtain ⟨gf, cf, vp, seen, close⟩ := hlr.open p hlr'
      have cgl := seen.glc
      rw [show (⟨s.sets, linkAll s.follow (x.last.take k) y.first⟩ : Lay).follow.length = s.follow.length from linkAll_len _ _ _] at cgl
      have cgf := seen.fc
      have fgf := seen.fz
      have hQw : ∀ b, w.heap.size ≤ b → ¬ Q b := fun b h h' => by have := (HGE.out b h').2; omega
      have byw := HBY.out.off hkr (hQw _ (by omega))
      have cy1 := byw.cell.1
      have p0 : (0 : Int) ≤ (p : Int) := by omega
      obtain ⟨nF, hnF⟩ : ∃ n, s.follow.length = n := ⟨_, rfl⟩
      rw [hnF] at hpl cgl
      have p1 : (p : Int) < (nF : Int) := by omega
      have k0 : (0 : Int) ≤ (k : Int) := by omega
      have k1 : (k : Int) < (L : Int) := by omega
      have hL9 : L ≤ 1000 := by have := H12.out.1.2; have := HL.out; have := H1000.out; have := HC.out; have := HBC.out; omega
      have hyl := H12.out.2.1
      have h1000 := H1000.out
      have hc := HC.out
      have hBw : B ≤ wr.heap.size := by have := HSZ.out; have := hkr.size; omega
      have hlist : Ints wr B vp (ns ((linkAll s.follow (x.last.take k) y.first).getD p [])) := seen.list
      have HLIST := Lib.hid hlist
      have HYL := Lib.hid hyw.first
      have HS := Lib.hid seen
      have HCL := Lib.hid close
      have HTK := Lib.hid htk
      have HLR := Lib.hid hlr
      have HQR := Lib.hid hqr
      have HKR := Lib.hid hkr
      clear hlist hxw hyw hce htk hlr' seen close byw hlr hqr hkr hQw hp hnF
      go_upto_region 4 with fail
      go_region_law (first
        | (refine step_ints rfl _ _ (by rfl) (by rfl) (by rfl) HLIST.out HYL.out (by rw [ns_len, ns_len]; omega) hBw ?_; intro v4 w4 i4 g4 o4; obtain ⟨A4, n4, c4, rfl⟩ := i4.form3; have cgl4 : w4.cell? ⟨gl, 1, none⟩ = some (.slice (some ⟨gf, 0, none⟩) nF cf) := (World.cell?_of_block (g4.block gl HS.out.gll (fun e => HS.out.vgl e.symm))).trans cgl; have cgf4 : w4.cell? ⟨gf, p, none⟩ = some vp := (World.cell?_of_block (g4.block gf HS.out.gfl (fun e => HS.out.vgf e.symm))).trans cgf; have fgf4 : w4.frozen? ⟨gf, p, none⟩ = false := (World.frozen?_of_block (g4.block gf HS.out.gfl (fun e => HS.out.vgf e.symm))).trans fgf)
        | fail)
      all_goals
        go_wp2
        go_roundg (L - (k + 1))
        case measure => have := HMK.out; omega
        case rel =>
          have hg : wr.grownBy w4 vp.ownBlock := ⟨g4.os, g4.tape, g4.output, g4.size, g4.block⟩
          have hclose := HCL.out y.first w4 _ (by rw [ns_app]; exact i4) hg o4
          have hnew : ∀ b, Qr b ∨ (Value.slice A4 n4 c4).ownBlock = some b → Q b ∨ w3.heap.size ≤ b := by
            rintro b (e | e)
            · exact HQR.out b e
            · rcases o4 with e2 | e2
              · exact HQR.out b (HS.out.vQ b (e2.symm.trans e))
              · rw [e] at e2
                injection e2 with e2
                have e3 : b = wr.heap.size := e2
                have := HKR.out.size
                exact .inr (by omega)
          refine ⟨k + 1, by go_num, by omega, rfl, _, ?_, hnew, ?_⟩
          · rw [HTK.out]; exact hclose
          · exact (HKR.out.grown hg fun b e => HQR.out b (HS.out.vQ b e)).setCell (HQR.out gf HS.out.gfQ) _
    · have hkL : k = L := by omega
      subst hkL
      have htl : x.last.take k = x.last := by rw [← HL.out]; exact List.take_length
      rw [htl] at hlr
      have hxw := HX.out.off hkr (Q' := Qr) hqr
      have hyw := HY.out.off hkr (Q' := Qr) hqr
      have hQw : ∀ b, w.heap.size ≤ b → ¬ Q b := fun b h h' => by have := (HGE.out b h').2; omega
      have bxw := HBX.out.off hkr (hQw _ (Nat.le_refl _))
      have byw := HBY.out.off hkr (hQw _ (by omega))
      have brw := HBR.out.off hkr (hQw _ (by omega))
      obtain ⟨cx0, cx1, cx2⟩ := bxw.cell
      obtain ⟨cy0, cy1, cy2⟩ := byw.cell
      obtain ⟨cr0, cr1, cr2⟩ := brw.cell
      obtain ⟨fr0, fr1, fr2⟩ := brw.frozen
      have hlt := brw.lt
      have hl1 := H12.out.1
      have hl2 := H12.out.2
      have hcs := HC.out
      have hbc := HBC.out
      have h1000 := H1000.out
      have hCw : C ≤ wr.heap.size := by have := HSZ.out; have := hkr.size; omega
      have X1 := Lib.hid (hxw.first)
      have X2 := Lib.hid (hxw.last)
      have Y1 := Lib.hid (hyw.first)
      have Y2 := Lib.hid (hyw.last)
      have HXW := Lib.hid hxw
      have HYW := Lib.hid hyw
      have BXW := Lib.hid bxw
      have BYW := Lib.hid byw
      have BRW := Lib.hid brw
      have HLR := Lib.hid hlr
      have HQR := Lib.hid hqr
      have HKR := Lib.hid hkr
      have HQW := Lib.hid hQw
      have HKL := Lib.hid htl
      clear htl hkl hk hxw hyw bxw byw brw hlr hqr hkr hQw
      have N1 : ∀ b, (Value.slice A1 m1 c1).ownBlock = some b → b ≠ w.heap.size + 1 + 1 ∧ b < wr.heap.size ∧ ¬ Qr b := fun b e => by
        obtain ⟨cur, hc⟩ := X1.out.kind e
        exact ⟨kind_apart hc BRW.out (by decide), (X1.out.in e).2, HXW.out.out1 b e⟩
      have N2 : ∀ b, (Value.slice A2 k c2).ownBlock = some b → b ≠ w.heap.size + 1 + 1 ∧ b < wr.heap.size ∧ ¬ Qr b := fun b e => by
        obtain ⟨cur, hc⟩ := X2.out.kind e
        exact ⟨kind_apart hc BRW.out (by decide), (X2.out.in e).2, HXW.out.out2 b e⟩
      have N4 : ∀ b, (Value.slice A4' m4' c4').ownBlock = some b → b ≠ w.heap.size + 1 + 1 ∧ b < wr.heap.size ∧ ¬ Qr b := fun b e => by
        obtain ⟨cur, hc⟩ := Y2.out.kind e
        exact ⟨kind_apart hc BRW.out (by decide), (Y2.out.in e).2, HYW.out.out2 b e⟩
      have Q6 : ∀ b, Qr b → b ≠ w.heap.size + 1 + 1 ∧ b < wr.heap.size := fun b e => ⟨fun e2 => by
        rcases HQR.out b e with h | h
        · exact HQW.out b (by omega) h
        · have := HBR.out.lt; omega, (HLR.out.ge b e).2⟩
      have NN1 := Lib.hid N1
      have NN2 := Lib.hid N2
      have NN4 := Lib.hid N4
      have QQ6 := Lib.hid Q6
      have hsz3 := HSZ.out.2.2
      clear N1 N2 N4 Q6
      cases ex <;> cases ey
      · have hj : joinX x y = ⟨x.first, y.last, false⟩ := by unfold joinX; rw [HE.out.1, HE.out.2]; rfl
        have HJ := Lib.hid hj
        clear hj
        obtain ⟨dx0, dx1, dx2⟩ := (BXW.out.alloc (.cells #[.slice A1 m1 c1, .slice A4' m4' c4', .bool false] 55)).cell
        obtain ⟨dy0, dy1, dy2⟩ := (BYW.out.alloc (.cells #[.slice A1 m1 c1, .slice A4' m4' c4', .bool false] 55)).cell
        obtain ⟨dr0, dr1, dr2⟩ := (BRW.out.alloc (.cells #[.slice A1 m1 c1, .slice A4' m4' c4', .bool false] 55)).cell
        obtain ⟨er0, er1, er2⟩ := (BRW.out.alloc (.cells #[.slice A1 m1 c1, .slice A4' m4' c4', .bool false] 55)).frozen
        obtain ⟨dn0, dn1, dn2⟩ := (BoxS.new wr (.slice A1 m1 c1) (.slice A4' m4' c4') false).cell
        obtain ⟨en0, en1, en2⟩ := (BoxS.new wr (.slice A1 m1 c1) (.slice A4' m4' c4') false).frozen
        go_wp2
        refine ret_str (x := 6) rfl rfl rfl ((BRW.out.put _ _ _).alloc _) ?_
        rw [HJ.out]
        have K1 : Kept (fun b => b = w.heap.size + 1 + 1) wr ((((wr.setCell ⟨w.heap.size + 1 + 1, 0, none⟩ (.slice A1 m1 c1)).setCell ⟨w.heap.size + 1 + 1, 1, none⟩ (.slice A4' m4' c4')).setCell ⟨w.heap.size + 1 + 1, 2, none⟩ (.bool false)).alloc (.cells #[.slice A1 m1 c1, .slice A4' m4' c4', .bool false] 55)) := (((((Kept.refl (fun b => b = w.heap.size + 1 + 1) wr).setCell (a := ⟨w.heap.size + 1 + 1, 0, none⟩) (.inl rfl) _).setCell (a := ⟨w.heap.size + 1 + 1, 1, none⟩) (.inl rfl) _).setCell (a := ⟨w.heap.size + 1 + 1, 2, none⟩) (.inl rfl) _).alloc _)
        have I1 := X1.out.off K1 fun b e => (NN1.out b e).1
        have I2 := Y2.out.off K1 fun b e => (NN4.out b e).1
        have O1 := NN1.out
        have O2 := NN4.out
        have AP : ∀ b, (Value.slice A1 m1 c1).ownBlock = some b → (Value.slice A4' m4' c4').ownBlock ≠ some b := HXY.out.a12
        have LF := HLR.out.off K1 (fun b h => (QQ6.out b h).1)
        have KF := ((Kept.of_below (fun b => Q b ∨ (Value.slice A1 m1 c1).ownBlock = some b ∨ (Value.slice A2 k c2).ownBlock = some b) HB0.out).trans HKR.out fun b h => .inl (.inl h)).trans K1 (fun b h => .inr (by have h' : b = w.heap.size + 1 + 1 := h; omega))
        exact ⟨_, _, Qr, rfl, LF, ⟨I1, I2, AP, fun b e => (O1 b e).2.2, fun b e => (O2 b e).2.2⟩, KF, fun b h => (HQR.out b h).elim .inl fun h => .inr (by omega)⟩
      · have hj : joinX x y = ⟨x.first, x.last ++ y.last, false⟩ := by unfold joinX; rw [HE.out.1, HE.out.2]; rfl
        have HJ := Lib.hid hj
        clear hj
        obtain ⟨dx0, dx1, dx2⟩ := (BXW.out.alloc (.cells #[.slice A1 m1 c1, .slice A4' m4' c4', .bool false] 55)).cell
        obtain ⟨dy0, dy1, dy2⟩ := (BYW.out.alloc (.cells #[.slice A1 m1 c1, .slice A4' m4' c4', .bool false] 55)).cell
        obtain ⟨dr0, dr1, dr2⟩ := (BRW.out.alloc (.cells #[.slice A1 m1 c1, .slice A4' m4' c4', .bool false] 55)).cell
        obtain ⟨er0, er1, er2⟩ := (BRW.out.alloc (.cells #[.slice A1 m1 c1, .slice A4' m4' c4', .bool false] 55)).frozen
        obtain ⟨dn0, dn1, dn2⟩ := (BoxS.new wr (.slice A1 m1 c1) (.slice A4' m4' c4') false).cell
        obtain ⟨en0, en1, en2⟩ := (BoxS.new wr (.slice A1 m1 c1) (.slice A4' m4' c4') false).frozen
        go_wp2_with (refine wpList_ints rfl _ _ (by rfl) (by rfl) (by rfl) (X2.out.alloc (.cells #[.slice A1 m1 c1, .slice A4' m4' c4', .bool false] 55)) (Y2.out.alloc (.cells #[.slice A1 m1 c1, .slice A4' m4' c4', .bool false] 55)) (by rw [ns_len, ns_len]; omega) (by simp; omega) ?_; intro v5 w5 i5 g5 o5; obtain ⟨A5, n5, c5, rfl⟩ := i5.form3; obtain ⟨fx0, fx1, fx2⟩ := ((BXW.out.alloc (.cells #[.slice A1 m1 c1, .slice A4' m4' c4', .bool false] 55)).grownI (X2.out.alloc (.cells #[.slice A1 m1 c1, .slice A4' m4' c4', .bool false] 55)) g5).cell; obtain ⟨fy0, fy1, fy2⟩ := ((BYW.out.alloc (.cells #[.slice A1 m1 c1, .slice A4' m4' c4', .bool false] 55)).grownI (X2.out.alloc (.cells #[.slice A1 m1 c1, .slice A4' m4' c4', .bool false] 55)) g5).cell; obtain ⟨fr0, fr1, fr2⟩ := ((BRW.out.alloc (.cells #[.slice A1 m1 c1, .slice A4' m4' c4', .bool false] 55)).grownI (X2.out.alloc (.cells #[.slice A1 m1 c1, .slice A4' m4' c4', .bool false] 55)) g5).cell; obtain ⟨hr0, hr1, hr2⟩ := ((BRW.out.alloc (.cells #[.slice A1 m1 c1, .slice A4' m4' c4', .bool false] 55)).grownI (X2.out.alloc (.cells #[.slice A1 m1 c1, .slice A4' m4' c4', .bool false] 55)) g5).frozen; obtain ⟨fn0, fn1, fn2⟩ := ((BoxS.new wr (.slice A1 m1 c1) (.slice A4' m4' c4') false).grownI (X2.out.alloc (.cells #[.slice A1 m1 c1, .slice A4' m4' c4', .bool false] 55)) g5).cell; obtain ⟨hn0, hn1, hn2⟩ := ((BoxS.new wr (.slice A1 m1 c1) (.slice A4' m4' c4') false).grownI (X2.out.alloc (.cells #[.slice A1 m1 c1, .slice A4' m4' c4', .bool false] 55)) g5).frozen)
        refine ret_str (x := 6) rfl rfl rfl (((((BRW.out.alloc (.cells #[.slice A1 m1 c1, .slice A4' m4' c4', .bool false] 55)).grownI (X2.out.alloc (.cells #[.slice A1 m1 c1, .slice A4' m4' c4', .bool false] 55)) g5).far (by show w.heap.size + 1 + 1 ≠ wr.heap.size; omega) _).put _ _ _)) ?_
        rw [HJ.out]
        have K1 : Kept (fun b => (Value.slice A2 k c2).ownBlock = some b ∨ b = w.heap.size + 1 + 1) wr ((((w5.setCell ⟨wr.heap.size, 1, none⟩ (.slice A5 n5 c5)).setCell ⟨w.heap.size + 1 + 1, 0, none⟩ (.slice A1 m1 c1)).setCell ⟨w.heap.size + 1 + 1, 1, none⟩ (.slice A5 n5 c5)).setCell ⟨w.heap.size + 1 + 1, 2, none⟩ (.bool false)) := (((((((Kept.refl _ wr).alloc (.cells #[.slice A1 m1 c1, .slice A4' m4' c4', .bool false] 55)).grown g5 fun b e => .inl (.inl e)).setCell (.inr (Nat.le_refl _)) _).setCell (.inl (.inr rfl)) _).setCell (.inl (.inr rfl)) _).setCell (.inl (.inr rfl)) _)
        have K3 : Kept (fun b => b = w.heap.size + 1 + 1 ∨ b = wr.heap.size) w5 ((((w5.setCell ⟨wr.heap.size, 1, none⟩ (.slice A5 n5 c5)).setCell ⟨w.heap.size + 1 + 1, 0, none⟩ (.slice A1 m1 c1)).setCell ⟨w.heap.size + 1 + 1, 1, none⟩ (.slice A5 n5 c5)).setCell ⟨w.heap.size + 1 + 1, 2, none⟩ (.bool false)) := (((((Kept.refl _ w5).setCell (.inl (.inr rfl)) _).setCell (.inl (.inl rfl)) _).setCell (.inl (.inl rfl)) _).setCell (.inl (.inl rfl)) _)
        have B5 : ∀ b, (Value.slice A5 n5 c5).ownBlock = some b → (Value.slice A2 k c2).ownBlock = some b ∨ b = wr.heap.size + 1 := fun b e => by
          rcases o5 with h | h
          · exact .inl (h.symm.trans e)
          · rw [e] at h; injection h with h; exact .inr (by simpa using h)
        have I1 := X1.out.off K1 fun b e h => h.elim (HXW.out.apart b e) (NN1.out b e).1
        have I2 := i5.off K3 fun b e h => by
          rcases B5 b e with h2 | h2
          · have := NN2.out b h2; omega
          · omega
        have AP : ∀ b, (Value.slice A1 m1 c1).ownBlock = some b → (Value.slice A5 n5 c5).ownBlock ≠ some b := fun b e e2 => by
          rcases B5 b e2 with h2 | h2
          · exact HXW.out.apart b e h2
          · have := NN1.out b e; omega
        rw [← ns_app] at I2
        have LF := HLR.out.off K1 (fun b h h2 => by
          rcases h2 with e | e
          · exact (NN2.out b e).2.2 h
          · exact (QQ6.out b h).1 e)
        have KF := ((Kept.of_below (fun b => Q b ∨ (Value.slice A1 m1 c1).ownBlock = some b ∨ (Value.slice A2 k c2).ownBlock = some b) HB0.out).trans HKR.out fun b h => .inl (.inl h)).trans K1 (fun b h2 => by
          rcases h2 with e | e
          · exact .inl (.inr (.inr e))
          · exact .inr (by omega))
        exact ⟨_, _, Qr, rfl, LF, ⟨I1, I2, AP, fun b e => (NN1.out b e).2.2, fun b e h => by
          rcases B5 b e with h2 | h2
          · exact (NN2.out b h2).2.2 h
          · have := QQ6.out b h; omega⟩, KF, fun b h => (HQR.out b h).elim .inl fun h => .inr (by omega)⟩
      · have hj : joinX x y = ⟨x.first ++ y.first, y.last, false⟩ := by unfold joinX; rw [HE.out.1, HE.out.2]; rfl
        have HJ := Lib.hid hj
        clear hj
        obtain ⟨dx0, dx1, dx2⟩ := (BXW.out.alloc (.cells #[.slice A1 m1 c1, .slice A4' m4' c4', .bool false] 55)).cell
        obtain ⟨dy0, dy1, dy2⟩ := (BYW.out.alloc (.cells #[.slice A1 m1 c1, .slice A4' m4' c4', .bool false] 55)).cell
        obtain ⟨dr0, dr1, dr2⟩ := (BRW.out.alloc (.cells #[.slice A1 m1 c1, .slice A4' m4' c4', .bool false] 55)).cell
        obtain ⟨er0, er1, er2⟩ := (BRW.out.alloc (.cells #[.slice A1 m1 c1, .slice A4' m4' c4', .bool false] 55)).frozen
        obtain ⟨dn0, dn1, dn2⟩ := (BoxS.new wr (.slice A1 m1 c1) (.slice A4' m4' c4') false).cell
        obtain ⟨en0, en1, en2⟩ := (BoxS.new wr (.slice A1 m1 c1) (.slice A4' m4' c4') false).frozen
        go_wp2_with (refine wpList_ints rfl _ _ (by rfl) (by rfl) (by rfl) (X1.out.alloc (.cells #[.slice A1 m1 c1, .slice A4' m4' c4', .bool false] 55)) (Y1.out.alloc (.cells #[.slice A1 m1 c1, .slice A4' m4' c4', .bool false] 55)) (by rw [ns_len, ns_len]; omega) (by simp; omega) ?_; intro v4 w4 i4 g4 o4; obtain ⟨A4, n4, c4, rfl⟩ := i4.form3; obtain ⟨fx0, fx1, fx2⟩ := ((BXW.out.alloc (.cells #[.slice A1 m1 c1, .slice A4' m4' c4', .bool false] 55)).grownI (X1.out.alloc (.cells #[.slice A1 m1 c1, .slice A4' m4' c4', .bool false] 55)) g4).cell; obtain ⟨fy0, fy1, fy2⟩ := ((BYW.out.alloc (.cells #[.slice A1 m1 c1, .slice A4' m4' c4', .bool false] 55)).grownI (X1.out.alloc (.cells #[.slice A1 m1 c1, .slice A4' m4' c4', .bool false] 55)) g4).cell; obtain ⟨fr0, fr1, fr2⟩ := ((BRW.out.alloc (.cells #[.slice A1 m1 c1, .slice A4' m4' c4', .bool false] 55)).grownI (X1.out.alloc (.cells #[.slice A1 m1 c1, .slice A4' m4' c4', .bool false] 55)) g4).cell; obtain ⟨hr0, hr1, hr2⟩ := ((BRW.out.alloc (.cells #[.slice A1 m1 c1, .slice A4' m4' c4', .bool false] 55)).grownI (X1.out.alloc (.cells #[.slice A1 m1 c1, .slice A4' m4' c4', .bool false] 55)) g4).frozen; obtain ⟨fn0, fn1, fn2⟩ := ((BoxS.new wr (.slice A1 m1 c1) (.slice A4' m4' c4') false).grownI (X1.out.alloc (.cells #[.slice A1 m1 c1, .slice A4' m4' c4', .bool false] 55)) g4).cell; obtain ⟨hn0, hn1, hn2⟩ := ((BoxS.new wr (.slice A1 m1 c1) (.slice A4' m4' c4') false).grownI (X1.out.alloc (.cells #[.slice A1 m1 c1, .slice A4' m4' c4', .bool false] 55)) g4).frozen)
        refine ret_str (x := 6) rfl rfl rfl (((((BRW.out.alloc (.cells #[.slice A1 m1 c1, .slice A4' m4' c4', .bool false] 55)).grownI (X1.out.alloc (.cells #[.slice A1 m1 c1, .slice A4' m4' c4', .bool false] 55)) g4).far (by show w.heap.size + 1 + 1 ≠ wr.heap.size; omega) _).put _ _ _)) ?_
        rw [HJ.out]
        have K1 : Kept (fun b => (Value.slice A1 m1 c1).ownBlock = some b ∨ b = w.heap.size + 1 + 1) wr ((((w4.setCell ⟨wr.heap.size, 0, none⟩ (.slice A4 n4 c4)).setCell ⟨w.heap.size + 1 + 1, 0, none⟩ (.slice A4 n4 c4)).setCell ⟨w.heap.size + 1 + 1, 1, none⟩ (.slice A4' m4' c4')).setCell ⟨w.heap.size + 1 + 1, 2, none⟩ (.bool false)) := (((((((Kept.refl _ wr).alloc (.cells #[.slice A1 m1 c1, .slice A4' m4' c4', .bool false] 55)).grown g4 fun b e => .inl (.inl e)).setCell (.inr (Nat.le_refl _)) _).setCell (.inl (.inr rfl)) _).setCell (.inl (.inr rfl)) _).setCell (.inl (.inr rfl)) _)
        have K3 : Kept (fun b => b = w.heap.size + 1 + 1 ∨ b = wr.heap.size) w4 ((((w4.setCell ⟨wr.heap.size, 0, none⟩ (.slice A4 n4 c4)).setCell ⟨w.heap.size + 1 + 1, 0, none⟩ (.slice A4 n4 c4)).setCell ⟨w.heap.size + 1 + 1, 1, none⟩ (.slice A4' m4' c4')).setCell ⟨w.heap.size + 1 + 1, 2, none⟩ (.bool false)) := (((((Kept.refl _ w4).setCell (.inl (.inr rfl)) _).setCell (.inl (.inl rfl)) _).setCell (.inl (.inl rfl)) _).setCell (.inl (.inl rfl)) _)
        have B4 : ∀ b, (Value.slice A4 n4 c4).ownBlock = some b → (Value.slice A1 m1 c1).ownBlock = some b ∨ b = wr.heap.size + 1 := fun b e => by
          rcases o4 with h | h
          · exact .inl (h.symm.trans e)
          · rw [e] at h; injection h with h; exact .inr (by simpa using h)
        have I1 := i4.off K3 fun b e h => by
          rcases B4 b e with h2 | h2
          · have := NN1.out b h2; omega
          · omega
        have I2 := Y2.out.off K1 fun b e h => h.elim (fun h => HXY.out.a12 b h e) (NN4.out b e).1
        have AP : ∀ b, (Value.slice A4 n4 c4).ownBlock = some b → (Value.slice A4' m4' c4').ownBlock ≠ some b := fun b e e2 => by
          rcases B4 b e with h2 | h2
          · exact HXY.out.a12 b h2 e2
          · have := NN4.out b e2; omega
        rw [← ns_app] at I1
        have LF := HLR.out.off K1 (fun b h h2 => by
          rcases h2 with e | e
          · exact (NN1.out b e).2.2 h
          · exact (QQ6.out b h).1 e)
        have KF := ((Kept.of_below (fun b => Q b ∨ (Value.slice A1 m1 c1).ownBlock = some b ∨ (Value.slice A2 k c2).ownBlock = some b) HB0.out).trans HKR.out fun b h => .inl (.inl h)).trans K1 (fun b h2 => by
          rcases h2 with e | e
          · exact .inl (.inr (.inl e))
          · exact .inr (by omega))
        exact ⟨_, _, Qr, rfl, LF, ⟨I1, I2, AP, fun b e h => by
          rcases B4 b e with h2 | h2
          · exact (NN1.out b h2).2.2 h
          · have := QQ6.out b h; omega, fun b e => (NN4.out b e).2.2⟩, KF, fun b h => (HQR.out b h).elim .inl fun h => .inr (by omega)⟩
      · have hj : joinX x y = ⟨x.first ++ y.first, x.last ++ y.last, true⟩ := by unfold joinX; rw [HE.out.1, HE.out.2]; rfl
        have HJ := Lib.hid hj
        clear hj
        obtain ⟨dx0, dx1, dx2⟩ := (BXW.out.alloc (.cells #[.slice A1 m1 c1, .slice A4' m4' c4', .bool true] 55)).cell
        obtain ⟨dy0, dy1, dy2⟩ := (BYW.out.alloc (.cells #[.slice A1 m1 c1, .slice A4' m4' c4', .bool true] 55)).cell
        obtain ⟨dr0, dr1, dr2⟩ := (BRW.out.alloc (.cells #[.slice A1 m1 c1, .slice A4' m4' c4', .bool true] 55)).cell
        obtain ⟨er0, er1, er2⟩ := (BRW.out.alloc (.cells #[.slice A1 m1 c1, .slice A4' m4' c4', .bool true] 55)).frozen
        obtain ⟨dn0, dn1, dn2⟩ := (BoxS.new wr (.slice A1 m1 c1) (.slice A4' m4' c4') true).cell
        obtain ⟨en0, en1, en2⟩ := (BoxS.new wr (.slice A1 m1 c1) (.slice A4' m4' c4') true).frozen
        go_wp2_with (first
          | (refine wpList_ints rfl _ _ (by rfl) (by rfl) (by rfl) (X1.out.alloc (.cells #[.slice A1 m1 c1, .slice A4' m4' c4', .bool true] 55)) (Y1.out.alloc (.cells #[.slice A1 m1 c1, .slice A4' m4' c4', .bool true] 55)) (by rw [ns_len, ns_len]; omega) (by simp; omega) ?_; intro v4 w4 i4 g4 o4; obtain ⟨A4, n4, c4, rfl⟩ := i4.form3; obtain ⟨fx0, fx1, fx2⟩ := ((BXW.out.alloc (.cells #[.slice A1 m1 c1, .slice A4' m4' c4', .bool true] 55)).grownI (X1.out.alloc (.cells #[.slice A1 m1 c1, .slice A4' m4' c4', .bool true] 55)) g4).cell; obtain ⟨fy0, fy1, fy2⟩ := ((BYW.out.alloc (.cells #[.slice A1 m1 c1, .slice A4' m4' c4', .bool true] 55)).grownI (X1.out.alloc (.cells #[.slice A1 m1 c1, .slice A4' m4' c4', .bool true] 55)) g4).cell; obtain ⟨fr0, fr1, fr2⟩ := ((BRW.out.alloc (.cells #[.slice A1 m1 c1, .slice A4' m4' c4', .bool true] 55)).grownI (X1.out.alloc (.cells #[.slice A1 m1 c1, .slice A4' m4' c4', .bool true] 55)) g4).cell; obtain ⟨hr0, hr1, hr2⟩ := ((BRW.out.alloc (.cells #[.slice A1 m1 c1, .slice A4' m4' c4', .bool true] 55)).grownI (X1.out.alloc (.cells #[.slice A1 m1 c1, .slice A4' m4' c4', .bool true] 55)) g4).frozen; obtain ⟨fn0, fn1, fn2⟩ := ((BoxS.new wr (.slice A1 m1 c1) (.slice A4' m4' c4') true).grownI (X1.out.alloc (.cells #[.slice A1 m1 c1, .slice A4' m4' c4', .bool true] 55)) g4).cell; obtain ⟨hn0, hn1, hn2⟩ := ((BoxS.new wr (.slice A1 m1 c1) (.slice A4' m4' c4') true).grownI (X1.out.alloc (.cells #[.slice A1 m1 c1, .slice A4' m4' c4', .bool true] 55)) g4).frozen; have g4' := ((World.grownBy_alloc wr (.cells #[.slice A1 m1 c1, .slice A4' m4' c4', .bool true] 55) none).block); have SX2 := ((X2.out.alloc (.cells #[.slice A1 m1 c1, .slice A4' m4' c4', .bool true] 55)).kept g4 (fun b e e2 => HXW.out.apart b e2 e)); have SY2 := ((Y2.out.alloc (.cells #[.slice A1 m1 c1, .slice A4' m4' c4', .bool true] 55)).kept g4 (fun b e e2 => HXY.out.a12 b e2 e)); have hs4 := g4.size; rw [World.size_alloc] at hs4; have TX2 : Ints (w4.setCell ⟨wr.heap.size, 0, none⟩ (.slice A4 n4 c4)) C (.slice A2 k c2) (ns x.last) := SX2.block fun b e hb => Below.heap_setCell _ _ _ _ (by have := X2.out.in e; show b ≠ wr.heap.size; omega); have TY2 : Ints (w4.setCell ⟨wr.heap.size, 0, none⟩ (.slice A4 n4 c4)) C (.slice A4' m4' c4') (ns y.last) := SY2.block fun b e hb => Below.heap_setCell _ _ _ _ (by have := Y2.out.in e; show b ≠ wr.heap.size; omega))
          | (refine wpList_ints rfl _ _ (by rfl) (by rfl) (by rfl) TX2 TY2 (by rw [ns_len, ns_len]; omega) (by simp [World.setCell]; omega) ?_; intro v5 w5 i5 g5 o5; obtain ⟨A5, n5, c5, rfl⟩ := i5.form3; have T1 : BoxS (w4.setCell ⟨wr.heap.size, 0, none⟩ (.slice A4 n4 c4)) wr.heap.size (.slice A4 n4 c4) (.slice A4' m4' c4') true := (((BoxS.new wr (.slice A1 m1 c1) (.slice A4' m4' c4') true).grownI (X1.out.alloc (.cells #[.slice A1 m1 c1, .slice A4' m4' c4', .bool true] 55)) g4).put0 (.slice A4 n4 c4)); have T6 : BoxS (w4.setCell ⟨wr.heap.size, 0, none⟩ (.slice A4 n4 c4)) (w.heap.size + 1 + 1) (.slice none 0 0) (.slice none 0 0) false := ((BRW.out.alloc (.cells #[.slice A1 m1 c1, .slice A4' m4' c4', .bool true] 55)).grownI (X1.out.alloc (.cells #[.slice A1 m1 c1, .slice A4' m4' c4', .bool true] 55)) g4).far (by show w.heap.size + 1 + 1 ≠ wr.heap.size; omega) _; obtain ⟨kr0, kr1, kr2⟩ := (T6.grownI TX2 g5).cell; obtain ⟨lr0, lr1, lr2⟩ := (T6.grownI TX2 g5).frozen; obtain ⟨kn0, kn1, kn2⟩ := (T1.grownI TX2 g5).cell; obtain ⟨ln0, ln1, ln2⟩ := (T1.grownI TX2 g5).frozen))
        refine ret_str (x := 6) rfl rfl rfl ((((T6.grownI TX2 g5).far (by show w.heap.size + 1 + 1 ≠ wr.heap.size; omega) _).put _ _ _)) ?_
        rw [HJ.out]
        have K1 : Kept (fun b => (Value.slice A1 m1 c1).ownBlock = some b ∨ (Value.slice A2 k c2).ownBlock = some b ∨ b = w.heap.size + 1 + 1) wr ((((w5.setCell ⟨wr.heap.size, 1, none⟩ (.slice A5 n5 c5)).setCell ⟨w.heap.size + 1 + 1, 0, none⟩ (.slice A4 n4 c4)).setCell ⟨w.heap.size + 1 + 1, 1, none⟩ (.slice A5 n5 c5)).setCell ⟨w.heap.size + 1 + 1, 2, none⟩ (.bool true)) := (((((((((Kept.refl _ wr).alloc (.cells #[.slice A1 m1 c1, .slice A4' m4' c4', .bool true] 55)).grown g4 fun b e => .inl (.inl e)).setCell (.inr (Nat.le_refl _)) _).grown g5 fun b e => .inl (.inr (.inl e))).setCell (.inr (Nat.le_refl _)) _).setCell (.inl (.inr (.inr rfl))) _).setCell (.inl (.inr (.inr rfl))) _).setCell (.inl (.inr (.inr rfl))) _)
        have K3 : Kept (fun b => b = w.heap.size + 1 + 1 ∨ b = wr.heap.size) w5 ((((w5.setCell ⟨wr.heap.size, 1, none⟩ (.slice A5 n5 c5)).setCell ⟨w.heap.size + 1 + 1, 0, none⟩ (.slice A4 n4 c4)).setCell ⟨w.heap.size + 1 + 1, 1, none⟩ (.slice A5 n5 c5)).setCell ⟨w.heap.size + 1 + 1, 2, none⟩ (.bool true)) := (((((Kept.refl _ w5).setCell (.inl (.inr rfl)) _).setCell (.inl (.inl rfl)) _).setCell (.inl (.inl rfl)) _).setCell (.inl (.inl rfl)) _)
        have K4 : Kept (fun b => (Value.slice A2 k c2).ownBlock = some b ∨ b = w.heap.size + 1 + 1 ∨ b = wr.heap.size) w4 ((((w5.setCell ⟨wr.heap.size, 1, none⟩ (.slice A5 n5 c5)).setCell ⟨w.heap.size + 1 + 1, 0, none⟩ (.slice A4 n4 c4)).setCell ⟨w.heap.size + 1 + 1, 1, none⟩ (.slice A5 n5 c5)).setCell ⟨w.heap.size + 1 + 1, 2, none⟩ (.bool true)) := ((((((((Kept.refl _ w4).setCell (.inl (.inr (.inr rfl))) _).grown g5 fun b e => .inl (.inl e)).setCell (.inl (.inr (.inr rfl))) _).setCell (.inl (.inr (.inl rfl))) _).setCell (.inl (.inr (.inl rfl))) _).setCell (.inl (.inr (.inl rfl))) _))
        have B4 : ∀ b, (Value.slice A4 n4 c4).ownBlock = some b → (Value.slice A1 m1 c1).ownBlock = some b ∨ b = wr.heap.size + 1 := fun b e => by
          rcases o4 with h | h
          · exact .inl (h.symm.trans e)
          · rw [e] at h; injection h with h; exact .inr (by simpa using h)
        have B5 : ∀ b, (Value.slice A5 n5 c5).ownBlock = some b → (Value.slice A2 k c2).ownBlock = some b ∨ b = w4.heap.size := fun b e => by
          rcases o5 with h | h
          · exact .inl (h.symm.trans e)
          · rw [e] at h; injection h with h; exact .inr (by simpa [World.setCell] using h)
        have I1 := i4.off K4 fun b e h => by
          rcases B4 b e with h2 | h2
          · rcases h with h | h
            · exact HXW.out.apart b h2 h
            · have := NN1.out b h2; omega
          · rcases h with h | h
            · have := NN2.out b h; omega
            · omega
        have I2 := i5.off K3 fun b e h => by
          rcases B5 b e with h2 | h2
          · have := NN2.out b h2; omega
          · omega
        have AP : ∀ b, (Value.slice A4 n4 c4).ownBlock = some b → (Value.slice A5 n5 c5).ownBlock ≠ some b := fun b e e2 => by
          have hb4 := (i4.in e).2
          rcases B5 b e2 with h3 | h3
          · rcases B4 b e with h2 | h2
            · exact HXW.out.apart b h2 h3
            · have := NN2.out b h3; omega
          · omega
        rw [← ns_app] at I1 I2
        have LF := HLR.out.off K1 (fun b h h2 => by
          rcases h2 with e | e | e
          · exact (NN1.out b e).2.2 h
          · exact (NN2.out b e).2.2 h
          · exact (QQ6.out b h).1 e)
        have KF := ((Kept.of_below (fun b => Q b ∨ (Value.slice A1 m1 c1).ownBlock = some b ∨ (Value.slice A2 k c2).ownBlock = some b) HB0.out).trans HKR.out fun b h => .inl (.inl h)).trans K1 (fun b h2 => by
          rcases h2 with e | e | e
          · exact .inl (.inr (.inl e))
          · exact .inl (.inr (.inr e))
          · exact .inr (by omega))
        exact ⟨_, _, Qr, rfl, LF, ⟨I1, I2, AP, fun b e h => by
          rcases B4 b e with h2 | h2
          · exact (NN1.out b h2).2.2 h
          · have := QQ6.out b h; omega, fun b e h => by
          rcases B5 b e with h2 | h2
          · exact (NN2.out b h2).2.2 h
          · have := QQ6.out b h; omega⟩, KF, fun b h => (HQR.out b h).elim .inl fun h => .inr (by omega)⟩
end Go.Proofs.YtammicfijnffaaaDoor

/-
  append onto a row that is there: where the new one lies, at a step of a region that draws its order; what blocks hold, through such a region. Laws for other texts; no statement of its own.
-/
namespace Go.Proofs.YtammicfijnffaaaDoor
open Go Go.RowKit

section
variable {P : Program} (w : World)
/-- As run_app, for a row that is there (its address some): where the new one lies. -/
theorem run_app2 (t ty : TypeId) (base : Nat) (e : TypeId) (i : TypeInfo) (z : Value) (size bytes : Nat) (ht : P.underlying t = some (.slice e)) (hi : P.info? e = some i) (hz : i.zero = some z)
    (hsize : i.size = size) (hby : i.bytes = bytes) (hzs : z.cells.size = size) (hsz : 0 < size)
    (g0 cap0 : Nat) (n : Nat) (xs : List Value) (hown : w.ownsRow base e size (.slice (some ⟨g0, 0, none⟩) n cap0) n xs)
    (A : Option Addr) (m c : Nat) (news : List Value) (hl : news.length = m * size) (hnil : A = none → m = 0) (hnews : ∀ ad, A = some ad → ∀ j u, news[j]? = some u → w.cell? (ad.add j) = some u) (h1 : ∀ u ∈ news, u.oneCell' = true)
    (h63 : n + m ≤ maxLen) (hbytes : (n + m) * bytes ≤ 140737488355328) (hbase : base ≤ w.heap.size) :
    ∃ g cap w', (Builtin.append_ #[t, t] ty #[.slice (some ⟨g0, 0, none⟩) n cap0, .slice A m c]).run P w = .ok (.slice (some ⟨g, 0, none⟩) (n + m) cap) w' ∧ w'.ownsRow base e size (.slice (some ⟨g, 0, none⟩) (n + m) cap) (n + m) (xs ++ news) ∧ w.grownBy w' (some g0) ∧ (g = g0 ∨ g = w.heap.size) ∧ g < w'.heap.size := by
  cases A with
  | none =>
    have hm := hnil rfl
    subst hm
    have hn : news = [] := List.eq_nil_of_length_eq_zero (by simpa using hl)
    subst hn
    have hlt := (hown.lt g0 rfl).2
    refine ⟨g0, cap0, w, ?_, by simpa using hown, ⟨rfl, rfl, rfl, Nat.le_refl _, fun _ _ _ => rfl⟩, .inl rfl, hlt⟩
    rcases hown.2 with ⟨h, _⟩ | ⟨g, cap, cur, h, _, _, hnc, _⟩
    · cases h
    · cases h
      simp [Builtin.append_, run_underlying ht, sizeOf, typeInfo, hi, Builtin.lenOf, Builtin.firstCells, hnc, storeCells]
  | some ad =>
    obtain ⟨v', w', hr, h2, h3, h4, h5⟩ := run_append_own_at (P := P) w base t ty e i z size bytes ht hi hz hsize hby hzs hsz _ n xs hown ad m c news hl (hnews ad rfl) h1 h63 hbytes hbase
    rcases h2.2 with ⟨rfl, _⟩ | ⟨g, cap, cur, rfl, _, _, hnc, _⟩
    · have := (h4.1 rfl).1
      cases this
    · exact ⟨g, cap, w', hr, h2, h3, by simpa [Value.ownBlock] using h5, (h2.lt g rfl).2⟩
theorem step_app2 {ops : Array Oper} {o : Oper} {a : Act} {K : Act → World → Prop} {Q : Exit → Act → World → Prop} {E : Prop} (hgd : o.guard = none) (s x : Operand) (t : TypeId)
    (ho : o.op = .call { callee := .builtin .append, args := #[s, x], argTypes := #[t, t] })
    (base : Nat) (e : TypeId) (i : TypeInfo) (z : Value) (size bytes : Nat) (ht : P.underlying t = some (.slice e)) (hi : P.info? e = some i) (hz : i.zero = some z)
    (hsize : i.size = size) (hby : i.bytes = bytes) (hzs : z.cells.size = size) (hsz : 0 < size)
    (g0 cap0 : Nat) (n : Nat) (xs : List Value) (hs : a.eval s = .slice (some ⟨g0, 0, none⟩) n cap0) (hown : w.ownsRow base e size (.slice (some ⟨g0, 0, none⟩) n cap0) n xs)
    (A : Option Addr) (m c : Nat) (news : List Value) (hx : a.eval x = .slice A m c) (hl : news.length = m * size) (hnil : A = none → m = 0) (hnews : ∀ ad, A = some ad → ∀ j u, news[j]? = some u → w.cell? (ad.add j) = some u) (h1 : ∀ u ∈ news, u.oneCell' = true)
    (h63 : n + m ≤ maxLen) (hbytes : (n + m) * bytes ≤ 140737488355328) (hbase : base ≤ w.heap.size)
    (h : ∀ g cap w', w'.ownsRow base e size (.slice (some ⟨g, 0, none⟩) (n + m) cap) (n + m) (xs ++ news) → w.grownBy w' (some g0) → (g = g0 ∨ g = w.heap.size) → g < w'.heap.size → K (a.put o.dst (.slice (some ⟨g, 0, none⟩) (n + m) cap)) w') :
    if Region.wanted o (yielded ops a.tmps) = true then Oper.wp P o a w K Q else E := by
  have hw : Region.wanted o (yielded ops a.tmps) = true := by simp [Region.wanted, hgd]
  rw [if_pos hw]
  obtain ⟨g, cap, w', hr, h2, h3, h4, h5⟩ := run_app2 (P := P) w t o.type base e i z size bytes ht hi hz hsize hby hzs hsz g0 cap0 n xs hown A m c news hl hnil hnews h1 h63 hbytes hbase
  unfold Oper.wp execOp
  simp only [ho, resolve, invoke, builtin, Sem.run_bind, Sem.run_pure, Result.andThen_ok, List.map_toArray, List.map_cons, List.map_nil, hs, hx, hr]
  exact h g cap w' h2 h3 h4 h5
end

/-- Block g holds o. -/
def HasO (w : World) (g : Nat) (o : Obj) : Prop := w.heap[g]? = some o
theorem has_new (w : World) (cs : Array Value) (t : TypeId) (g : Nat) (h : w.heap.size = g) : HasO (w.alloc (.cells cs t)) g (.cells cs t (0, 0)) := by
  subst h
  exact heap_alloc_new w _
theorem has_alloc {w : World} {g : Nat} {o : Obj} (o' : Obj) (h : HasO w g o) : HasO (w.alloc o') g o := (Below.heap_alloc w o' g (lt_of_some h)).trans h
theorem has_drew {w : World} {g : Nat} {o : Obj} (h : HasO w g o) : HasO w.drew g o := h
theorem has_grown {w w' : World} {g : Nat} {o : Obj} {row : Option Nat} (hg : w.grownBy w' row) (h : HasO w g o) (hne : some g ≠ row) : HasO w' g o := (hg.block g (lt_of_some h) hne).trans h
theorem has_below {w w' : World} {g : Nat} {o : Obj} (hb : Below w.heap.size w w') (h : HasO w g o) : HasO w' g o := (hb.block g (lt_of_some h)).trans h
theorem own_drew {w : World} {base e size n : Nat} {v : Value} {xs : List Value} (h : w.ownsRow base e size v n xs) : w.drew.ownsRow base e size v n xs := h

end Go.Proofs.YtammicfijnffaaaDoor

/-
  nfa: nothing, one place. Contracts for other texts; no statement of its own.
-/
namespace Go.Proofs.YtammicfijnffaaaDoor
open Go Go.RowKit
attribute [local go_sem ↓] Go.wp_at_zero Go.wp_at_succ

theorem nothing_p (w : World) : Calls Tryd.prog 35 #[] w fun e w' => e = .returned (.agg #[.slice none 0 0, .slice none 0 0, .bool true]) ∧ Below w.heap.size w w' := by
  go_enter Tryd.func35, Tryd.ntmps35
  go_wp2
  refine ret_str (x := 0) rfl rfl rfl (BoxS.new w _ _ _) ?_
  exact ⟨rfl, (Below.refl _ _).alloc (Nat.le_refl _) _⟩
theorem str_nothing (w : World) (C : Nat) (Q : Nat → Prop) : StrAt w C (.slice none 0 0) (.slice none 0 0) .nothing Q :=
  ⟨Ints.nil _ _, Ints.nil _ _, fun b e => (by cases e), fun b e => (by cases e), fun b e => (by cases e)⟩
theorem str_void (w : World) (C : Nat) (Q : Nat → Prop) : StrAt w C (.slice none 0 0) (.slice none 0 0) .void Q :=
  ⟨Ints.nil _ _, Ints.nil _ _, fun b e => (by cases e), fun b e => (by cases e), fun b e => (by cases e)⟩
theorem nice_nothing (s : Lay) (a : Nat) : Nice s a a .nothing := ⟨_, good_nothing a⟩
theorem nice_void (s : Lay) (a : Nat) : Nice s a a .void := ⟨_, good_void a⟩

theorem Tryd.infoSetN : (Tryd.prog.info? 26).map (fun i => (i.zero, i.size, i.bytes)) = some (some (.agg #[.int .u64 0, .int .u64 0, .int .u64 0, .int .u64 0]), 4, 32) := by kernel_rfl
theorem Tryd.infoList : (Tryd.prog.info? 33).map (fun i => (i.zero, i.size, i.bytes)) = some (some (.slice none 0 0), 1, 24) := by kernel_rfl
section
variable {P : Program} (w : World)
theorem step_app3 {ops : Array Oper} {o : Oper} {a : Act} {K : Act → World → Prop} {Q : Exit → Act → World → Prop} {E : Prop} (hgd : o.guard = none) (s x : Operand) (t : TypeId)
    (ho : o.op = .call { callee := .builtin .append, args := #[s, x], argTypes := #[t, t] })
    (base : Nat) (e : TypeId) (i : TypeInfo) (z : Value) (size bytes : Nat) (ht : P.underlying t = some (.slice e)) (hi : P.info? e = some i) (hz : i.zero = some z)
    (hsize : i.size = size) (hby : i.bytes = bytes) (hzs : z.cells.size = size) (hsz : 0 < size)
    (v : Value) (n : Nat) (xs : List Value) (hs : a.eval s = v) (hown : w.ownsRow base e size v n xs)
    (ad : Addr) (m c : Nat) (news : List Value) (hx : a.eval x = .slice (some ad) m c) (hl : news.length = m * size) (hnews : ∀ j u, news[j]? = some u → w.cell? (ad.add j) = some u) (h1 : ∀ u ∈ news, u.oneCell' = true)
    (h63 : n + m ≤ maxLen) (hbytes : (n + m) * bytes ≤ 140737488355328) (hbase : base ≤ w.heap.size)
    (h : ∀ v' w', w'.ownsRow base e size v' (n + m) (xs ++ news) → w.grownBy w' v.ownBlock → (v'.ownBlock = v.ownBlock ∨ v'.ownBlock = some w.heap.size) → K (a.put o.dst v') w') :
    if Region.wanted o (yielded ops a.tmps) = true then Oper.wp P o a w K Q else E := by
  have hw : Region.wanted o (yielded ops a.tmps) = true := by simp [Region.wanted, hgd]
  rw [if_pos hw]
  obtain ⟨v', w', hr, h2, h3, _, h5⟩ := run_append_own_at (P := P) w base t o.type e i z size bytes ht hi hz hsize hby hzs hsz v n xs hown ad m c news hl hnews h1 h63 hbytes hbase
  unfold Oper.wp execOp
  simp only [ho, resolve, invoke, builtin, Sem.run_bind, Sem.run_pure, Result.andThen_ok, List.map_toArray, List.map_cons, List.map_nil, hs, hx, hr]
  exact h v' w' h2 h3 h5
end
theorem own_form3 {w : World} {B e size n : Nat} {v : Value} {xs : List Value} (h : w.ownsRow B e size v n xs) : ∃ A c, v = .slice A n c := by
  rcases h.2 with ⟨rfl, h0⟩ | ⟨g, cap, cur, rfl, _⟩
  · exact ⟨none, 0, by rw [h0]⟩
  · exact ⟨_, _, rfl⟩
theorem news_has {w : World} {g : Nat} {e : TypeId} {cs : Array Value} (h : HasO w g (.cells cs e (0, 0))) : ∀ j u, cs.toList[j]? = some u → w.cell? ((⟨g, 0, none⟩ : Addr).add j) = some u := by
  intro j u hu
  rw [Addr.add_lit, Nat.zero_add, cell_of_row w g j _ e (0, 0) h]
  simpa using hu
theorem one4N (q : Nat → Bool) : ∀ u ∈ (#[.int .u64 (word q 0), .int .u64 (word q 1), .int .u64 (word q 2), .int .u64 (word q 3)] : Array Value).toList, u.oneCell' = true := by
  intro u hu
  simp at hu
  rcases hu with rfl | rfl | rfl | rfl <;> rfl
theorem one1N : ∀ u ∈ (#[.slice none 0 0] : Array Value).toList, u.oneCell' = true := by
  intro u hu
  simp at hu
  rcases hu with rfl <;> rfl
theorem has_setCell {w : World} {g : Nat} {o : Obj} {a : Addr} (u : Value) (h : HasO w g o) (hne : g = a.block → False) : HasO (w.setCell a u) g o := (Below.heap_setCell w a u g hne).trans h
theorem has_grownN {w w' : World} {g : Nat} {o : Obj} {row : Option Nat} (hg : w.grownBy w' row) (h : HasO w g o) (hne : some g = row → False) : HasO w' g o := has_grown hg h hne
theorem own_grownN {w w' : World} {B e size n : Nat} {v : Value} {xs : List Value} {row : Option Nat} (hg : w.grownBy w' row) (h : w.ownsRow B e size v n xs) (hne : ∀ b, v.ownBlock = some b → some b = row → False) : w'.ownsRow B e size v n xs := own_block h fun b e hb => hg.block b hb (hne b e)
theorem ints_has {w : World} {C a n : Nat} (h : HasO w a (.cells #[.int .i64 (n : Int)] 3 (0, 0))) (hC : C ≤ a) : Ints w C (.slice (some ⟨a, 0, none⟩) 1 1) (ns [n]) :=
  ⟨rfl, .inr ⟨a, 1, _, rfl, hC, h, Nat.le_refl _, by decide, rfl, rfl⟩⟩
theorem FolAt.push {w : World} {B : Nat} {fs : List Value} {ls : List (List Nat)} {Q : Nat → Prop} (h : FolAt w B fs ls Q) : FolAt w B (fs ++ [.slice none 0 0]) (ls ++ [[]]) Q := by
  have hget : ∀ (i : Nat) v, (fs ++ [.slice none 0 0])[i]? = some v → fs[i]? = some v ∨ (i = fs.length ∧ v = .slice none 0 0) := fun i v hv => by
    rcases Nat.lt_or_ge i fs.length with hi | hi
    · rw [List.getElem?_append_left hi] at hv; exact .inl hv
    · rw [List.getElem?_append_right hi] at hv
      rcases Nat.eq_zero_or_pos (i - fs.length) with e | e
      · rw [e] at hv
        simp at hv
        exact .inr ⟨by omega, hv.symm⟩
      · rw [List.getElem?_eq_none (by simp; omega)] at hv; cases hv
  refine ⟨by simp [h.len], fun i v l h1 h2 => ?_, fun i v b h1 h2 => ?_, fun i j v v' b h1 h2 h3 h4 => ?_⟩
  · rcases hget i v h1 with h1 | ⟨rfl, rfl⟩
    · have hi : i < ls.length := by
        rw [← h.len]
        rcases Nat.lt_or_ge i fs.length with hi | hi
        · exact hi
        · rw [List.getElem?_eq_none hi] at h1; cases h1
      rw [List.getElem?_append_left hi] at h2
      exact h.get i v l h1 h2
    · rw [List.getElem?_append_right (by rw [h.len]; exact Nat.le_refl _), h.len, Nat.sub_self] at h2
      simp at h2
      subst h2
      exact Ints.nil _ _
  · rcases hget i v h1 with h1 | ⟨rfl, rfl⟩
    · exact h.inQ i v b h1 h2
    · cases h2
  · rcases hget i v h1 with h1 | ⟨_, rfl⟩
    · rcases hget j v' h2 with h2 | ⟨_, rfl⟩
      · exact h.apart i j v v' b h1 h2 h3 h4
      · cases h4
    · cases h3

def NoB : Nat → Prop := fun _ => False
theorem HasO.of_kept {w w' : World} {b : Nat} {o : Obj} {Q : Nat → Prop} (h : HasO w b o) (hk : Kept Q w w') (hq : ¬ Q b) : HasO w' b o := (hk.block b (lt_of_some h) hq).trans h
/-- One place more has been laid out. -/
theorem one_close {w w3 W19 w19 W25 w25 : World} {B gl n : Nat} {s : Lay} {Q : Nat → Prop} {p : Nat → Bool} {vs vf v19 v25 : Value} {fs : List Value} (hl : LInv s) (hn : s.sets.length = n) (hB0 : Below w.heap.size w w3)
    (hge : ∀ b, Q b → B ≤ b ∧ b < w.heap.size) (hglQ : Q gl) (hgl : HasO w3 gl (.cells #[vs, vf] 53 (0, 0))) (hrows : RowsAt w3 B vs vf s Q) (hfs : FolAt w3 B fs s.follow Q) (hB : B ≤ w.heap.size)
    (vsl : ∀ b, vs.ownBlock = some b → b < w.heap.size ∧ b ≠ gl) (vfl : ∀ b, vf.ownBlock = some b → b < w.heap.size ∧ b ≠ gl) (vsf : ∀ b, vs.ownBlock = some b → vf.ownBlock ≠ some b)
    (Ka : Kept NoB w3 W19) (own19 : w19.ownsRow B 26 4 v19 (n + 1) (setsC s.sets ++ [.int .u64 (word p 0), .int .u64 (word p 1), .int .u64 (word p 2), .int .u64 (word p 3)])) (g19 : W19.grownBy w19 vs.ownBlock) (o19 : v19.ownBlock = vs.ownBlock ∨ v19.ownBlock = some W19.heap.size)
    (Kb : Kept NoB w19 W25) (own25 : w25.ownsRow B 33 1 v25 (n + 1) (fs ++ [.slice none 0 0])) (g25 : W25.grownBy w25 vf.ownBlock) (o25 : v25.ownBlock = vf.ownBlock ∨ v25.ownBlock = some W25.heap.size) :
    ∃ Q', LayAt ((w25.setCell ⟨gl, 0, none⟩ v19).setCell ⟨gl, 1, none⟩ v25) B gl (oneL s p) Q' ∧ (∀ b, Q' b → Q b ∨ w3.heap.size ≤ b) ∧ Kept Q w3 ((w25.setCell ⟨gl, 0, none⟩ v19).setCell ⟨gl, 1, none⟩ v25) := by
  have hsz := hB0.size
  have h1 := Ka.size
  have h2 := g19.size
  have h3 := Kb.size
  have h4 := g25.size
  have hgl3 := (hge gl hglQ).2
  have K19 : Kept (fun b => vs.ownBlock = some b ∨ vf.ownBlock = some b ∨ b = gl) w3 w19 := (Ka.mono fun b h => h.elim).grown g19 fun b e => .inl (.inl e)
  have K25 : Kept (fun b => vs.ownBlock = some b ∨ vf.ownBlock = some b ∨ b = gl) w3 w25 := (K19.trans Kb fun b h => h.elim).grown g25 fun b e => .inl (.inr (.inl e))
  have K3 : Kept (fun b => vs.ownBlock = some b ∨ vf.ownBlock = some b ∨ b = gl) w3 ((w25.setCell ⟨gl, 0, none⟩ v19).setCell ⟨gl, 1, none⟩ v25) := (K25.setCell (.inl (.inr (.inr rfl))) _).setCell (.inl (.inr (.inr rfl))) _
  have Kx : Kept Q w3 ((w25.setCell ⟨gl, 0, none⟩ v19).setCell ⟨gl, 1, none⟩ v25) := K3.mono fun b h => by
    rcases h with h | h | h
    · exact .inl (hrows.setsQ b h)
    · exact .inl (hrows.folsQ b h)
    · exact .inl (h ▸ hglQ)
  have Kf : Kept (fun b => vf.ownBlock = some b) w19 w25 := (Kb.mono fun b h => h.elim).grown g25 fun b e => .inl e
  have gl19 : HasO w19 gl (.cells #[vs, vf] 53 (0, 0)) := has_grown g19 (hgl.of_kept Ka fun h => h) fun e => (vsl gl e.symm).2 rfl
  have gl25 : HasO w25 gl (.cells #[vs, vf] 53 (0, 0)) := has_grown g25 (gl19.of_kept Kb fun h => h) fun e => (vfl gl e.symm).2 rfl
  have hset : ∀ b, b ≠ gl → ((w25.setCell ⟨gl, 0, none⟩ v19).setCell ⟨gl, 1, none⟩ v25).heap[b]? = w25.heap[b]? := fun b hb => (Below.heap_setCell _ _ _ _ hb).trans (Below.heap_setCell _ _ _ _ hb)
  have hsx : ((w25.setCell ⟨gl, 0, none⟩ v19).setCell ⟨gl, 1, none⟩ v25).heap.size = w25.heap.size := by simp [World.setCell]
  have n19 : ∀ b, v19.ownBlock = some b → b ≠ gl ∧ vf.ownBlock ≠ some b := fun b e => by
    obtain ⟨cur, hc⟩ := own_kind own19 e
    refine ⟨kind_apart hc gl19 (by decide), fun e2 => ?_⟩
    rcases o19 with o | o
    · exact vsf b (o.symm.trans e) e2
    · rw [e] at o
      injection o with o
      have := (vfl b e2).1
      omega
  have n25 : ∀ b, v25.ownBlock = some b → b ≠ gl := fun b e => by
    obtain ⟨cur, hc⟩ := own_kind own25 e
    exact kind_apart hc gl25 (by decide)
  have hlen : (oneL s p).sets.length = n + 1 := by simp [oneL, hn]
  have hlen2 : (oneL s p).follow.length = n + 1 := by simp [oneL, hl.len, hn]
  have hsf : setsC (oneL s p).sets = setsC s.sets ++ [.int .u64 (word p 0), .int .u64 (word p 1), .int .u64 (word p 2), .int .u64 (word p 3)] := (setsC_snoc _ _).symm
  have q25 : ∀ b, (Q b ∨ v19.ownBlock = some b ∨ v25.ownBlock = some b) → Q b ∨ w3.heap.size ≤ b := by
    rintro b (e | e | e)
    · exact .inl e
    · rcases o19 with o | o
      · exact .inl (hrows.setsQ b (o.symm.trans e))
      · rw [e] at o
        injection o with o
        exact .inr (by omega)
    · rcases o25 with o | o
      · exact .inl (hrows.folsQ b (o.symm.trans e))
      · rw [e] at o
        injection o with o
        exact .inr (by omega)
  refine ⟨fun b => Q b ∨ v19.ownBlock = some b ∨ v25.ownBlock = some b, ⟨?_, .inl hglQ, v19, v25, ?_, ⟨?_, fun b e => .inr (.inl e), ⟨fs ++ [.slice none 0 0], ?_, ?_⟩, fun b e => .inr (.inr e)⟩⟩, q25, Kx⟩
  · rintro b (e | e | e)
    · have := hge b e
      rw [hsx]
      exact ⟨this.1, by omega⟩
    · have := World.ownsRow.lt own19 b e
      rw [hsx]
      exact ⟨this.1, by omega⟩
    · have := World.ownsRow.lt own25 b e
      rw [hsx]
      exact this
  · have h0 := heap_setCell_same w25 gl 0 _ _ v19 gl25
    rw [heap_setCell_same _ gl 1 _ _ v25 h0]
    rfl
  · rw [hlen, hsf]
    refine own_block own19 fun b e hb => ?_
    rw [hset b (n19 b e).1]
    exact Kf.block b hb (n19 b e).2
  · rw [hlen2]
    exact own_block own25 fun b e hb => hset b (n25 b e)
  · have hp := hfs.push
    refine ⟨hp.len, fun i v l h1 h2 => (hp.get i v l h1 h2).off K3 fun b e hq => ?_, fun i v b h1 h2 => .inl (hp.inQ i v b h1 h2), hp.apart⟩
    obtain ⟨cur, hc⟩ := (hp.get i v l h1 h2).kind e
    rcases hq with hq | hq | hq
    · obtain ⟨cur', hc'⟩ := own_kind hrows.sets hq
      exact kind_apart hc hc' (by decide) rfl
    · obtain ⟨fs', h3', _⟩ := hrows.fols
      obtain ⟨cur', hc'⟩ := own_kind h3' hq
      exact kind_apart hc hc' (by decide) rfl
    · exact kind_apart hc hgl (by decide) hq
/-- What the walk reads. -/
structure OneFacts (w w3 : World) (gl : Nat) (p : Nat → Bool) (vs vf : Value) : Prop where
  a : w3.cell? ⟨gl, 0, none⟩ = some vs
  b : w3.cell? ⟨gl, 1, none⟩ = some vf
  c : w3.cell? ⟨w.heap.size, 0, none⟩ = some (.int .u64 (word p 0))
  d : w3.cell? ⟨w.heap.size, 1, none⟩ = some (.int .u64 (word p 1))
  e : w3.cell? ⟨w.heap.size, 2, none⟩ = some (.int .u64 (word p 2))
  f : w3.cell? ⟨w.heap.size, 3, none⟩ = some (.int .u64 (word p 3))
  y : w3.frozen? ⟨gl, 0, none⟩ = false
  z : w3.frozen? ⟨gl, 1, none⟩ = false
  lg : gl < w3.heap.size
  l3 : w.heap.size < w3.heap.size
  hb : w.heap.size + 2 ≤ w3.heap.size
theorem one_after {w w3 W w' : World} {gl : Nat} {p : Nat → Bool} {vs vf : Value} {row : Option Nat} (h : OneFacts w w3 gl p vs vf) (hk : Kept NoB w3 W) (g : W.grownBy w' row) (h1 : ∀ b, row = some b → b < w.heap.size ∧ b ≠ gl) : OneFacts w w' gl p vs vf := by
  have K : Kept (fun b => row = some b) w3 w' := (hk.mono fun b h => h.elim).grown g fun b e => .inl e
  have hs := K.size
  have n1 : ¬ row = some gl := fun e => (h1 gl e).2 rfl
  have n2 : ¬ row = some w.heap.size := fun e => by have := (h1 _ e).1; omega
  have hz : ∀ j, w'.frozen? ⟨gl, j, none⟩ = w3.frozen? ⟨gl, j, none⟩ := fun j => World.frozen?_of_block (a := ⟨gl, j, none⟩) (K.block gl h.lg n1)
  exact ⟨K.cell h.a n1, K.cell h.b n1, K.cell h.c n2, K.cell h.d n2, K.cell h.e n2, K.cell h.f n2, (hz 0).trans h.y, (hz 1).trans h.z, by have := h.lg; omega, by have := h.l3; omega, by have := h.hb; omega⟩
theorem own_kept {w w' : World} {B e size n : Nat} {v : Value} {xs : List Value} (h : w.ownsRow B e size v n xs) (hk : Kept NoB w w') : w'.ownsRow B e size v n xs := own_block h fun b _ hb => hk.block b hb fun h => h
end Go.Proofs.YtammicfijnffaaaDoor
