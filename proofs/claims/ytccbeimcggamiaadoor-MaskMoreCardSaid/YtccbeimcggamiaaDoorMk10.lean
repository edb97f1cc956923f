/-
  Several texts of this proof in one file: TimesFrom, Round, Times, SetHas, Behind, EndsMath. No statement of its own.
-/
import Derived.Test.YtccbeimcggamiaaDoorMk9
import Derived.Lib.BufferMore
import Derived.Test.YtccbeimcggamiaaDoorMk1
import Derived.RangeFuncNested
import Derived.StillTailTactics
import Derived.OrdersIn
import Derived.Lib.Hide
import Derived.Deep.RegionHeld
import Derived.Deep.DrawnRows
import Derived.Test.YtccbeimcggamiaaDoorMk5
set_option linter.unusedVariables false
set_option linter.unusedSimpArgs false

/-
  lang.part.timesFrom. Contracts for other texts; no statement of its own.
-/
namespace Go.Proofs.YtccbeimcggamiaaDoor
open Go Go.RowKit
attribute [local go_sem ↓] Go.wp_at_zero Go.wp_at_succ

theorem Tryd.infoPlaces : (Tryd.prog.info? 97).map (fun i => (i.zero, i.size, i.bytes)) = some (some (.slice none 0 0), 1, 24) := by kernel_rfl


set_option maxRecDepth 20000 in
set_option maxHeartbeats 2000000 in
theorem timesFrom_p {w : World} {B c : Nat} {xs : List Int} {A : Option Addr} {Γ : Ghost} {g o ln hn i : Nat} {u : T} (ih : EndsP u) (h : Ask w B xs A Γ) (e : Γ.F g o = some (.mk 4 noneP ln hn [u])) (hi : i ≤ xs.length) :
    Calls Tryd.prog 93 #[.pointer (some ⟨g, o, none⟩), .slice A xs.length c, .int .i64 i] w (RetEndsP B w xs Γ (E xs (.mk 4 noneP ln hn [u]) i)) := by
  have hs56 : ∀ (gf : Nat) W, (binOp .eql 93 (.slice (some ⟨gf, 0, none⟩) (xs.length + 1) (xs.length + 1)) (.slice none 0 0)).run Tryd.prog W = .ok (.bool false) W := fun gf W => Lib.run_eql_slice_some_nil W _ _ _ Tryd.underlying93
  have hn56 : ∀ W, (binOp .eql 93 (.slice none 0 0) (.slice none 0 0)).run Tryd.prog W = .ok (.bool true) W := fun W => Lib.run_eql_slice_nil_nil W _ _ Tryd.underlying93
  have hn60 : ∀ W, (binOp .eql 97 (.slice none 0 0) (.slice none 0 0)).run Tryd.prog W = .ok (.bool true) W := fun W => Lib.run_eql_slice_nil_nil W _ _ Tryd.underlying97
  have hlen := h.len
  have ii1 : (i : Int) < ((xs.length + 1 : Nat) : Int) := by omega
  rcases (h.inv.inv.part g o _ e).2.starts with hst | ⟨gf, hst, hG⟩
  · obtain ⟨i0, hi0, hz0, hz1, hz2⟩ := info_parts Tryd.infoPlaces
    obtain ⟨w1, hr, hown, hg⟩ := run_make_full (P := Tryd.prog) w w.heap.size 93 97 i0 _ 1 Tryd.underlying93 hi0 hz0 hz1 .i64 .i64 (xs.length + 1) (by rw [hz2]; omega) (by unfold maxLen; omega) (Nat.le_refl _)
    rw [show ((xs.length + 1 : Nat) : Int) = (xs.length : Int) + 1 by omega] at hr
    rw [show (madeCells (Value.slice none 0 0).cells ((xs.length + 1) * 1)).toList = List.replicate (xs.length + 1) (.slice none 0 0) by rw [Nat.mul_one]; exact toList_madeCells_one _ _] at hown
    have hp := (h.inv.inv.part g o _ e).2
    obtain ⟨curp, hblk⟩ := hp.block
    have hgw := lt_of_some hblk
    have hsz : w.heap.size < w1.heap.size := (World.ownsRow.lt hown _ rfl).2
    have hb1 : Below w.heap.size w w1 := (Below.refl _ _).grown hg (Nat.le_refl _) (fun j e => by cases e)
    have c1 := cell_stays hst hb1
    have f1 : w1.frozen? ⟨g, o + 3, none⟩ = false := by
      have hb := (hb1.block g hgw).trans hblk
      simp [World.frozen?, hb]
    have b12 : w1.grownBy (w1.setCell ⟨g, o + 3, none⟩ (.slice (some ⟨w.heap.size, 0, none⟩) (xs.length + 1) (xs.length + 1))) (some g) := ⟨rfl, rfl, rfl, by simp [World.setCell], fun k _ hk => Below.heap_setCell _ _ _ _ (fun e => hk (by rw [e]))⟩
    have own2 := World.ownsRow.kept hown b12 (.inr (by simp [Value.ownBlock]; omega))
    have hc1 : (w1.setCell ⟨g, o + 3, none⟩ (.slice (some ⟨w.heap.size, 0, none⟩) (xs.length + 1) (xs.length + 1))).cell? ⟨g, o + 3, none⟩ = some (.slice (some ⟨w.heap.size, 0, none⟩) (xs.length + 1) (xs.length + 1)) := World.cell?_setCell_same _ _ _ c1
    have hfrom : FromOk (w1.setCell ⟨g, o + 3, none⟩ (.slice (some ⟨w.heap.size, 0, none⟩) (xs.length + 1) (xs.length + 1))) B xs Γ w.heap.size (.mk 4 noneP ln hn [u]) := by
      refine ⟨?_, fun k hk => ⟨.slice none 0 0, ?_, .inl rfl⟩⟩
      · rcases own2.2 with ⟨e, _⟩ | ⟨g', cap', cur, e, _, hg', _⟩
        · cases e
        · injection e with e
          injection e with e
          injection e with e
          rw [← e] at hg'
          exact ⟨cur, hg'⟩
      · have := own2.cellAt k (by omega)
        rw [this, List.getElem?_replicate, if_pos (by omega)]
    have hbe : Below B w (w1.setCell ⟨g, o + 3, none⟩ (.slice (some ⟨w.heap.size, 0, none⟩) (xs.length + 1) (xs.length + 1))) := (hb1.mono h.le).trans (Below.grown (Below.refl _ _) b12 (Nat.le_trans h.le (Nat.le_of_lt hsz)) (fun k ek => by injection ek with ek; rw [← ek]; exact (h.inv.inv.part g o _ e).1))
    have hlay := h.inv.inv.layFrom e w.heap.size (Nat.le_refl _) h.le (fun b h1 h2 => (Below.heap_setCell _ _ _ _ h2).trans (hb1.block b h1)) (set_block (i := 0) ((hb1.block g hgw).trans hblk) ⟨g, o + 3, none⟩ (.slice (some ⟨w.heap.size, 0, none⟩) (xs.length + 1) (xs.length + 1))) (fun j hj => (cell_other (by intro e; injection e with _ e; omega)).trans (hb1.cell (p := ⟨g, j, none⟩) hgw)) hc1 hst hfrom hbe
    have HX := Lib.hid hlay.2
    have HA := Lib.hid (h.ext hlay.2 ⟨hlay.1, fun g' e' => Nat.lt_of_lt_of_le (h.inv.old g' e') hlay.2.below.size⟩)
    have HFC := Lib.hid hc1
    have HG : Hid ((Γ.list w.heap.size (.mk 4 noneP ln hn [u])).G w.heap.size = some (.mk 4 noneP ln hn [u])) := Lib.hid (by simp [Ghost.list])
    have HE := Lib.hid e
    obtain ⟨gf, hgf⟩ : ∃ gf, gf = w.heap.size := ⟨_, rfl⟩
    rw [← hgf] at hr HX HA HFC HG
    clear hi0 hz0 hz1 hz2 hown hg hp hblk hsz hb1 b12 own2 hc1 hfrom hbe hlay h e hgw hgf
    go_enter Tryd.func93, Tryd.ntmps93
    obtain ⟨v0, hv0, hv0c⟩ := (HA.out.inv.inv.starts gf _ HG.out).2.cells i hi
    have hfc := HFC.out
    rcases hv0c with rfl | ⟨q0, hp0, hM0, hq0⟩
    · have hrep : ∀ W Γ' v', Ask W B xs A Γ' → Γ'.F g o = some (.mk 4 noneP ln hn [u]) → InW W xs v' (fun x => x == i) → Calls Tryd.prog 92 #[.pointer (some ⟨g, o, none⟩), .slice A xs.length c, v'] W (RetMine B W xs Γ' (E xs (.mk 4 noneP ln hn [u]) i)) := fun W Γ' v' ha he hv => by
        refine (repeat_p ih ha he hv).mono fun e w' hr => ?_
        obtain ⟨v, q, Γ2, h1, h2, h3, h4, h5, h6⟩ := hr
        refine ⟨v, q, Γ2, h1, h2, h3, h4, h5, fun x => (h6 x).trans ?_⟩
        simp [img]
      unfold RetMine at hrep
      have HREP := Lib.hid hrep
      have HV0 := Lib.hid hv0
      have hon := fun W => only_p W i xs.length (by omega) hi
      unfold RetPl at hon
      have HON := Lib.hid hon
      have HEr := Lib.hid (HX.out.F _ _ _ HE.out)
      have HGW := Lib.hid (HA.out.inv.inv.old HEr.out)
      clear hrep hv0 hon
      have hv0 := HV0.out
      go_wp2
      have ii2 : (i : Int) < (xs.length : Int) + 1 := by omega
      go_region_law (first
        | (go_simp; go_at_call 36; (with_reducible refine (HON.out _).mono ?_); rintro e2 w2 ⟨v2, rfl, hv2, hb2⟩; have hb2' := undrew hb2; have HB2 := Lib.hid hb2'; have HA2 := Lib.hid (HA.out.stays hb2'); have hf2 := (hb2'.cell (p := ⟨g, o + 3, none⟩) HGW.out).trans hfc; have HV2 := Lib.hid (show InW w2 xs v2 (fun x => x == i) from ⟨hv2.lower (Nat.zero_le _), fun x hx => by have : x = i := (by simpa using hx); omega⟩); clear hv2 hb2 hb2')
        | (go_simp; go_at_call 92; (with_reducible refine (HREP.out _ _ _ HA2.out HEr.out HV2.out).mono ?_); rintro e3 w3 ⟨v3, q3, Γ3, rfl, hi3, hx3, hm3, hle3, hq3⟩; obtain ⟨g3, c3, rfl, _, _⟩ := hm3.pl.form (by omega); have hf3 := hx3.stay g o _ HEr.out 3 (.inr rfl) _ hf2 (fun ee => by cases ee); have HG3 := Lib.hid (hx3.G _ _ HG.out); have HI3 := Lib.hid hi3; have HX3 := Lib.hid hx3; have HM3 := Lib.hid hm3; have HLE3 := Lib.hid hle3; have HQ3 := Lib.hid hq3; have HP3 := Lib.hid (hx3.F _ _ _ HEr.out); obtain ⟨v9, hv9, _⟩ := (hi3.inv.starts gf _ HG3.out).2.cells i hi; have HV9 := Lib.hid hv9; obtain ⟨cur9, hk9⟩ := (hi3.inv.starts gf _ HG3.out).2.block; have hfr9 : w3.frozen? ⟨gf, i, none⟩ = false := (by simp [World.frozen?, hk9]); obtain ⟨cur8, hk8⟩ := (hi3.inv.part g o _ HP3.out).2.block; have HNE := Lib.hid (kind_ne hk8 hk9 (by decide)); have hf4 := (cell_other (w := w3) (a := ⟨gf, i, none⟩) (b := ⟨g, o + 3, none⟩) (v := .slice (some ⟨g3, 0, none⟩) (xs.length / 64 + 1) c3) (fun ea => by injection ea with e1 e2; exact HNE.out e1.symm)).trans hf3; have hs4 := World.cell?_setCell_same w3 ⟨gf, i, none⟩ (.slice (some ⟨g3, 0, none⟩) (xs.length / 64 + 1) c3) hv9; clear hi3 hx3 hm3 hle3 hq3 hk8 hk9))
      all_goals
        go_wp2
        go_ret
        have hx := (HX.out.trans (Ext.stays _ HB2.out HA.out.le)).trans HX3.out
        have hpl := HM3.out.pl
        have hB : B ≤ w2.heap.size := Nat.le_trans HA.out.le HB2.out.size
        have hw : w.heap.size ≤ w2.heap.size := Nat.le_trans HX.out.below.size HB2.out.size
        refine ⟨.slice (some ⟨g3, 0, none⟩) (xs.length / 64 + 1) c3, q3, Γ3.mark (.slice (some ⟨g3, 0, none⟩) (xs.length / 64 + 1) c3), rfl, ⟨HI3.out.inv.putFrom HG3.out hi (hpl.lower hB) HQ3.out, fun g' e' => ?_⟩, Ext.put HI3.out.inv hx HG3.out (fun g' e' => Nat.le_trans hw (World.ownsRow.lt hpl g' e').1), ⟨pl_still (hpl.lower (Nat.zero_le _)) (set_from HI3.out.inv HG3.out i _), HLE3.out⟩, HQ3.out⟩
        rcases e' with e' | e'
        · simpa [World.setCell] using HI3.out.old g' e'
        · simpa [World.setCell] using (World.ownsRow.lt hpl g' e').2
    · have hp1 := hp0.lower (Nat.zero_le B)
      obtain ⟨g5, c5, rfl, _, _⟩ := hp0.form (by omega)
      have hs60 : ∀ W, (binOp .eql 97 (.slice (some ⟨g5, 0, none⟩) (xs.length / 64 + 1) c5) (.slice none 0 0)).run Tryd.prog W = .ok (.bool false) W := fun W => Lib.run_eql_slice_some_nil W _ _ _ Tryd.underlying97
      have HP1 := Lib.hid hp1
      have HQ0 := Lib.hid hq0
      clear hp0 hp1 hq0 hM0
      go_wp2
      go_ret
      refine ⟨_, q0, _, rfl, HA.out.inv, HX.out, ⟨HP1.out, fun x hx => ?_⟩, HQ0.out⟩
      exact (E_bd (HA.out.inv.inv.part g o _ (HX.out.F _ _ _ HE.out)).2.wf i x hi ((HQ0.out x).1 hx)).2
  · have HA := Lib.hid h
    have HX := Lib.hid (Ext.refl B w Γ)
    have HFC := Lib.hid hst
    have HG := Lib.hid hG
    have HE := Lib.hid e
    clear h e hst hG
    go_enter Tryd.func93, Tryd.ntmps93
    obtain ⟨v0, hv0, hv0c⟩ := (HA.out.inv.inv.starts gf _ HG.out).2.cells i hi
    have hfc := HFC.out
    rcases hv0c with rfl | ⟨q0, hp0, hM0, hq0⟩
    · have hrep : ∀ W Γ' v', Ask W B xs A Γ' → Γ'.F g o = some (.mk 4 noneP ln hn [u]) → InW W xs v' (fun x => x == i) → Calls Tryd.prog 92 #[.pointer (some ⟨g, o, none⟩), .slice A xs.length c, v'] W (RetMine B W xs Γ' (E xs (.mk 4 noneP ln hn [u]) i)) := fun W Γ' v' ha he hv => by
        refine (repeat_p ih ha he hv).mono fun e w' hr => ?_
        obtain ⟨v, q, Γ2, h1, h2, h3, h4, h5, h6⟩ := hr
        refine ⟨v, q, Γ2, h1, h2, h3, h4, h5, fun x => (h6 x).trans ?_⟩
        simp [img]
      unfold RetMine at hrep
      have HREP := Lib.hid hrep
      have HV0 := Lib.hid hv0
      have hon := fun W => only_p W i xs.length (by omega) hi
      unfold RetPl at hon
      have HON := Lib.hid hon
      have HEr := Lib.hid (HX.out.F _ _ _ HE.out)
      have HGW := Lib.hid (HA.out.inv.inv.old HEr.out)
      clear hrep hv0 hon
      have hv0 := HV0.out
      go_wp2
      have ii2 : (i : Int) < (xs.length : Int) + 1 := by omega
      go_region_law (first
        | (go_simp; go_at_call 36; (with_reducible refine (HON.out _).mono ?_); rintro e2 w2 ⟨v2, rfl, hv2, hb2⟩; have hb2' := undrew hb2; have HB2 := Lib.hid hb2'; have HA2 := Lib.hid (HA.out.stays hb2'); have hf2 := (hb2'.cell (p := ⟨g, o + 3, none⟩) HGW.out).trans hfc; have HV2 := Lib.hid (show InW w2 xs v2 (fun x => x == i) from ⟨hv2.lower (Nat.zero_le _), fun x hx => by have : x = i := (by simpa using hx); omega⟩); clear hv2 hb2 hb2')
        | (go_simp; go_at_call 92; (with_reducible refine (HREP.out _ _ _ HA2.out HEr.out HV2.out).mono ?_); rintro e3 w3 ⟨v3, q3, Γ3, rfl, hi3, hx3, hm3, hle3, hq3⟩; obtain ⟨g3, c3, rfl, _, _⟩ := hm3.pl.form (by omega); have hf3 := hx3.stay g o _ HEr.out 3 (.inr rfl) _ hf2 (fun ee => by cases ee); have HG3 := Lib.hid (hx3.G _ _ HG.out); have HI3 := Lib.hid hi3; have HX3 := Lib.hid hx3; have HM3 := Lib.hid hm3; have HLE3 := Lib.hid hle3; have HQ3 := Lib.hid hq3; have HP3 := Lib.hid (hx3.F _ _ _ HEr.out); obtain ⟨v9, hv9, _⟩ := (hi3.inv.starts gf _ HG3.out).2.cells i hi; have HV9 := Lib.hid hv9; obtain ⟨cur9, hk9⟩ := (hi3.inv.starts gf _ HG3.out).2.block; have hfr9 : w3.frozen? ⟨gf, i, none⟩ = false := (by simp [World.frozen?, hk9]); obtain ⟨cur8, hk8⟩ := (hi3.inv.part g o _ HP3.out).2.block; have HNE := Lib.hid (kind_ne hk8 hk9 (by decide)); have hf4 := (cell_other (w := w3) (a := ⟨gf, i, none⟩) (b := ⟨g, o + 3, none⟩) (v := .slice (some ⟨g3, 0, none⟩) (xs.length / 64 + 1) c3) (fun ea => by injection ea with e1 e2; exact HNE.out e1.symm)).trans hf3; have hs4 := World.cell?_setCell_same w3 ⟨gf, i, none⟩ (.slice (some ⟨g3, 0, none⟩) (xs.length / 64 + 1) c3) hv9; clear hi3 hx3 hm3 hle3 hq3 hk8 hk9))
      all_goals
        go_wp2
        go_ret
        have hx := (HX.out.trans (Ext.stays _ HB2.out HA.out.le)).trans HX3.out
        have hpl := HM3.out.pl
        have hB : B ≤ w2.heap.size := Nat.le_trans HA.out.le HB2.out.size
        have hw : w.heap.size ≤ w2.heap.size := Nat.le_trans HX.out.below.size HB2.out.size
        refine ⟨.slice (some ⟨g3, 0, none⟩) (xs.length / 64 + 1) c3, q3, Γ3.mark (.slice (some ⟨g3, 0, none⟩) (xs.length / 64 + 1) c3), rfl, ⟨HI3.out.inv.putFrom HG3.out hi (hpl.lower hB) HQ3.out, fun g' e' => ?_⟩, Ext.put HI3.out.inv hx HG3.out (fun g' e' => Nat.le_trans hw (World.ownsRow.lt hpl g' e').1), ⟨pl_still (hpl.lower (Nat.zero_le _)) (set_from HI3.out.inv HG3.out i _), HLE3.out⟩, HQ3.out⟩
        rcases e' with e' | e'
        · simpa [World.setCell] using HI3.out.old g' e'
        · simpa [World.setCell] using (World.ownsRow.lt hpl g' e').2
    · have hp1 := hp0.lower (Nat.zero_le B)
      obtain ⟨g5, c5, rfl, _, _⟩ := hp0.form (by omega)
      have hs60 : ∀ W, (binOp .eql 97 (.slice (some ⟨g5, 0, none⟩) (xs.length / 64 + 1) c5) (.slice none 0 0)).run Tryd.prog W = .ok (.bool false) W := fun W => Lib.run_eql_slice_some_nil W _ _ _ Tryd.underlying97
      have HP1 := Lib.hid hp1
      have HQ0 := Lib.hid hq0
      clear hp0 hp1 hq0 hM0
      go_wp2
      go_ret
      refine ⟨_, q0, _, rfl, HA.out.inv, HX.out, ⟨HP1.out, fun x hx => ?_⟩, HQ0.out⟩
      exact (E_bd (HA.out.inv.inv.part g o _ (HX.out.F _ _ _ HE.out)).2.wf i x hi ((HQ0.out x).1 hx)).2

end Go.Proofs.YtccbeimcggamiaaDoor

/-
  A region that draws its order, within a round: by the laws that know of no fence. Contracts for other texts; no statement of its own.
-/
namespace Go.Proofs.YtccbeimcggamiaaDoor
open Go Go.RowKit

def noDefer (ops : Array Oper) : Bool := ops.all fun o => match o.op with | .defer _ => false | _ => true
theorem noDefer_at {ops : Array Oper} (h : noDefer ops = true) {i : Nat} {o : Oper} (hi : ops[i]? = some o) : ∀ c, o.op ≠ .defer c := by
  intro c hc
  unfold noDefer at h
  rw [Array.all_eq_true] at h
  obtain ⟨hlt, e⟩ := Array.getElem?_eq_some_iff.1 hi
  have := h i hlt
  rw [e, hc] at this
  cases this

section
variable {P : Program} {ops : Array Oper} {Q : Exit → Act → World → Prop} {md : Region.Mode} {l n : Nat}
theorem wpOpIn_of_wide (hd : noDefer ops = true) (hL : ¬ LetsOut Q) {i : Nat} {K : Act → World → Prop} {a : Act} {w : World} (h : wpOp P ops Q i K a w) : wpOpIn (Fence.wide.inRound l) n P ops Q i K a w := by
  unfold wpOp at h
  unfold wpOpIn
  cases ho : ops[i]? with
  | none => rw [ho] at h; exact h
  | some o =>
    rw [ho] at h
    simp only at h ⊢
    split
    · rename_i hw
      rw [if_pos hw] at h
      rcases h with h | ⟨_, h⟩
      · refine ⟨fun _ _ => trivial, ?_⟩
        rw [Oper.semAt_eq _ _ _ (noDefer_at hd ho)]
        unfold Oper.wp at h
        generalize (execOp a.eval o).run P w = r at h ⊢
        cases r with
        | ok x w' =>
          cases x <;> simp only [Oper.upon, Oper.uponIn] at h ⊢
          case value => exact h
          case skip => exact h
          case defer => exact h
          case enter => exact ⟨fun e => (by cases e), callsIn_wide.2 h⟩
          case row => exact ⟨fun e => (by cases e), fun c cs _ => let ⟨v, w2, r, s⟩ := h c cs; ⟨v, w2, r, stepsIn_wide.2 s⟩⟩
        | halt x w' => cases x <;> simp only [Oper.upon, Oper.uponIn] at h ⊢; exact h
      · exact absurd h hL
    · rename_i hw
      rw [if_neg hw] at h
      exact ⟨fun _ _ => trivial, h⟩
theorem wpAnyIn_of_wide (hd : noDefer ops = true) (hL : ¬ LetsOut Q) : ∀ (fuel : Nat) (listed : Array Bool) (a : Act) (w : World), wpAny P md ops Q fuel listed a w → wpAnyIn (Fence.wide.inRound l) n P md ops Q fuel listed a w
  | 0, listed, a, w, h => h
  | fuel + 1, listed, a, w, h => ⟨h.1, fun i hi => wpOpIn_mono (fun a' w' h' => wpAnyIn_of_wide hd hL fuel _ a' w' h') (wpOpIn_of_wide hd hL (h.2 i hi))⟩
end

/-- A region of reads, and behind them a tail in its order, within a round. -/
theorem wpIn_round_tail {P : Program} {Q : Exit → Act → World → Prop} {r n id : Nat} {a : Act} {w : World} {l : List Oper} (k : Nat) (hm : P.follows .mixedOrders = true) (hB : Region.lexTailB .any l.toArray k = true) (hd : noDefer l.toArray = true) (hL : ¬ LetsOut Q)
    (h : wpStill P l.toArray w.drew (fun a' => wpList P l.toArray Q (l.drop k) a' w.drew) (l.take k) a) : (Code.region id l.toArray true).wpIn (Fence.wide.inRound r) n P Q a w := by
  refine wpIn_region_any hm (wpAnyIn_of_wide hd hL _ _ _ _ ?_)
  simp only [Region.lexTailB, Bool.and_eq_true, decide_eq_true_eq] at hB
  have hk : k < l.length := by have := hB.1.1.1.2; simpa using this
  have e1 : (l.take k).length = k := by rw [List.length_take]; omega
  have e2 : (l.drop k).length = l.toArray.size - k := by simp
  have e3 : (l.take k).length + (l.toArray.size - k) = l.toArray.size := by rw [e1]; simp; omega
  have start : HeadInv .any l.toArray k (Array.replicate l.toArray.size false) := by
    refine ⟨by simp, fun j oj _ hl => ?_, fun t _ ht => getD_in (by simpa using ht) (getD_replicate_false _ _)⟩
    rw [getD_replicate_false] at hl
    cases hl
  have hat : ∀ j, j < (l.take k).length → (l.take k)[j]? = l.toArray[0 + j]? := fun j hj => by
    rw [e1] at hj
    simp [hj]
  have lex := wpAnyL_lex (md := .any) (g := l.toArray.size - k) hB.1.1.1.1 hB.1.1.2 hB.1.2 hB.1.1.1.2 (l.take k) 0 _ a hat (by omega) start (by rw [e1]; exact hB.2) h
  have tail := wpAny_of_head (Q' := Q) (g := l.toArray.size - k) (fun listed a' hs => ?_) _ _ _ lex
  · rwa [e3] at tail
  · have t1 := wpAny_of_seq (md := .any) (Q' := Q) (l.drop k) k listed a' w.drew (fun j => by simp [List.getElem?_drop]) (by rw [e2]; exact hs.1) hs.2
    rwa [e2] at t1

end Go.Proofs.YtccbeimcggamiaaDoor

/-
  lang.part.times. Contracts for other texts; no statement of its own.
-/
namespace Go.Proofs.YtccbeimcggamiaaDoor
open Go Go.RowKit Go.Shelf
attribute [local go_sem] Oper.semAt_some

theorem still_other {W : World} {k : Nat} {o : Obj} (hk : W.heap[k]? = some o) (ho : o.isCells = false) : Still W k := by
  refine ⟨lt_of_some hk, fun cur e => ?_, fun cur e => ?_⟩
  · rw [hk] at e
    injection e with e
    rw [e] at ho
    cases ho
  · rw [hk] at e
    injection e with e
    rw [e] at ho
    cases ho
theorem keeps_ext {B N : Nat} {W W' : World} {Γ Γ' : Ghost} (x : Ext B W W' Γ Γ') : KeepsFrom N W W' := ⟨x.below.size, fun k o _ hk ho => (x.still k (still_other hk ho)).trans hk⟩

set_option maxRecDepth 20000 in
set_option maxHeartbeats 2000000 in
theorem times_p {w : World} {B c : Nat} {xs : List Int} {A : Option Addr} {Γ : Ghost} {g o ln hn : Nat} {u : T} {v : Value} {q : Nat → Bool} (ih : EndsP u) (h : Ask w B xs A Γ) (e : Γ.F g o = some (.mk 4 noneP ln hn [u])) (hv : InW w xs v q) :
    Calls Tryd.prog 66 #[.pointer (some ⟨g, o, none⟩), .slice A xs.length c, v] w (RetMine B w xs Γ (img (E xs (.mk 4 noneP ln hn [u])) fun i => q i = true)) := by
  have hm : xs.length / 64 + 1 ≤ 1000000 := by have := h.len; omega
  have hm0 : 0 < xs.length / 64 + 1 := by omega
  obtain ⟨gs, cs, rfl, _, hgs⟩ := hv.pl.form (by omega)
  have hp := (h.inv.inv.part g o _ e).2
  obtain ⟨a, ha1, ha2⟩ := hp.asked
  obtain ⟨curp, hpb⟩ := hp.block
  have hgw := lt_of_some hpb
  have hfz : w.frozen? ⟨g, o + 2, none⟩ = false := by simp [World.frozen?, hpb]
  have hlen := h.len
  have HH := Lib.hid h
  have HE := Lib.hid e
  have HV := Lib.hid hv
  have hb2 : Below w.heap.size w ((w.alloc (.cells #[.pointer (some ⟨g, o, none⟩)] 141)).alloc (.cells #[.slice A xs.length c] 22)) := ((Below.refl _ _).alloc (Nat.le_refl _) _).alloc (by simp) _
  have k2 := (hb2.cell (p := ⟨g, o + 2, none⟩) hgw).trans ha1
  have HB2 := Lib.hid hb2
  have HNW := Lib.hid (fun w => nowhere_p w xs.length (by omega))
  unfold RetPl at HNW
  have hmx : Tryd.prog.follows .mixedOrders = true := by kernel_rfl
  refine (callsIn_wide (n := 3)).1 ?_
  refine callsIn_of_wp_marks Tryd.func66 rfl trivial ?_ rfl
  simp only [Tryd.ntmps66, List.size_toArray, List.length_cons, List.length_nil, Nat.reduceAdd, Nat.reduceSub, Array.replicate_succ, Array.replicate_zero, List.push_toArray, List.append_toArray, List.nil_append, List.cons_append]
  clear h e hv hp hb2 ha1
  gi_wp2
  refine wpIn_wide.2 ?_
  by_cases hal : a ≤ xs.length
  · go_quiet (fail)
    have hb1 := below_drewN HB2.out nq
    have hk := (HH.out.stays hb1).inv.inv.ask HE.out (a + 1) (by omega)
    rw [show ((a + 1 : Nat) : Int) = (a : Int) + 1 by omega] at hk
    have hx := (Ext.stays Γ hb1 HH.out.le).trans hk.2
    have ha := HH.out.ext hx ⟨hk.1, fun g' e' => Nat.lt_of_lt_of_le (HH.out.inv.old g' e') hx.below.size⟩
    have HREP := Lib.hid (fun cc => repeat_p (c := cc) ih ha HE.out (HV.out.ext hx))
    unfold RetMine at HREP
    have HX := Lib.hid hx
    clear hb1 hk hx ha
    gi_wp2_with (refine ⟨trivial, ?_⟩; gi_at_call 92; (with_reducible refine (callsIn_wide.2 (HREP.out _)).mono ?_); rintro e1 w2 ⟨v2, q2, Γ2, rfl, hi2, hx2, hm2, hle2, hq2⟩; have HI2 := Lib.hid hi2; have HX2 := Lib.hid hx2; have HM2 := Lib.hid hm2; have HLE2 := Lib.hid hle2; have HQ2 := Lib.hid hq2; clear hi2 hx2 hm2 hle2 hq2)
    have hw := HX.out.below.size
    exact ⟨_, results_tmp rfl _ _ _, v2, q2, Γ2, rfl, HI2.out, HX.out.trans HX2.out, ⟨HM2.out.pl.lower hw, HM2.out.free⟩, HLE2.out, HQ2.out⟩
  · have hai : ¬ ((a : Int) ≤ (xs.length : Int)) := by omega
    go_quiet (fail)
    gi_wp2_with (refine ⟨trivial, ?_⟩; first
      | (gi_at_call 64; refine (callsIn_wide.2 (HNW.out _)).mono ?_; rintro e1 w2 ⟨v2, rfl, hv2, hb2⟩; obtain ⟨gf, cf, rfl, hgf1, hgf2⟩ := hv2.form hm0; have HV2 := Lib.hid hv2; clear hv2)
      | (gi_at_call 91; refine (all_in _ _ _ _ _).mono ?_; rintro e1 w3 ⟨rfl, rfl⟩))
    have hbq := below_drewN HB2.out nq
    generalize hgW1 : ((w.alloc (.cells #[.pointer (some ⟨g, o, none⟩)] 141)).alloc (.cells #[.slice A xs.length c] 22)).drewN nq = W1 at *
    have s1 : W1.heap.size = w.heap.size + 2 := by rw [← hgW1]; simp
    have z0 : W1.heap[w.heap.size]? = some (.cells #[.pointer (some ⟨g, o, none⟩)] 141 (0, 0)) := by
      rw [← hgW1]
      exact (Below.heap_alloc _ _ _ (by simp)).trans (World.alloc_heap_new w _)
    have z1 : W1.heap[w.heap.size + 1]? = some (.cells #[.slice A xs.length c] 22 (0, 0)) := by
      rw [← hgW1]
      have := World.alloc_heap_new (w.alloc (.cells #[.pointer (some ⟨g, o, none⟩)] 141)) (.cells #[.slice A xs.length c] 22)
      rwa [World.size_alloc] at this
    have hs2 := hb2.size
    rw [s1] at hs2 hgf1
    have y0 := (hb2.block w.heap.size (by omega)).trans z0
    have y1 := (hb2.block (w.heap.size + 1) (by omega)).trans z1
    have hBw2 : Below w.heap.size w w2 := hbq.trans (hb2.mono (by omega))
    obtain ⟨W5, hW5⟩ : ∃ W5, W5 = ((w2.alloc (.cells #[.slice (some ⟨gf, 0, none⟩) (xs.length / 64 + 1) cf] 97)).alloc (.cells #[.slice (some ⟨gs, 0, none⟩) (xs.length / 64 + 1) cs] 97)) := ⟨_, rfl⟩
    rw [← hW5]
    have s5 : W5.heap.size = w2.heap.size + 2 := by rw [hW5]; simp
    have b25 : Below w2.heap.size w2 W5 := by rw [hW5]; exact ((Below.refl _ _).alloc (Nat.le_refl _) _).alloc (by simp) _
    have hB5 : Below w.heap.size w W5 := hBw2.trans (b25.mono (by omega))
    have x0 := (b25.block w.heap.size (by omega)).trans y0
    have x1 := (b25.block (w.heap.size + 1) (by omega)).trans y1
    have x2 : W5.heap[w2.heap.size]? = some (.cells #[.slice (some ⟨gf, 0, none⟩) (xs.length / 64 + 1) cf] 97 (0, 0)) := by
      rw [hW5]
      exact (Below.heap_alloc _ _ _ (by simp)).trans (World.alloc_heap_new w2 _)
    have q3 : W5.cell? ⟨w2.heap.size + 1, 0, none⟩ = some (.slice (some ⟨gs, 0, none⟩) (xs.length / 64 + 1) cs) := by
      rw [hW5]
      have := World.cell?_alloc_new (w2.alloc (.cells #[.slice (some ⟨gf, 0, none⟩) (xs.length / 64 + 1) cf] 97)) #[.slice (some ⟨gs, 0, none⟩) (xs.length / 64 + 1) cs] 97 0
      rw [World.size_alloc] at this
      exact this
    have hmine5 : Mine w W5 B Γ (.slice (some ⟨gf, 0, none⟩) (xs.length / 64 + 1) cf) (xs.length / 64 + 1) noneP := Mine.new HH.out.inv ((HV2.out.stays b25).lower (by rw [s1]; omega)) (Nat.le_refl _)
    have hv5 := HV.out.stays hB5
    have hask5 := HH.out.stays hB5
    have HA5 := Lib.hid hask5
    have HB5 := Lib.hid hB5
    have HM5 := Lib.hid hmine5
    have HX0 := Lib.hid x0
    have HX1 := Lib.hid x1
    have HX2 := Lib.hid x2
    have hq := all_stops 2 (by omega) (w2.heap.size + 1) gs (xs.length / 64 + 1) cs 0 q hm W5 (by omega) q3 hv5.pl (by omega) HA5.out.tab
    have e1 := enters_of Tryd.func98 (by kernel_rfl) rfl
    have hkb := kpw_b (w := W5) (g := gs) (by omega) HA5.out.tab.1
    obtain ⟨I, hI⟩ : ∃ I : List (UpAt q (64 * (xs.length / 64 + 1))) → World → Prop, I = (fun pre W => ∃ Γ' q', InvM W B xs Γ' ∧ Ext B w W Γ Γ' ∧ Mine w W B Γ' (.slice (some ⟨gf, 0, none⟩) (xs.length / 64 + 1) cf) (xs.length / 64 + 1) q' ∧ (∀ x, q' x = true ↔ ∃ y, y ∈ pre ∧ E xs (.mk 4 noneP ln hn [u]) y.1 x) ∧ (∀ b, (b = w.heap.size ∨ b = w.heap.size + 1 ∨ b = w2.heap.size) → W.heap[b]? = W5.heap[b]?) ∧ W5.heap.size ≤ W.heap.size ∧ ∀ t, Γ'.G w2.heap.size ≠ some t) := ⟨_, rfl⟩
    have hI1 : OwnFrom W5.heap.size I := by
      rw [hI]
      rintro pre W W' row ⟨Γ', q', i1, i2, i3, i4, i5, i6, i7⟩ hg hr
      have hr2 : ∀ r, row = some r → ∃ o : Obj, W.heap[r]? = some o ∧ o.isCells = false := fun r e => (hr r e).2
      refine ⟨Γ', q', i1.turn hg hr2, i2.turn i1 hg HH.out.le (fun r e => ⟨by have := (hr r e).1; omega, hr2 r e⟩), i3.turn hg hr2, i4, fun b hb => (hg.block b (by omega) (fun er => by have := (hr b er.symm).1; omega)).trans (i5 b hb), Nat.le_trans i6 hg.size, i7⟩
    have hI0 : I [] W5 := by
      rw [hI]
      refine ⟨Γ, noneP, HA5.out.inv, Ext.stays Γ HB5.out HH.out.le, HM5.out, fun x => by simp [noneP], fun _ _ => rfl, Nat.le_refl _, fun t ht => ?_⟩
      have := HH.out.inv.inv.oldG ht
      omega
    have HI := Lib.hid (fun _ : Unit => hI)
    clear hI hW5 z0 z1 y0 y1 x0 x1 x2 hgW1 hb2 hbq hBw2 b25 hB5 hmine5 hv5 hask5 k2 hfz hpb
    refine wpIn_rangeFunc_ownG (F := Fence.wide) (n := 3) rfl (by decide) (gf := 98) (lb := #[.pointer (some ⟨w2.heap.size + 1, 0, none⟩)]) rfl trivial e1 hq KpW.trans hkb (Below.refl _ _) (fun _ => rfl)
      I (fun _ _ _ => False) hI1 (fun _ _ _ _ _ hs _ _ => hs) hI0
      (fun x => { tmps := #[.pointer (some ⟨g, o, none⟩), .slice A xs.length c, .slice (some ⟨gs, 0, none⟩) (xs.length / 64 + 1) cs, .pointer (some ⟨w.heap.size, 0, none⟩), .pointer (some ⟨w.heap.size + 1, 0, none⟩), undef, .slice none 0 0, .pointer (some ⟨w2.heap.size, 0, none⟩), .int .i64 (x.1 : Int), .pointer (some ⟨g, o, none⟩), .pointer (some ⟨g, o, none⟩), .pointer (some ⟨g, o + 2, none⟩), .int .i64 a, .slice A xs.length c, .int .i64 xs.length, .bool false, undef, undef, undef, undef, undef, undef, undef, undef, undef, undef, undef, .slice A xs.length c, .int .i64 xs.length, .slice (some ⟨gf, 0, none⟩) (xs.length / 64 + 1) cf, .slice (some ⟨gs, 0, none⟩) (xs.length / 64 + 1) cs, .func (.func 98) #[] #[.pointer (some ⟨w2.heap.size + 1, 0, none⟩)], .int .i64 (x.1 : Int), undef, undef, undef, undef, undef, undef, undef], defers := [] }) ?assign ?body ?done ?stop
    case assign =>
      clear hI0 hI1 hq hkb e1
      intro l x W K hK
      gi_wp2
      exact hK
    case body =>
      clear hI0 hI1 hq hkb e1
      intro l pre x W hi hlt
      rw [HI.out ()] at hi
      obtain ⟨Γ1, q1, i1, i2, i3, i4, i5, i6, i7⟩ := hi
      obtain ⟨y, hy⟩ : ∃ y : Nat, y = x.1 := ⟨_, rfl⟩
      rw [← hy]
      have hle : y ≤ xs.length := HV.out.le y (by rw [hy]; exact x.2.2)
      have c3 : W.cell? ⟨w.heap.size, 0, none⟩ = some (.pointer (some ⟨g, o, none⟩)) := by
        have := (i5 w.heap.size (by simp)).trans HX0.out
        simp [World.cell?, this]
      have c4 : W.cell? ⟨w.heap.size + 1, 0, none⟩ = some (.slice A xs.length c) := by
        have := (i5 (w.heap.size + 1) (by simp)).trans HX1.out
        simp [World.cell?, this]
      have c7 : W.cell? ⟨w2.heap.size, 0, none⟩ = some (.slice (some ⟨gf, 0, none⟩) (xs.length / 64 + 1) cf) := by
        have := (i5 w2.heap.size (by simp)).trans HX2.out
        simp [World.cell?, this]
      have hdr : Below W.heap.size W W.drew := (Below.refl _ _).drew
      have hleW : B ≤ W.heap.size := Nat.le_trans HH.out.le i2.below.size
      have hask := (HH.out.ext i2 i1).stays hdr
      have htf := timesFrom_p (c := c) ih hask (i2.F _ _ _ HE.out) hle
      unfold RetEndsP at htf
      have HTF := Lib.hid htf
      have HI1 := Lib.hid i1
      have HI2 := Lib.hid i2
      have HI3 := Lib.hid i3
      have HI4 := Lib.hid i4
      have HI5 := Lib.hid i5
      have HI7 := Lib.hid i7
      have HLW := Lib.hid hleW
      have HDR := Lib.hid hdr
      have HY := Lib.hid (fun _ : Unit => hy)
      clear i1 i2 i3 i4 i5 i7 hdr hask htf hy hleW hlt
      have hd : 1 ≤ 3 - 1 - 1 := by decide
      gi_wp2
      refine wpIn_region_any hmx (wpAnyIn_of_wide (by kernel_rfl) (by rintro ⟨_, _, h⟩; exact h) _ _ _ _ (wpAny_of_held (S := fun w' => w'.cell? ⟨w2.heap.size, 0, none⟩ = some (.slice (some ⟨gf, 0, none⟩) (xs.length / 64 + 1) cf) ∧ w'.cell? ⟨w.heap.size, 0, none⟩ = some (.pointer (some ⟨g, o, none⟩)) ∧ w'.cell? ⟨w.heap.size + 1, 0, none⟩ = some (.slice A xs.length c)) _ _ _ _ ?_))
      change wpAnyH _ _ _ _ _ _ _ _ (World.drew _)
      refine wpAnyH_take (i := 0) (v := .slice (some ⟨gf, 0, none⟩) (xs.length / 64 + 1) cf) rfl (by kernel_rfl) (by kernel_rfl) (by kernel_rfl) (fun _ _ _ h => h) (Or.inl ⟨by rfl, fun w' hS => by obtain ⟨t1, t2, t3⟩ := hS; go_simp⟩) ⟨c7, c3, c4⟩ ?_
      refine wpAnyH_take (i := 1) (v := .pointer (some ⟨g, o, none⟩)) rfl (by kernel_rfl) (by kernel_rfl) (by kernel_rfl) (fun _ _ _ h => h) (Or.inl ⟨by rfl, fun w' hS => by obtain ⟨t1, t2, t3⟩ := hS; go_simp⟩) ⟨c7, c3, c4⟩ ?_
      refine wpAnyH_take (i := 2) (v := .slice A xs.length c) rfl (by kernel_rfl) (by kernel_rfl) (by kernel_rfl) (fun _ _ _ h => h) (Or.inl ⟨by rfl, fun w' hS => by obtain ⟨t1, t2, t3⟩ := hS; go_simp⟩) ⟨c7, c3, c4⟩ ?_
      refine wpAnyH_take (i := 3) (v := .int .i64 (y : Int)) rfl (by kernel_rfl) (by kernel_rfl) (by kernel_rfl) (fun _ _ _ h => h) (Or.inl ⟨by rfl, fun w' hS => by go_simp⟩) ⟨c7, c3, c4⟩ ?_
      refine wpAnyH_ready (rs := [4]) (by kernel_rfl) (by simp) (AllReadyH.cons rfl (fun K hK => ?_) AllReadyH.nil)
      go_simp
      go_at_call 93
      with_reducible refine HTF.out.mono ?_
      rintro e1 wa ⟨v2, q2, Γ2, rfl, hi2, hx2, hv2, hq2⟩
      have b0 := (hx2.still w.heap.size (still_of (w := W.drew) ((HI5.out w.heap.size (by simp)).trans HX0.out) (by decide) (by decide))).trans ((HI5.out w.heap.size (by simp)).trans HX0.out)
      have b1 := (hx2.still (w.heap.size + 1) (still_of (w := W.drew) ((HI5.out (w.heap.size + 1) (by simp)).trans HX1.out) (by decide) (by decide))).trans ((HI5.out (w.heap.size + 1) (by simp)).trans HX1.out)
      have b2 := (hx2.box w2.heap.size _ ((HI5.out w2.heap.size (by simp)).trans HX2.out) HI7.out).trans ((HI5.out w2.heap.size (by simp)).trans HX2.out)
      have HXB := Lib.hid ((HI2.out.trans (Ext.stays Γ1 HDR.out HLW.out)).trans hx2)
      have HMA := Lib.hid ((HI3.out.kept HDR.out).ext hx2)
      have HI2' := Lib.hid hi2
      have HX2' := Lib.hid hx2
      have HV2' := Lib.hid hv2
      have HQ2' := Lib.hid hq2
      have HB0 := Lib.hid b0
      have HB1 := Lib.hid b1
      have HB2' := Lib.hid b2
      clear hi2 hx2 hv2 hq2 b0 b1 b2
      refine hK.out _ _ ⟨by simp [World.cell?, HB2'.out], by simp [World.cell?, HB0.out], by simp [World.cell?, HB1.out]⟩ (fun hHeld => ?_)
      clear hHeld hK K
      have hjo := pljoin_p wa w.heap.size 0 (xs.length / 64 + 1) _ _ q1 q2 HMA.out.pl HV2'.out.pl HXB.out.below.size hm0 hm
      unfold RetOwn at hjo
      have HJO := Lib.hid hjo
      clear hjo
      refine wpAnyH_ready (rs := [5]) (by kernel_rfl) (by simp) (AllReadyH.cons rfl (fun K hK => ?_) AllReadyH.nil)
      go_simp
      go_at_call 65
      with_reducible refine HJO.out.mono ?_
      rintro e1 wb ⟨rfl, hv7, hg7⟩
      obtain ⟨j1, j2, j3⟩ := HMA.out.set hm0 HI2'.out HXB.out hv7 hg7 HH.out.le
      have hrow : ∀ j, (Value.slice (some ⟨gf, 0, none⟩) (xs.length / 64 + 1) cf).ownBlock = some j → j = gf := fun j e => by cases e; rfl
      have hblk : ∀ b, b < wa.heap.size → b ≠ gf → wb.heap[b]? = wa.heap[b]? := fun b h1 h2 => hg7.block b h1 (fun e => h2 (hrow b e.symm))
      have hsa := HX2'.out.below.size
      have hsa' : W.heap.size ≤ wa.heap.size := hsa
      have k0 := (hblk w.heap.size (by omega) (by omega)).trans HB0.out
      have k1 := (hblk (w.heap.size + 1) (by omega) (by omega)).trans HB1.out
      have k2 := (hblk w2.heap.size (by omega) (by omega)).trans HB2'.out
      refine hK.out _ _ ⟨by simp [World.cell?, k2], by simp [World.cell?, k0], by simp [World.cell?, k1]⟩ (fun hHeld => ?_)
      clear hHeld hK K
      refine wpAnyH_done (by kernel_rfl) ?_ _
      have htB := HH.out.tabB
      have hleB := HH.out.le
      have hgsb : ∃ cur, W.heap[gs]? = some (.cells cur 24 (0, 0)) := by
        rcases (HV.out.ext HI2.out).pl.2 with ⟨e, _⟩ | ⟨g', cap', cur, e, _, hg', _⟩
        · cases e
        · injection e with e
          injection e with e
          injection e with e
          rw [← e] at hg'
          exact ⟨cur, hg'⟩
      obtain ⟨curs, hgsb⟩ := hgsb
      refine ⟨(((KeepsOthers.drew W).from _).trans (keeps_ext HX2'.out)).trans (KeepsFrom.of_grownBy hg7 fun j e => by have := hrow j e; omega), ⟨Nat.le_trans hsa' hg7.size, (hblk gs (by omega) (by omega)).trans (HX2'.out.still gs (still_of (w := W.drew) hgsb (by decide) (by decide))), (hblk _ (by omega) (by omega)).trans (HX2'.out.below.block _ htB)⟩, ?_⟩
      rw [HI.out ()]
      refine ⟨Γ2, orP q1 q2, j1, j2, j3, fun z => ?_, fun b hb => ?_, Nat.le_trans i6 (Nat.le_trans hsa' hg7.size), fun t ht => ?_⟩
      · have e1 := HI4.out z
        have e2 := HQ2'.out z
        simp only [orP, Bool.or_eq_true, e1, e2, List.mem_append, List.mem_singleton]
        constructor
        · rintro (⟨y', h1, h2⟩ | h2)
          · exact ⟨y', .inl h1, h2⟩
          · exact ⟨x, .inr rfl, by rw [← HY.out ()]; exact h2⟩
        · rintro ⟨y', h1 | h1, h2⟩
          · exact .inl ⟨y', h1, h2⟩
          · subst h1
            exact .inr (by rw [HY.out ()]; exact h2)
      · rcases hb with rfl | rfl | rfl
        · exact k0.trans HX0.out.symm
        · exact k1.trans HX1.out.symm
        · exact k2.trans HX2.out.symm
      · rcases HX2'.out.newG _ _ ht with h1 | h1
        · exact HI7.out t h1
        · have h2 : W.heap.size ≤ w2.heap.size := h1
          omega
    case done =>
      clear hI0 hI1 hq hkb e1
      intro D ys W hD hys hi hK
      rw [HI.out ()] at hi
      obtain ⟨Γ1, q1, i1, i2, i3, i4, i5, i6, i7⟩ := hi
      have r2 : W.cell? ⟨w2.heap.size, 0, none⟩ = some (.slice (some ⟨gf, 0, none⟩) (xs.length / 64 + 1) cf) := by
        have := (i5 w2.heap.size (by simp)).trans HX2.out
        simp [World.cell?, this]
      have HK := Lib.hid hK
      have HI1 := Lib.hid i1
      have HI2 := Lib.hid i2
      have HI3 := Lib.hid i3
      have HI4 := Lib.hid i4
      have HYS := Lib.hid (fun _ : Unit => hys)
      clear hK i1 i2 i3 i4 i5 i7 hys
      gi_wp2
      refine ⟨by simp, .inl ⟨_, _, rfl, run_takeDeferred HK.out, ?_⟩⟩
      have hgo := grownBy_putObj' W D (.deferred none)
      have hrow : ∀ r, some D = some r → ∃ o : Obj, W.heap[r]? = some o ∧ o.isCells = false := fun r e => by cases e; exact ⟨_, HK.out, rfl⟩
      have hwf := (HH.out.inv.inv.part g o _ HE.out).2.wf
      have hiff : ∀ x, q1 x = true ↔ img (E xs (.mk 4 noneP ln hn [u])) (fun i => q i = true) x := fun x => by
        rw [HI4.out x]
        constructor
        · rintro ⟨y, _, hE⟩
          exact ⟨y.1, y.2.2, hE⟩
        · rintro ⟨i, hqi, hE⟩
          have hil := HV.out.le i hqi
          have hmem : i ∈ ys.map (·.1) := by rw [HYS.out ()]; exact upP_mem.2 ⟨by omega, hqi⟩
          obtain ⟨y, hy, rfl⟩ := List.mem_map.1 hmem
          exact ⟨y, hy, hE⟩
      refine ⟨_, results_tmp rfl _ _ _, .slice (some ⟨gf, 0, none⟩) (xs.length / 64 + 1) cf, q1, Γ1, rfl, HI1.out.turn hgo hrow, HI2.out.turn HI1.out hgo HH.out.le (fun r e => ⟨by cases e; have := HB5.out.size; omega, hrow r e⟩), HI3.out.turn hgo hrow, fun x hx => ?_, hiff⟩
      obtain ⟨i, hqi, hE⟩ := (hiff x).1 hx
      exact (E_bd hwf i x (HV.out.le i hqi) hE).2
    case stop =>
      rintro D c pre W _ _ h _
      exact h.elim

end Go.Proofs.YtccbeimcggamiaaDoor

/-
  What Has of package set does, whatever it is called with. Contracts for other texts; no statement of its own.
-/
namespace Go.Proofs.YtccbeimcggamiaaDoor
open Go Go.RowKit
attribute [local go_sem ↓] Go.wp_at_zero Go.wp_at_succ

set_option maxHeartbeats 400000 in
theorem has_p (p : Nat → Bool) (b : Int) (w : World) (hb : 0 ≤ b) (hb' : b ≤ 255) :
    Calls Tryd.prog 33 #[.agg #[.int .u64 (word p 0), .int .u64 (word p 1), .int .u64 (word p 2), .int .u64 (word p 3)], .int .u8 b] w fun e w' => e = .returned (.bool (p b.toNat)) ∧ Below w.heap.size w w' := by
  have hv := words_at p b hb hb'
  have H := has_bits p b hb hb'
  rw [← H]
  clear H
  go_enter Tryd.func33, Tryd.ntmps33
  go_wp2
  go_ret
  exact ⟨rfl, (Below.refl _ _).alloc (Nat.le_refl _) _⟩

end Go.Proofs.YtccbeimcggamiaaDoor

/-
  lang.part.behind. Contracts for other texts; no statement of its own.
-/
namespace Go.Proofs.YtccbeimcggamiaaDoor
open Go Go.RowKit Go.Shelf
attribute [local go_sem] Oper.semAt_some

/-- Where a single byte of p ends that begins at y. -/
def hitP (p : Nat → Bool) (xs : List Int) (y x : Nat) : Bool := decide (y < xs.length) && p (xs.getD y 0).toNat && x == y + 1

set_option maxRecDepth 20000 in
set_option maxHeartbeats 2000000 in
theorem behind_p {w : World} {B c : Nat} {xs : List Int} {A : Option Addr} {Γ : Ghost} {g o : Nat} {t : T} {v : Value} {q : Nat → Bool} (h : Ask w B xs A Γ) (e : Γ.F g o = some t) (h1 : t.op = 1) (hv : InW w xs v q) :
    Calls Tryd.prog 61 #[.pointer (some ⟨g, o, none⟩), .slice A xs.length c, v] w (RetMine B w xs Γ (img (E xs t) fun i => q i = true)) := by
  have hm : xs.length / 64 + 1 ≤ 1000000 := by have := h.len; omega
  obtain ⟨gs, cs, rfl, _, hgs⟩ := hv.pl.form (by omega)
  have hp := (h.inv.inv.part g o t e).2
  obtain ⟨gn, on, kn, n1, n2, n3, curn, n4⟩ := hp.node
  obtain ⟨curp, hpb⟩ := hp.block
  have hlen := h.len
  have HH := Lib.hid h
  have HV := Lib.hid hv
  have HN2 := Lib.hid n2
  have HNW := Lib.hid (fun w => nowhere_p w xs.length (by omega))
  unfold RetPl at HNW
  generalize hM : xs.length / 64 + 1 = m at *
  have HM := Lib.hid (fun _ : Unit => hM)
  have hm0 : 0 < m := by omega
  refine (callsIn_wide (n := 3)).1 ?_
  refine callsIn_of_wp_marks Tryd.func61 rfl trivial ?_ rfl
  simp only [Tryd.ntmps61, List.size_toArray, List.length_cons, List.length_nil, Nat.reduceAdd, Nat.reduceSub, Array.replicate_succ, Array.replicate_zero, List.push_toArray, List.append_toArray, List.nil_append, List.cons_append]
  clear h hv n2 n3 hp hM
  gi_wp2_with (refine ⟨trivial, ?_⟩; first
    | (gi_at_call 64; refine (callsIn_wide.2 (HNW.out _)).mono ?_; rintro e1 w2 ⟨v2, rfl, hv2, hb2⟩; obtain ⟨gf, cf, rfl, hgf1, hgf2⟩ := hv2.form hm0; have HV2 := Lib.hid hv2; clear hv2)
    | (gi_at_call 91; refine (all_in _ _ _ _ _).mono ?_; rintro e1 w3 ⟨rfl, rfl⟩))
  have s0 : (w.alloc (.cells #[.pointer (some ⟨g, o, none⟩)] 141)).heap.size = w.heap.size + 1 := by simp
  have s1 : ((w.alloc (.cells #[.pointer (some ⟨g, o, none⟩)] 141)).alloc (.cells #[.slice A xs.length c] 22)).heap.size = w.heap.size + 2 := by simp
  have p0 : w2.cell? ⟨w.heap.size, 0, none⟩ = some (.pointer (some ⟨g, o, none⟩)) := by
    rw [hb2.cell (p := ⟨w.heap.size, 0, none⟩) (by rw [s1]; show w.heap.size < _; omega)]
    simp [World.cell?_alloc_new]
  have p1 : w2.cell? ⟨w.heap.size + 1, 0, none⟩ = some (.slice A xs.length c) := by
    rw [hb2.cell (p := ⟨w.heap.size + 1, 0, none⟩) (by rw [s1]; show w.heap.size + 1 < _; omega)]
    have := World.cell?_alloc_new (w.alloc (.cells #[.pointer (some ⟨g, o, none⟩)] 141)) #[.slice A xs.length c] 22 0
    rw [World.size_alloc] at this
    exact this
  have hB2 : Below w.heap.size w w2 := ((((Below.refl _ _).alloc (Nat.le_refl _) _).alloc (by simp) _)).trans (hb2.mono (by rw [s1]; omega))
  have hs2 := hb2.size
  rw [s1] at hs2 hgf1
  obtain ⟨W5, hW5⟩ : ∃ W5, W5 = ((w2.alloc (.cells #[.slice (some ⟨gf, 0, none⟩) m cf] 97)).alloc (.cells #[.slice (some ⟨gs, 0, none⟩) m cs] 97)) := ⟨_, rfl⟩
  rw [← hW5]
  have s5 : W5.heap.size = w2.heap.size + 2 := by rw [hW5]; simp
  have b25 : Below w2.heap.size w2 W5 := by rw [hW5]; exact ((Below.refl _ _).alloc (Nat.le_refl _) _).alloc (by simp) _
  have hB5 : Below w.heap.size w W5 := hB2.trans (b25.mono (by omega))
  have q0 : W5.cell? ⟨w.heap.size, 0, none⟩ = some (.pointer (some ⟨g, o, none⟩)) := (b25.cell (p := ⟨w.heap.size, 0, none⟩) (by show w.heap.size < _; omega)).trans p0
  have q1 : W5.cell? ⟨w.heap.size + 1, 0, none⟩ = some (.slice A xs.length c) := (b25.cell (p := ⟨w.heap.size + 1, 0, none⟩) (by show w.heap.size + 1 < _; omega)).trans p1
  have q2 : W5.cell? ⟨w2.heap.size, 0, none⟩ = some (.slice (some ⟨gf, 0, none⟩) m cf) := by rw [hW5]; simp
  have q3 : W5.cell? ⟨w2.heap.size + 1, 0, none⟩ = some (.slice (some ⟨gs, 0, none⟩) m cs) := by
    rw [hW5]
    have := World.cell?_alloc_new (w2.alloc (.cells #[.slice (some ⟨gf, 0, none⟩) m cf] 97)) #[.slice (some ⟨gs, 0, none⟩) m cs] 97 0
    rw [World.size_alloc] at this
    exact this
  have hpl5 : Pl W5 w.heap.size (.slice (some ⟨gf, 0, none⟩) m cf) m noneP := (HV2.out.stays b25).lower (by rw [s1]; omega)
  have hask5 := HH.out.stays hB5
  have hv5 := HV.out.stays hB5
  have HP5 := Lib.hid hpl5
  have HA5 := Lib.hid hask5
  have HB5 := Lib.hid hB5
  have hpv5 : Pl W5 0 (.slice (some ⟨gs, 0, none⟩) m cs) m q := by have h5 := hv5.pl; rwa [HM.out ()] at h5
  clear hW5 p0 p1 hpl5 hask5 hv5 b25 hB2 hb2 s0 s1
  have hq := all_stops 2 (by omega) (w2.heap.size + 1) gs m cs 0 q hm W5 (by omega) q3 hpv5 (by omega) HA5.out.tab
  have e1 := enters_of Tryd.func98 (by kernel_rfl) rfl
  have hkb := kpw_b (w := W5) (g := gs) (by omega) HA5.out.tab.1
  obtain ⟨I, hI⟩ : ∃ I : List (UpAt q (64 * m)) → World → Prop, I = (fun pre W => (∀ b, b < W5.heap.size → b ≠ gf → W.heap[b]? = W5.heap[b]?) ∧ Below w.heap.size w W ∧ W5.heap.size ≤ W.heap.size ∧ Pl W w.heap.size (.slice (some ⟨gf, 0, none⟩) m cf) m (foldP (fun y => hitP t.set xs y.1) pre)) := ⟨_, rfl⟩
  have hI1 : OwnFrom W5.heap.size I := by
    rw [hI]
    exact fun pre W W' row hs hg hr => ⟨fun b hb hne => (hg.block b (Nat.lt_of_lt_of_le hb hs.2.2.1) (fun er => by have := (hr b er.symm).1; omega)).trans (hs.1 b hb hne), hs.2.1.grown hg hs.2.1.size (fun k e => Nat.le_trans HB5.out.size (hr k e).1), Nat.le_trans hs.2.2.1 hg.size, hs.2.2.2.turn (turn_cells hg (fun r er => (hr r er).2))⟩
  have hI0 : I [] W5 := by
    rw [hI]
    exact ⟨fun _ _ _ => rfl, HB5.out, Nat.le_refl _, HP5.out⟩
  have HI := Lib.hid (fun _ : Unit => hI)
  clear hI
  refine wpIn_rangeFunc_ownG (F := Fence.wide) (n := 3) rfl (by decide) (gf := 98) (lb := #[.pointer (some ⟨w2.heap.size + 1, 0, none⟩)]) rfl trivial e1 hq KpW.trans hkb (Below.refl _ _) (fun _ => rfl)
    I (fun _ _ _ => False) hI1 (fun _ _ _ _ _ hs _ _ => hs) hI0
    (fun x => { tmps := #[.pointer (some ⟨g, o, none⟩), .slice A xs.length c, .slice (some ⟨gs, 0, none⟩) m cs, .pointer (some ⟨w.heap.size, 0, none⟩), .pointer (some ⟨w.heap.size + 1, 0, none⟩), undef, .slice none 0 0, .pointer (some ⟨w2.heap.size, 0, none⟩), .int .i64 (x.1 : Int), .slice A xs.length c, .int .i64 xs.length, .slice (some ⟨gf, 0, none⟩) m cf, .slice (some ⟨gs, 0, none⟩) m cs, .func (.func 98) #[] #[.pointer (some ⟨w2.heap.size + 1, 0, none⟩)], .int .i64 (x.1 : Int), undef, undef, undef, undef, undef, undef, undef, undef, undef, undef, undef, undef, undef, undef, undef, undef, undef, undef, undef, undef, undef, undef, undef], defers := [] }) ?assign ?body ?done ?stop
  case assign =>
    clear hI0 hI1 hq hkb e1
    intro l x W K hK
    gi_wp2
    exact hK
  case body =>
    clear hI0 hI1 hq hkb e1
    intro l pre x W hi hlt
    rw [HI.out ()] at hi
    obtain ⟨hI1, hIB, hI2, hI3⟩ := hi
    have old : ∀ b o', b < W5.heap.size → b ≠ gf → W.cell? ⟨b, o', none⟩ = W5.cell? ⟨b, o', none⟩ := fun b o' h1 h2 => World.cell?_of_block (w := W5) (a := ⟨b, o', none⟩) (hI1 b h1 h2)
    have c3 := (old w.heap.size 0 (by omega) (by omega)).trans q0
    have c4 := (old (w.heap.size + 1) 0 (by omega) (by omega)).trans q1
    have c7 := (old w2.heap.size 0 (by omega) (by omega)).trans q2
    have HI1 := Lib.hid hI1
    have HIB := Lib.hid hIB
    have HI3 := Lib.hid hI3
    have HLT := Lib.hid hlt
    obtain ⟨y, hy⟩ : ∃ y : Nat, y = x.1 := ⟨_, rfl⟩
    rw [← hy]
    have HY := Lib.hid (fun _ : Unit => hy)
    have hx1 : y < 64 * m := by rw [hy]; exact x.2.1
    have hle : y ≤ xs.length := HV.out.le y (by rw [hy]; exact x.2.2)
    have hsn : ∀ z, foldP (fun y : UpAt q (64 * m) => hitP t.set xs y.1) (pre ++ [x]) z = (foldP (fun y : UpAt q (64 * m) => hitP t.set xs y.1) pre z || hitP t.set xs y z) := fun z => by rw [hy]; exact foldP_snoc _ _ _ _
    have HSN := Lib.hid hsn
    have HOLD := Lib.hid old
    clear old
    clear hI1 hIB hI3 hlt hy hsn q0 q1 q2 q3 hpv5
    have hd : 1 ≤ 3 - 1 - 1 := by decide
    have hmx : Tryd.prog.follows .mixedOrders = true := by kernel_rfl
    obtain ⟨L, hL⟩ : ∃ L : Nat, L = xs.length := ⟨_, rfl⟩
    rw [← hL] at hle c4 ⊢
    have HL := Lib.hid (fun _ : Unit => hL)
    have HLE := Lib.hid hle
    have HX1 := Lib.hid hx1
    clear hlen hL hle hx1
    by_cases hyl : y < L
    · have hyi : (y : Int) < (L : Int) := by omega
      have hyi0 : (0 : Int) ≤ (y : Int) := by omega
      have hrd := HH.out.rd.below (HIB.out.mono HH.out.le)
      have hl := HL.out ()
      obtain ⟨b, off, hA, hbB, hcb⟩ := hrd.at (k := y) (by omega)
      obtain ⟨y0, y1⟩ := HH.out.byte y (by omega)
      have hby := hcb y (by omega)
      have hHK := fun W' => has_p t.set (xs.getD y 0) W' y0 y1
      have hadd : ∀ W' q', Pl W' w.heap.size (.slice (some ⟨gf, 0, none⟩) m cf) m q' → Calls Tryd.prog 67 #[.slice (some ⟨gf, 0, none⟩) m cf, .int .i64 ((y : Int) + 1)] W' (RetOwn W' w.heap.size m (.slice (some ⟨gf, 0, none⟩) m cf) (add1 q' (y + 1))) := fun W' q' hq' => by
        have := pladd_p W' w.heap.size m (y + 1) _ q' hq' (by have h1 := HM.out (); omega) hm
        rwa [show ((y + 1 : Nat) : Int) = (y : Int) + 1 by omega] at this
      unfold RetOwn at hadd
      have HADD := Lib.hid hadd
      generalize hby0 : xs.getD y 0 = x0 at *
      have HBY := Lib.hid (fun _ : Unit => hby0)
      have hgw := lt_of_some hpb
      have hgnw := lt_of_some n4
      have d0 := (HIB.out.cell (p := ⟨g, o, none⟩) hgw).trans n1
      have hnb := HN2.out.block (HIB.out.block gn hgnw)
      have d1 := hnb 1 _ rfl
      have d2 := hnb 2 _ rfl
      have d3 := hnb 3 _ rfl
      have d4 := hnb 4 _ rfl
      have HHK := Lib.hid hHK
      subst hA
      have HHR := Lib.hid HH
      clear hrd hcb hHK hadd hby0 hnb HN2 n1 hl hpb n4 HA5 HB5
      cases hs : t.set x0.toNat
      · have HS := Lib.hid hs
        have HHK2 : Hid (∀ W', Calls Tryd.prog 33 #[.agg #[.int .u64 (word t.set 0), .int .u64 (word t.set 1), .int .u64 (word t.set 2), .int .u64 (word t.set 3)], .int .u8 x0] W' fun e w' => e = .returned (.bool false) ∧ Below W'.heap.size W' w') := fun W' => (HHK.out W').mono fun e w' k => by rw [HS.out] at k; exact k
        clear hs HHK
        gi_wp2
        refine wpIn_round_tail 16 hmx (by kernel_rfl) (by kernel_rfl) (by rintro ⟨_, _, h⟩; exact h) ?_
        simp only [List.take_succ_cons, List.take_zero, List.drop_succ_cons, List.drop_zero]
        iterate 16
          with_reducible refine wpStill_step (fun K hK => ?_)
          have HK := Lib.hid hK
          clear hK
          go_simp
          with_reducible refine HK.out _ ?_
          clear HK K
        with_reducible refine wpStill_nil ?_
        go_wp2_with (go_at_call 33; (with_reducible refine (HHK2.out _).mono ?_); rintro e w5 ⟨rfl, hb5⟩; have hb6 := undrew hb5; have HB6 := Lib.hid hb6; clear hb5 hb6)
        gi_wp2
        have hb6 := HB6.out
        refine ⟨keeps_below hb6, ⟨hb6.size, hb6.block gs (by omega), hb6.block _ (Nat.lt_of_lt_of_le HH.out.tab.1 HIB.out.size)⟩, ?_⟩
        rw [HI.out ()]
        refine ⟨fun b hb hne => (hb6.block b (by omega)).trans (HI1.out b hb hne), HIB.out.trans (hb6.mono HIB.out.size), Nat.le_trans hI2 hb6.size, (HI3.out.stays hb6).same fun z => ?_⟩
        rw [HSN.out, show hitP t.set xs y z = false by unfold hitP; rw [HBY.out (), HS.out]; simp, Bool.or_false]
      · have HS := Lib.hid hs
        have HHK2 : Hid (∀ W', Calls Tryd.prog 33 #[.agg #[.int .u64 (word t.set 0), .int .u64 (word t.set 1), .int .u64 (word t.set 2), .int .u64 (word t.set 3)], .int .u8 x0] W' fun e w' => e = .returned (.bool true) ∧ Below W'.heap.size W' w') := fun W' => (HHK.out W').mono fun e w' k => by rw [HS.out] at k; exact k
        clear hs HHK
        gi_wp2
        refine wpIn_round_tail 16 hmx (by kernel_rfl) (by kernel_rfl) (by rintro ⟨_, _, h⟩; exact h) ?_
        simp only [List.take_succ_cons, List.take_zero, List.drop_succ_cons, List.drop_zero]
        iterate 16
          with_reducible refine wpStill_step (fun K hK => ?_)
          have HK := Lib.hid hK
          clear hK
          go_simp
          with_reducible refine HK.out _ ?_
          clear HK K
        with_reducible refine wpStill_nil ?_
        go_wp2_with (go_at_call 33; (with_reducible refine (HHK2.out _).mono ?_); rintro e w5 ⟨rfl, hb5⟩; have hb6 := undrew hb5; have c7' := (hb6.cell (p := ⟨w2.heap.size, 0, none⟩) (by show w2.heap.size < _; omega)).trans c7; have HB6 := Lib.hid hb6; clear hb5 hb6)
        have hL1 : L ≤ 100000 := by have h1 := HH.out.len; have h2 := HL.out (); omega
        have HADD2 := Lib.hid (fun N => CallsIn.inRound l ((callsIn_wide (n := N)).2 (HADD.out w5 _ (HI3.out.stays HB6.out))))
        gi_wp2_with (refine ⟨trivial, ?_⟩; gi_at_call 67; (with_reducible refine (HADD2.out _).mono ?_); rintro e w6 ⟨rfl, hv6, hg6⟩; have HV6 := Lib.hid hv6; have HG6 := Lib.hid hg6; clear hv6 hg6)
        have hb6 := HB6.out
        have hg6 := HG6.out
        have hrow : ∀ j, (Value.slice (some ⟨gf, 0, none⟩) m cf).ownBlock = some j → j = gf := fun j e => by cases e; rfl
        have hblk : ∀ b, b < W.heap.size → b ≠ gf → w6.heap[b]? = W.heap[b]? := fun b h1 h2 => (hg6.block b (Nat.lt_of_lt_of_le h1 hb6.size) (fun e => h2 (hrow b e.symm))).trans (hb6.block b h1)
        have htab := HH.out.tab.1
        refine ⟨(keeps_below hb6).trans (KeepsFrom.of_grownBy hg6 fun j e => by have := hrow j e; omega), ⟨Nat.le_trans hb6.size hg6.size, hblk gs (by omega) (by omega), hblk _ (Nat.lt_of_lt_of_le htab HIB.out.size) (by omega)⟩, ?_⟩
        rw [HI.out ()]
        refine ⟨fun b hb hne => (hblk b (by omega) hne).trans (HI1.out b hb hne), (HIB.out.trans (hb6.mono HIB.out.size)).grown hg6 (Nat.le_trans HIB.out.size hb6.size) (fun k e => by have := hrow k e; omega), Nat.le_trans hI2 (Nat.le_trans hb6.size hg6.size), HV6.out.same fun z => ?_⟩
        have hl := HL.out ()
        rw [HSN.out, show hitP t.set xs y z = (z == y + 1) by unfold hitP; rw [HBY.out (), HS.out, ← hl]; simp [hyl]]
        rfl
    · have hyi : ¬ ((y : Int) < (L : Int)) := by omega
      have HYL := Lib.hid hyl
      clear hyl
      gi_wp2
      refine wpIn_round_tail 16 hmx (by kernel_rfl) (by kernel_rfl) (by rintro ⟨_, _, h⟩; exact h) ?_
      simp only [List.take_succ_cons, List.take_zero, List.drop_succ_cons, List.drop_zero]
      have hyn : ¬ y < L := HYL.out
      clear hyi
      iterate 16
        with_reducible refine wpStill_step (fun K hK => ?_)
        have HK := Lib.hid hK
        clear hK
        go_simp
        with_reducible refine HK.out _ ?_
        clear HK K
      with_reducible refine wpStill_nil ?_
      go_wp2
      gi_wp2
      refine ⟨(KeepsOthers.drew W).from _, ⟨Nat.le_refl _, rfl, rfl⟩, ?_⟩
      rw [HI.out ()]
      refine ⟨HI1.out, HIB.out.drew, hI2, HI3.out.same fun z => ?_⟩
      have hl := HL.out ()
      rw [HSN.out, show hitP t.set xs y z = false by unfold hitP; rw [← hl]; simp [hyn], Bool.or_false]
  case done =>
    clear hI0 hI1 hq hkb e1
    intro D ys W hD hys hi hK
    rw [HI.out ()] at hi
    obtain ⟨hI1, hIB, hI2, hI3⟩ := hi
    have r2 : W.cell? ⟨w2.heap.size, 0, none⟩ = some (.slice (some ⟨gf, 0, none⟩) m cf) := (World.cell?_of_block (w := W5) (a := ⟨w2.heap.size, 0, none⟩) (hI1 w2.heap.size (by omega) (by omega))).trans q2
    have HK := Lib.hid hK
    have HI1 := Lib.hid hI1
    have HIB := Lib.hid hIB
    have HI3 := Lib.hid hI3
    have HYS := Lib.hid (fun _ : Unit => hys)
    clear hK hI1 hI3 hys hIB
    gi_wp2
    refine ⟨by simp, .inl ⟨_, _, rfl, run_takeDeferred HK.out, ?_⟩⟩
    have hgo := grownBy_putObj' W D (.deferred none)
    have hrow : ∀ r, some D = some r → ∃ o : Obj, W.heap[r]? = some o ∧ o.isCells = false := fun r e => by cases e; exact ⟨_, HK.out, rfl⟩
    have hBw := HIB.out.grown hgo HIB.out.size (fun k e => by cases e; have := HB5.out.size; omega)
    refine ⟨_, results_tmp rfl _ _ _, .slice (some ⟨gf, 0, none⟩) m cf, foldP (fun y : UpAt q (64 * m) => hitP t.set xs y.1) ys, Γ, rfl, HH.out.inv.stays hBw, Ext.stays Γ hBw HH.out.le, ?_, ?_, ?_⟩
    · rw [HM.out ()]
      exact Mine.new HH.out.inv (HI3.out.turn (turn_cells hgo hrow)) (Nat.le_refl _)
    · intro z hz
      rw [foldP_up ys (HYS.out ())] at hz
      obtain ⟨i, _, _, hi⟩ := hz
      simp [hitP] at hi
      omega
    · intro z
      rw [foldP_up ys (HYS.out ())]
      have hM := HM.out ()
      cases t with
      | mk op p lo hi l =>
        have eo : op = 1 := h1
        subst eo
        simp only [img, E_one, hitP, T.set]
        constructor
        · rintro ⟨i, h1, h2, h3⟩
          simp at h3
          exact ⟨i, h2, h3.1.1, h3.1.2, h3.2⟩
        · rintro ⟨i, h2, h3, h4, h5⟩
          refine ⟨i, by omega, h2, ?_⟩
          simp
          exact ⟨⟨h3, h4⟩, h5⟩
  case stop =>
    rintro D c pre W _ _ h _
    exact h.elim

end Go.Proofs.YtccbeimcggamiaaDoor

/-
  Words of the kids up to one: plain mathematics; no statement of its own.
-/
namespace Go.Proofs.YtccbeimcggamiaaDoor
open Go Go.RowKit

theorem EAny_take {xs : List Int} (l : List T) (j : Nat) (h : j < l.length) (i x : Nat) : EAny xs (l.take (j + 1)) i x ↔ EAny xs (l.take j) i x ∨ E xs (l[j]'h) i x := by
  rw [List.take_succ_eq_append_getElem h, EAny_iff, EAny_iff]
  simp only [List.mem_append, List.mem_singleton]
  constructor
  · rintro ⟨t, h1 | h1, h2⟩
    · exact .inl ⟨t, h1, h2⟩
    · exact .inr (h1 ▸ h2)
  · rintro (⟨t, h1, h2⟩ | h2)
    · exact ⟨t, .inl h1, h2⟩
    · exact ⟨_, .inr rfl, h2⟩
theorem ECat_take {xs : List Int} (l : List T) (j : Nat) (h : j < l.length) (i x : Nat) : ECat xs (l.take (j + 1)) i x ↔ ∃ y, ECat xs (l.take j) i y ∧ E xs (l[j]'h) y x := by
  rw [List.take_succ_eq_append_getElem h, ECat_app]
  simp [ECat]
end Go.Proofs.YtccbeimcggamiaaDoor
