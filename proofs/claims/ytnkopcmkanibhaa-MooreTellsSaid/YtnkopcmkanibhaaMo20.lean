/-
  Several texts of this proof in one file: NfasOf, MooLaw, MooLike, Eq256, MooSame, CodeN. No statement of its own.
-/
import Derived.Test.YtnkopcmkanibhaaMo17
import Derived.Test.YtnkopcmkanibhaaMo19
import Derived.Test.YtnkopcmkanibhaaMo10
import Derived.Test.YtnkopcmkanibhaaMo2
import Derived.Test.YtnkopcmkanibhaaMo16
import Derived.Test.YtnkopcmkanibhaaMo12
import Derived.Lib.Hide
import Derived.BigQuiet
import Derived.Deep.RegionHeld3
import Derived.Deep.Cut
import Derived.Deep.LoopGhost
import Derived.Test.YtnkopcmkanibhaaMo1
import Derived.Laws.StructEq
set_option linter.unusedVariables false
set_option linter.unusedSimpArgs false

/-
  The laws' own Nfas: rules' places, as the program and as the document have them. Contracts for other texts; no statement of its own.
-/
namespace Go.Proofs.Ytnkopcmkanibhaa
open Go Go.RowKit
attribute [local go_sem ↓] Go.wp_at_zero Go.wp_at_succ
attribute [local go_sem ↓] run_stoE

def laysOf (l : List (T × Bool)) : List (Lay × Str) := l.map fun r => lay0 r.1
def checksOf (l : List (T × Bool)) : List Value := l.map fun r => .bool r.2
/-- What stands in memory while the rules' places are laid. -/
structure Tri (w wr : World) (va vb vc : Value) (l : List (T × Bool)) (E : Nat → Prop) : Prop where
  ra : NfaRow 87 wr w.heap.size va (laysOf l) E
  rb : NfaRow 84 wr w.heap.size vb (laysOf l) E
  rc : wr.ownsRow w.heap.size 4 1 vc l.length (checksOf l)
  ec : ∀ b, E b → vc.ownBlock ≠ some b
  bel : Below w.heap.size w wr
theorem Tri.nil (w : World) : Tri w w (.slice none 0 0) (.slice none 0 0) (.slice none 0 0) [] fun _ => False :=
  ⟨NfaRow.nil _ _ _, NfaRow.nil _ _ _, World.ownsRow_nil _ _ _ 1, fun b e => e.elim, Below.refl _ _⟩
/-- What Nfas tells. -/
def RetNfas (w : World) (l : List (T × Bool)) (e : Ending) (w' : World) : Prop := ∃ A1 c1 A2 c2 A3 c3, e = .returned (.tuple #[.slice A1 l.length c1, .slice A2 l.length c2, .slice A3 l.length c3]) ∧
  RdNfas w' w'.heap.size A1 (laysOf l) ∧ RdNfas w' w'.heap.size A2 (laysOf l) ∧ w'.ownsRow w.heap.size 4 1 (.slice A3 l.length c3) l.length (checksOf l) ∧ Below w.heap.size w w'
theorem own_formN {w : World} {B e size n : Nat} {v : Value} {xs : List Value} (h : w.ownsRow B e size v n xs) : ∃ A c, v = .slice A n c := by
  rcases h.2 with ⟨e, e0⟩ | ⟨g, cap, cur, e, _⟩
  · subst e0
    exact ⟨_, _, e⟩
  · exact ⟨_, _, e⟩

set_option maxRecDepth 20000 in
set_option maxHeartbeats 4000000 in
theorem nfas_p {w : World} {A : Option Addr} {c : Nat} {l : List (T × Bool)} (hr : RdRules w A l) (hok : ∀ r ∈ l, WF r.1 ∧ plR r.1 ≤ 256) (hl : l.length ≤ 64) :
    Calls Try.prog 10 #[.slice A l.length c] w (RetNfas w l) := by
  have HR := Lib.hid hr
  have HOK := Lib.hid hok
  obtain ⟨N, hN⟩ : ∃ N, l.length = N := ⟨_, rfl⟩
  rw [hN] at hl ⊢
  have HN := Lib.hid hN
  clear hr hok hN
  go_enter Try.func10, Try.ntmps10
  go_wp2
  go_loopg [5, 6, 7, 8] N (fun mm va vb vc i wr => ∃ (k : Nat) (E : Nat → Prop), i = .int .i64 (k : Int) ∧ k ≤ N ∧ mm = N - k ∧ Tri w wr va vb vc (l.take k) E)
  case atStart => exact ⟨0, _, by first | rfl | trivial, Nat.zero_le _, by first | rfl | trivial, Tri.nil w⟩
  case round =>
    obtain ⟨k, E, rfl, hk, hmk, ht⟩ := hrel
    have HMK := Lib.hid hmk
    have HT := Lib.hid ht
    clear hmk
    by_cases hkN : k < N
    · obtain ⟨r, hrk⟩ : ∃ r, l[k]? = some r := ⟨_, List.getElem?_eq_getElem (by rw [HN.out]; omega)⟩
      obtain ⟨hwf, h256⟩ := HOK.out r (List.mem_of_getElem? hrk)
      have hrd := HR.out
      obtain ⟨g, off, kv, rfl, hg, hcs0, htr0⟩ := hrd k r hrk
      have hcs := fun q u hu => cell_stays (hcs0 q u hu) ht.bel
      have htr := htr0.stays ht.bel
      have HGW := Lib.hid hg
      have HC8 := Lib.hid (hcs0 8 _ rfl)
      obtain ⟨Ak, nk, ck, rfl⟩ := htr.form
      have htk : (laysOf (l.take k)).length = k := by simp [laysOf]; have := HN.out; omega
      have hlen : (laysOf (l.take k)).length ≤ 1000 := by omega
      obtain ⟨s, x, hsx⟩ : ∃ s x, lay0 r.1 = (s, x) := ⟨_, _, rfl⟩
      have hinv : LInv s := by have := (lay0_good (xs := []) hwf).1; rw [hsx] at this; exact this
      have hbd := fun (W : World) (hb : Below wr.heap.size wr W) => buildD_p hwf (htr.stays hb) h256
      rw [hsx] at hbd
      unfold RetBuildD nodeP at hbd
      simp only at hbd
      obtain ⟨z, hz⟩ : ∃ z, s.sets.length = z := ⟨_, rfl⟩
      obtain ⟨xe, hxe⟩ : ∃ xe, x.empty = xe := ⟨_, rfl⟩
      rw [hz, hxe] at hbd
      have hel := fun (W : World) (C gm m1 c1 m2 c2 m3 c3 : Nat) (A1 A2 A3 : Option Addr) (h : NfaAt W C (.slice A1 m1 c1) (.slice A2 m2 c2) gm (.slice A3 m3 c3) s x) => Elem.of_at h hinv
      rw [hz, hxe] at hel
      obtain ⟨t, bl⟩ := r
      have r0 := hcs 0 _ rfl
      have r1 := hcs 1 _ rfl
      have r2 := hcs 2 _ rfl
      have r3 := hcs 3 _ rfl
      have r4 := hcs 4 _ rfl
      have r5 := hcs 5 _ rfl
      have r6 := hcs 6 _ rfl
      have r7 := hcs 7 _ rfl
      have r8 := hcs 8 _ rfl
      have HC8' := HC8.out
      simp only at HC8'
      clear HC8
      have HC8 := Lib.hid HC8'
      clear HC8'
      simp only [Nat.add_zero] at r0 r1 r2 r3 r4 r5 r6 r7 r8 hbd hwf h256 hsx
      have hk1 : (k : Int) < (N : Int) := by omega
      have hk0 : (0 : Int) ≤ (k : Int) := by omega
      have HBD := Lib.hid hbd
      have HEL := Lib.hid hel
      have HLK := Lib.hid hlen
      have HRK := Lib.hid hrk
      have HSX := Lib.hid hsx
      have HR8 := Lib.hid r8
      clear hcs hcs0 htr0 hg htr hbd hel hlen hrk hsx hz hxe hwf h256 hinv ht htk hrd r8
      go_wp2_with (first
        | (go_at_call 34; (with_reducible refine (HBD.out _ (Below.refl _ _)).mono ?_); rintro e w1 ⟨A1, m1, c1, A2, m2, c2, gm, A3, m3, c3, rfl, hn1, b1⟩; have HN1 := Lib.hid (HEL.out _ _ _ _ _ _ _ _ _ _ _ _ hn1); have B1 := Lib.hid b1; have hn0 : HasO (w1.alloc (.cells #[.slice none 0 0, .slice none 0 0, .slice none 0 0, .slice none 0 0, .bool false] 84)) w1.heap.size (.cells #[.slice none 0 0, .slice none 0 0, .slice none 0 0, .slice none 0 0, .bool false] 84 (0, 0)) := has_new _ _ _ _ rfl; have hst := sto_of (ty := 84) (cs := #[.slice A1 m1 c1, .slice A2 m2 c2, .slice (some ⟨gm, 0, none⟩) z z, .slice A3 m3 c3, .bool xe]) hn0 (by kernel_rfl) rfl (by simp [Value.oneCell']); have hy := has_sto (cs := #[.slice A1 m1 c1, .slice A2 m2 c2, .slice (some ⟨gm, 0, none⟩) z z, .slice A3 m3 c3, .bool xe]) hn0; have y0 := cell_of_row _ w1.heap.size 0 _ _ (0, 0) hy; have y1 := cell_of_row _ w1.heap.size 1 _ _ (0, 0) hy; have y2 := cell_of_row _ w1.heap.size 2 _ _ (0, 0) hy; have y3 := cell_of_row _ w1.heap.size 3 _ _ (0, 0) hy; have y4 := cell_of_row _ w1.heap.size 4 _ _ (0, 0) hy; have HY := Lib.hid hy; have BV := Lib.hid (show Below w1.heap.size w1 (stoW (w1.alloc (.cells #[.slice none 0 0, .slice none 0 0, .slice none 0 0, .slice none 0 0, .bool false] 84)) (.pointer (some ⟨w1.heap.size, 0, none⟩)) (.agg #[.slice A1 m1 c1, .slice A2 m2 c2, .slice (some ⟨gm, 0, none⟩) z z, .slice A3 m3 c3, .bool xe])) from below_sto ((Below.refl _ _).alloc (Nat.le_refl _) _) (Nat.le_refl _)); have bA : Below wr.heap.size wr (((stoW (w1.alloc (.cells #[.slice none 0 0, .slice none 0 0, .slice none 0 0, .slice none 0 0, .bool false] 84)) (.pointer (some ⟨w1.heap.size, 0, none⟩)) (.agg #[.slice A1 m1 c1, .slice A2 m2 c2, .slice (some ⟨gm, 0, none⟩) z z, .slice A3 m3 c3, .bool xe])).alloc (.cells #[.slice A1 m1 c1, .slice A2 m2 c2, .slice (some ⟨gm, 0, none⟩) z z, .slice A3 m3 c3, .bool xe] 87))) := (gro B1.out BV.out).alloc (gro B1.out BV.out).size _; have HRA := Lib.hid (HT.out.ra.fresh bA B1.out.size (E2 := fun b => E b ∨ (wr.heap.size ≤ b ∧ b < w1.heap.size)) (fun b e => .inl e) (fun b e => e.imp id fun e => ⟨e.1, Nat.lt_of_lt_of_le e.2 (Nat.le_trans BV.out.size (by simp))⟩)); have HRB := Lib.hid (HT.out.rb.fresh bA B1.out.size (E2 := fun b => E b ∨ (wr.heap.size ≤ b ∧ b < w1.heap.size)) (fun b e => .inl e) (fun b e => e.imp id fun e => ⟨e.1, Nat.lt_of_lt_of_le e.2 (Nat.le_trans BV.out.size (by simp))⟩)); have HEA := Lib.hid ((HN1.out.keep (w' := ((stoW (w1.alloc (.cells #[.slice none 0 0, .slice none 0 0, .slice none 0 0, .slice none 0 0, .bool false] 84)) (.pointer (some ⟨w1.heap.size, 0, none⟩)) (.agg #[.slice A1 m1 c1, .slice A2 m2 c2, .slice (some ⟨gm, 0, none⟩) z z, .slice A3 m3 c3, .bool xe])).alloc (.cells #[.slice A1 m1 c1, .slice A2 m2 c2, .slice (some ⟨gm, 0, none⟩) z z, .slice A3 m3 c3, .bool xe] 87))) (Nat.le_trans BV.out.size (by simp)) (fun b e => (Below.heap_alloc _ _ b (Nat.lt_of_lt_of_le e.2 BV.out.size)).trans (BV.out.block b e.2))).wide (E' := fun b => E b ∨ (wr.heap.size ≤ b ∧ b < w1.heap.size)) fun b e => .inr e); have HYA := Lib.hid (has_alloc (.cells #[.slice A1 m1 c1, .slice A2 m2 c2, .slice (some ⟨gm, 0, none⟩) z z, .slice A3 m3 c3, .bool xe] 87) hy); have HBA := Lib.hid bA; have tokA : True := trivial; clear hn1 b1 hn0 hy bA)
        | (at_builtin; have _t := tokA; refine wpList_nfa nfaTyP (by rfl) _ _ (by rfl) (by rfl) HRA.out (Nat.le_trans HT.out.bel.size HBA.out.size) HLK.out HEA.out ⟨_, 0, none⟩ 1 (by rfl) (cells_of (has_new _ _ _ _ rfl)) ?_; intro va' wA ra' gA oA; have HA2 := Lib.hid ra'; have nbA := HRB.out.off HRA.out (by decide) gA; have HB2 := Lib.hid nbA; have yA := has_grown gA HYA.out (fun e => by have h1 := (HT.out.ra.lt e.symm).2; have h2 := B1.out.size; omega); have u0 := cell_of_row wA w1.heap.size 0 _ _ (0, 0) yA; have u1 := cell_of_row wA w1.heap.size 1 _ _ (0, 0) yA; have u2 := cell_of_row wA w1.heap.size 2 _ _ (0, 0) yA; have u3 := cell_of_row wA w1.heap.size 3 _ _ (0, 0) yA; have u4 := cell_of_row wA w1.heap.size 4 _ _ (0, 0) yA; have HRBb := Lib.hid (nbA.stays (w' := (wA.alloc (.cells #[.slice A1 m1 c1, .slice A2 m2 c2, .slice (some ⟨gm, 0, none⟩) z z, .slice A3 m3 c3, .bool xe] 84))) ((Below.refl _ _).alloc (Nat.le_refl _) _)); have HRAb := Lib.hid (ra'.stays (w' := (wA.alloc (.cells #[.slice A1 m1 c1, .slice A2 m2 c2, .slice (some ⟨gm, 0, none⟩) z z, .slice A3 m3 c3, .bool xe] 84))) ((Below.refl _ _).alloc (Nat.le_refl _) _)); have HEB := Lib.hid ((HEA.out.keep gA.size fun b e => gA.block b (HRA.out.1 b e).1 fun e' => (HRA.out.1 b e).2 e'.symm).keep (w' := (wA.alloc (.cells #[.slice A1 m1 c1, .slice A2 m2 c2, .slice (some ⟨gm, 0, none⟩) z z, .slice A3 m3 c3, .bool xe] 84))) (by simp) fun b e => Below.heap_alloc _ _ b (Nat.lt_of_lt_of_le (HRA.out.1 b e).1 gA.size)); have HCA := Lib.hid (own_stays (NfaRow.off3 (own_stays HT.out.rc HBA.out) HRA.out (by decide) gA) (w' := (wA.alloc (.cells #[.slice A1 m1 c1, .slice A2 m2 c2, .slice (some ⟨gm, 0, none⟩) z z, .slice A3 m3 c3, .bool xe] 84))) ((Below.refl _ _).alloc (Nat.le_refl _) _)); have HWB := Lib.hid (((HT.out.bel.trans (HBA.out.mono HT.out.bel.size)).grown gA (Nat.le_trans HT.out.bel.size HBA.out.size) (fun k e => (HRA.out.lt e).1)).alloc (Nat.le_trans (Nat.le_trans HT.out.bel.size HBA.out.size) gA.size) (.cells #[.slice A1 m1 c1, .slice A2 m2 c2, .slice (some ⟨gm, 0, none⟩) z z, .slice A3 m3 c3, .bool xe] 84)); have tokB : True := trivial; clear ra' nbA yA tokA)
        | (at_builtin; have _t := tokB; refine wpList_nfa nfaTyD (by rfl) _ _ (by rfl) (by rfl) HRBb.out HWB.out.size HLK.out HEB.out ⟨_, 0, none⟩ 1 (by rfl) (cells_of (has_new _ _ _ _ rfl)) ?_; intro vb' wB rb' gB oB; have hA3 := HRAb.out.off HRBb.out (by decide) gB; have hwB := HWB.out.grown gB HWB.out.size (fun k e => (HRBb.out.lt e).1); have s8 := (hwB.cell (p := ⟨g, off + k * 9 + 8, none⟩) HGW.out).trans HC8.out; have HCB := Lib.hid (own_stays (NfaRow.off3 HCA.out HRBb.out (by decide) gB) (w' := (wB.alloc (.cells #[.bool bl] 4))) ((Below.refl _ _).alloc (Nat.le_refl _) _)); have HRAc := Lib.hid (hA3.stays (w' := (wB.alloc (.cells #[.bool bl] 4))) ((Below.refl _ _).alloc (Nat.le_refl _) _)); have HRBc := Lib.hid (rb'.stays (w' := (wB.alloc (.cells #[.bool bl] 4))) ((Below.refl _ _).alloc (Nat.le_refl _) _)); have HWC := Lib.hid (hwB.alloc hwB.size (.cells #[.bool bl] 4)); have tokC : True := trivial; clear rb' hA3 hwB tokB)
        | (at_builtin; have _t := tokC; refine wpList_truth (by rfl) _ _ (by rfl) (by rfl) HCB.out HWC.out.size (by simp; have := HN.out; omega) bl ⟨_, 0, none⟩ 1 (by rfl) (cells_of (has_new _ _ _ _ rfl)) ?_; intro vc' wC rc' gC oC; have HRCc := Lib.hid rc'; have HGC := Lib.hid gC; have HOC := Lib.hid oC; clear rc' gC oC tokC)
        | fail)
      go_roundg (N - (k + 1))
      case measure => have := HMK.out; omega
      case rel =>
        have hE : ∀ b, (E b ∨ (wr.heap.size ≤ b ∧ b < w1.heap.size)) → u7.ownBlock ≠ some b := fun b e e2 => by
          rcases e with e | e
          · exact HT.out.ec b e e2
          · have := (World.ownsRow.lt HT.out.rc b e2).2; omega
        have et : l.take (k + 1) = l.take k ++ [(t, bl)] := by rw [List.take_add_one, HRK.out]; rfl
        have el : laysOf (l.take (k + 1)) = laysOf (l.take k) ++ [(s, x)] := by rw [et]; simp [laysOf, HSX.out]
        have ec : checksOf (l.take (k + 1)) = checksOf (l.take k) ++ [.bool bl] := by rw [et]; simp [checksOf]
        refine ⟨k + 1, _, by go_num, by omega, rfl, ⟨by rw [el]; exact HRAc.out.off2 HCB.out (by decide) hE HGC.out, by rw [el]; exact HRBc.out.off2 HCB.out (by decide) hE HGC.out, by rw [ec, show (l.take (k + 1)).length = (l.take k).length + 1 from by rw [et]; simp]; exact HRCc.out, fun b e e2 => ?_, HWC.out.grown HGC.out HWC.out.size fun j e => (World.ownsRow.lt HCB.out j e).1⟩⟩
        rcases HOC.out with e3 | e3
        · exact hE b e (e3 ▸ e2)
        · have h5 := (HRAc.out.1 b e).1
          rw [e3] at e2
          injection e2 with e2
          omega
    · have hkl : k = N := by omega
      subst hkl
      have hall : l.take k = l := List.take_of_length_le (by rw [HN.out]; exact Nat.le_refl _)
      rw [hall] at ht
      obtain ⟨Aa, ca, rfl, _⟩ := ht.ra.form
      obtain ⟨Ab, cb, rfl, _⟩ := ht.rb.form
      obtain ⟨Ac, cc, rfl⟩ := own_formN ht.rc
      have hll : (laysOf l).length = k := by simp [laysOf]; exact HN.out
      have h1 := ht.ra.rd rfl
      have h2 := ht.rb.rd rfl
      have h3 := ht.rc
      have h4 := ht.bel
      rw [hll] at *
      rw [HN.out] at h3 ⊢
      go_wp2
      go_ret3
      exact ⟨Aa, ca, Ab, cb, Ac, cc, by show Ending.returned (.tuple #[.slice Aa k ca, .slice Ab k cb, .slice Ac k cc]) = _; rw [HN.out], h1, h2, by rw [HN.out]; exact h3, h4⟩
end Go.Proofs.Ytnkopcmkanibhaa

/-
  Layer 6's law: what the rules' places are, and what a search that ends tells. Contracts for other texts; no statement of its own.
-/
namespace Go.Proofs.Ytnkopcmkanibhaa
open Go Go.RowKit

theorem pw_nodup {l : List Nat} (h : l.Pairwise (· < ·)) : l.Nodup := h.imp fun e => Nat.ne_of_lt e
/-- Rules of few places. -/
structure Few (R : List (T × Bool)) : Prop where
  len : R.length ≤ 4
  ok : ∀ r ∈ R, WF r.1 ∧ plR r.1 ≤ 60
section
variable {R : List (T × Bool)}
theorem Few.nfas (h : Few R) : ∀ r ∈ R, WF r.1 ∧ plR r.1 ≤ 256 := fun r hr => ⟨(h.ok r hr).1, by have := (h.ok r hr).2; omega⟩
theorem Few.mem (h : Few R) {s : Lay} {x : Str} (hm : (s, x) ∈ laysOf R) : ∃ t, WF t ∧ plR t ≤ 60 ∧ lay0 t = (s, x) := by
  unfold laysOf at hm
  obtain ⟨r, hr, e⟩ := List.mem_map.1 hm
  exact ⟨r.1, (h.ok r hr).1, (h.ok r hr).2, e⟩
theorem Few.lay (h : Few R) : ∀ s x, (s, x) ∈ laysOf R → OkLay s x := fun s x hm => by
  obtain ⟨t, h1, h2, h3⟩ := h.mem hm
  have := lay0_ok h1 (by omega)
  rw [h3] at this
  exact this
theorem Few.nodup (h : Few R) : ∀ s x, (s, x) ∈ laysOf R → x.first.Nodup := fun s x hm => by
  obtain ⟨t, h1, h2, h3⟩ := h.mem hm
  have := (lay0_good (xs := []) h1).2.sf
  rw [h3] at this
  exact pw_nodup this
theorem Few.size (h : Few R) : ∀ s x, (s, x) ∈ laysOf R → s.sets.length ≤ 60 := fun s x hm => by
  obtain ⟨t, h1, h2, h3⟩ := h.mem hm
  have hsz : (lay0 t).1.sets.length = plR t := by have := lay_size h1 ⟨[], []⟩; simpa [lay0] using this
  rw [h3] at hsz
  simp only at hsz
  omega
theorem laysOf_len : (laysOf R).length = R.length := by simp [laysOf]
theorem Few.sets (h : Few R) : ∀ k, k ≤ (laysOf R).length → (setsN (laysOf R) k).length ≤ k * 60
  | 0, _ => by simp [setsN]
  | k + 1, hk => by
    have ih := Few.sets h k (by omega)
    have hm : (laysOf R).getD k lx0 ∈ laysOf R := by rw [List.getD_eq_getElem?_getD, List.getElem?_eq_getElem (by omega)]; exact List.getElem_mem _
    have := h.size ((laysOf R).getD k lx0).1 ((laysOf R).getD k lx0).2 hm
    rw [setsN, List.length_append]
    omega
theorem Few.few (h : Few R) : (setsN (laysOf R) (laysOf R).length).length * 64 ≤ 100000 := by
  have := h.sets _ (Nat.le_refl _)
  have h2 := h.len
  rw [← laysOf_len (R := R)] at h2
  omega
end
theorem few_rules (L : List ByteArray) (bs : List Bool) (n : Nat) (h : n ≤ 4) : Few (rulesN L bs n) := by
  refine ⟨Nat.le_trans (rulesN_len L bs n) h, fun r hr => ?_⟩
  obtain ⟨h1, h2, h3⟩ := rulesN_ok L bs n r hr
  rw [plN_min h1] at h2
  exact ⟨h1, by omega⟩
/-- What a search that ends tells. -/
theorem srch_ok {L : List (Lay × Str)} {bs : List Bool} {lam most : Nat} (hm : 1 ≤ most ∧ most ≤ 1000) {ss : List Sta} {rows : List (List Nat)} (h : srchOf L bs lam most = some (ss, rows)) :
    OkM (clsOf L bs) (cntOf L bs) rows (ss.map fun s => mOutP (RR L bs lam) s (0, 0)) ∧ rows.length ≤ 1000 ∧ ∀ r ∈ rows, r.length ≤ 256 := by
  unfold srchOf at h
  obtain ⟨h1, h2, z, h3⟩ := buildS_ok h (by omega) (Nat.zero_le _) (by simp; omega) ⟨by simp, rfl, fun j hj => by omega⟩
  have hC : cntOf L bs ≤ 256 := cntK_le _ _
  have hlen : rows.length = ss.length := h1.len
  have hpos : 0 < ss.length := by rw [h3]; simp
  have hrow : ∀ (i : Nat) r, rows[i]? = some r → r.length = cntOf L bs ∧ ∀ t ∈ r, t < rows.length := fun i r e => by
    have hi : i < ss.length := by rw [← hlen]; exact (List.getElem?_eq_some_iff.1 e).1
    obtain ⟨s, row, e1, e2, e3, e4⟩ := h1.row i hi
    rw [e] at e2
    injection e2 with e2
    subst e2
    refine ⟨e3, fun t ht => ?_⟩
    obtain ⟨c, hc, et⟩ := List.getElem_of_mem ht
    obtain ⟨e5, e6⟩ := e4 c (by omega)
    rw [List.getElem?_eq_getElem hc, et] at e6
    injection e6 with e6
    rw [e6, hlen]
    exact idxM_lt e5
  refine ⟨⟨fun b hb => numK_bound _ hb, hrow, by rw [List.length_map, hlen], by omega, by omega⟩, by omega, fun r hr => ?_⟩
  obtain ⟨i, hi⟩ := List.getElem?_of_mem hr
  have := (hrow i r hi).1
  omega
/-- Truths that are read. -/
theorem bools_rd {w : World} {B n c : Nat} {A : Option Addr} {cs : List Bool} (h : w.ownsRow B 4 1 (.slice A n c) n (cs.map Value.bool)) : RdBo w A cs := fun i x hi => by
  have hl : i < cs.length := (List.getElem?_eq_some_iff.1 hi).1
  have h1 := h.1
  rw [List.length_map] at h1
  rcases h.2 with ⟨_, h0⟩ | ⟨g, cap, cur, e, hB, hg, _⟩
  · omega
  · injection e with e1 e2 e3
    subst e1
    refine ⟨g, 0, rfl, lt_of_some hg, ?_⟩
    rw [Nat.zero_add, World.ownsRow.cellAt h i (by omega), List.getElem?_map, hi]
    rfl
end Go.Proofs.Ytnkopcmkanibhaa

/-
  A machine, as the document has it, as the program has it. Contracts for other texts; no statement of its own.
-/
namespace Go.Proofs.Ytnkopcmkanibhaa
open Go Go.RowKit

set_option maxRecDepth 20000 in
theorem build_mach (F : Nat → Nat) (n : Int) (A : Option Addr) (m c : Nat) (B : Option Addr) (k d : Nat) (w : World) : (Instr.build 43 #[(0, .agg (arrV 256 F)), (1, .int .i64 n), (2, .slice A m c), (3, .slice B k d)]).run Try.prog w = .ok (.agg (machC F n (.slice A m c) (.slice B k d))) w := by
  refine run_build w _ _ _ ?_
  kernel_rfl
theorem wpList_buildM {w : World} {ops : Array Oper} {rest : List Oper} {o : Oper} {a : Act} {Q : Exit → Act → World → Prop} {F : Nat → Nat} {n : Int} {A : Option Addr} {m c : Nat} {B : Option Addr} {k d : Nat} (hgd : o.guard = none) (x0 x1 x2 x3 : Operand) (ho : o.op = .build 43 #[(0, x0), (1, x1), (2, x2), (3, x3)])
    (h0 : a.eval x0 = .agg (arrV 256 F)) (h1 : a.eval x1 = .int .i64 n) (h2 : a.eval x2 = .slice A m c) (h3 : a.eval x3 = .slice B k d)
    (hk : wpList Try.prog ops Q rest (a.put o.dst (.agg (machC F n (.slice A m c) (.slice B k d)))) w) : wpList Try.prog ops Q (o :: rest) a w := by
  refine wpList_plain hgd fun _ hK => ?_
  unfold Oper.wp execOp
  have e : (#[(0, x0), (1, x1), (2, x2), (3, x3)] : Array (Nat × Operand)).map (fun (i, x) => (i, a.eval x)) = #[(0, .agg (arrV 256 F)), (1, .int .i64 n), (2, .slice A m c), (3, .slice B k d)] := by simp [h0, h1, h2, h3]
  simp only [ho, e, Sem.run_bind, Sem.run_pure, Result.andThen_ok, build_mach]
  exact hK _ _ hk
theorem results_mach1 {w : World} {g : Nat} {t : TypeId} {F : Nat → Nat} {n : Int} {vN vO : Value} {fn : Func} {tmps : Array Value} {x : Nat} (hr : fn.results = #[.cell x t]) (hx : tmps.getD x undef = .pointer (some ⟨g, 0, none⟩)) {d : TypeDesc} (hu : Try.prog.underlying t = some d) (hd : d.isRow = true) (hs : (Try.prog.info? t).map (·.size) = some 259)
    (h : BoxM w g t F n vN vO) : (results fn tmps).run Try.prog w = .ok (.agg (machC F n vN vO)) w := by
  have e : (#[ResultVar.cell x t] : Array ResultVar) = [ResultVar.cell x t].toArray := rfl
  rw [Array.getD_eq_getD_getElem?] at hx
  unfold results
  rw [hr, e]
  simp [Sem.run_bind, hx, run_loadM hu hd hs h, asAddr]
set_option maxRecDepth 20000 in
set_option maxHeartbeats 2000000 in
theorem like_p (w : World) (F : Nat → Nat) (n : Int) (A : Option Addr) (m c : Nat) (B : Option Addr) (k d : Nat) : Calls Try.prog 15 #[.agg (machC F n (.slice A m c) (.slice B k d))] w fun e w' => e = .returned (.agg (machC F n (.slice A m c) (.slice B k d))) ∧ Below w.heap.size w w' := by
  have hz43 : ∀ w : World, Sem.run Try.prog (zeroValue 43) w = .ok (.agg (machC (fun _ => 0) 0 (.slice none 0 0) (.slice none 0 0))) w := fun _ => by kernel_rfl
  obtain ⟨w1, hw1⟩ : ∃ w1, w.alloc (.cells (machC F n (.slice A m c) (.slice B k d)) 38) = w1 := ⟨_, rfl⟩
  have hb1 : Below w.heap.size w w1 := by rw [← hw1]; exact (Below.refl _ _).alloc (Nat.le_refl _) _
  have hx1 : BoxM w1 w.heap.size 38 F n (.slice A m c) (.slice B k d) := by rw [← hw1]; exact BoxM.new w _ _ _ _ _
  have hs1 : w1.heap.size = w.heap.size + 1 := by rw [← hw1]; simp
  have HW1 := Lib.hid hw1
  clear hw1
  go_enter Try.func15, Try.ntmps15
  go_upto_region 1 with fail
  rw [HW1.out]
  have hx2 := hx1.stays (show Below w1.heap.size w1 (w1.alloc (.cells (machC (fun _ => 0) 0 (.slice none 0 0) (.slice none 0 0)) 43)) from (Below.refl _ _).alloc (Nat.le_refl _) _)
  have hy2 := BoxM.new w1 43 (fun _ => 0) 0 (.slice none 0 0) (.slice none 0 0)
  have hb2 : Below w1.heap.size w1 (w1.alloc (.cells (machC (fun _ => 0) 0 (.slice none 0 0) (.slice none 0 0)) 43)) := (Below.refl _ _).alloc (Nat.le_refl _) _
  generalize w1.alloc (.cells (machC (fun _ => 0) 0 (.slice none 0 0) (.slice none 0 0)) 43) = w2 at *
  have c1 := hx2.num
  have c2 := hx2.nxt
  have c3 := hx2.out
  rw [hs1] at hy2
  have HX2 := Lib.hid hx2
  have HY2 := Lib.hid hy2
  have HB2 := Lib.hid (gro hb1 hb2)
  clear hx1 hx2 hy2 hb1 hb2 hs1 hz43
  go_wp2_with (first
    | (refine wpList_loadA (by rfl) _ (by rfl) (by rfl) HX2.out ?_; go_simp)
    | (refine wpList_buildM (by rfl) _ _ _ _ (by rfl) (by rfl) (by rfl) (by rfl) (by rfl) ?_; go_simp)
    | (refine wpList_storeM (by rfl) _ _ (by rfl) (by rfl) (by rfl) Try.sizeMR rfl rfl HY2.out ?_; intro hbx; have HBX1 := Lib.hid hbx; clear hbx; go_simp)
    | fail)
  exact bodyPost_ret (v := .agg (machC F n (.slice A m c) (.slice B k d))) (results_mach1 Try.results15 rfl Try.underlying43 rfl Try.sizeMR HBX1.out) rfl ⟨rfl, below_setRow HB2.out (Nat.le_succ _) _⟩
end Go.Proofs.Ytnkopcmkanibhaa

/-
  How Go's == on two long arrays that are the same goes in the model; a long array laid or loaded under a guard. Laws for other texts; no statement of its own.
-/
namespace Go.Proofs.Ytnkopcmkanibhaa
open Go Go.RowKit

theorem forIn_ok {P : Program} {β : Type} (b : β) (f : Nat → β → Sem (ForInStep β)) (w : World) : ∀ (is : List Nat), (∀ i ∈ is, (f i b).run P w = .ok (.yield b) w) → (forIn is b f).run P w = .ok b w
  | [], _ => by simp
  | i :: is, h => by
    have ih := forIn_ok b f w is fun j hj => h j (by simp [hj])
    rw [List.forIn_cons, Sem.run_bind, h i (by simp), Result.andThen_ok]
    exact ih

theorem part256 (F : Nat → Nat) (i : Nat) (hi : i < 256) (w : World) : (part 3 (arrV 256 F) (i * 1)).run Try.prog w = .ok (.int .i64 (F i : Int)) w := by
  have h2 : (isAgg 3).run Try.prog w = .ok false w := by kernel_rfl
  simp [part, Sem.run_bind, h2, arrV_get 256 F i hi]
theorem eq256 (F : Nat → Nat) (w : World) : (Op.equalIn 10000 34 (.agg (arrV 256 F)) (.agg (arrV 256 F))).run Try.prog w = .ok true w := by
  have hs : (sizeOf 3).run Try.prog w = .ok 1 w := by kernel_rfl
  have pe : ∀ (a b : Int) (w : World), (Op.equalIn 9999 3 (.int .i64 a) (.int .i64 b)).run Try.prog w = .ok (a == b) w := fun a b w => run_equalIn_int (P := Try.prog) w 9998 3 .i64 .i64 a b Try.underlying3
  rw [show (10000 : Nat) = 9999 + 1 from rfl]
  unfold Op.equalIn
  have hu : (underlying 34).run Try.prog w = .ok (.array 256 3) w := by kernel_rfl
  simp only [Sem.run_bind, hu, Result.andThen_ok, hs]
  simp only [Std.Legacy.Range.forIn_eq_forIn_range', Std.Legacy.Range.size]
  rw [forIn_ok]
  · simp
  · intro i hi
    have hi' : i < 256 := by simp at hi; omega
    simp [Sem.run_bind, part256 F i hi', pe]
    have p := part256 F i hi' w
    rw [Nat.mul_one] at p
    simp [p, pe]

section
variable {w : World} {g n : Nat} {F G : Nat → Nat} {a : Act} {Q : Exit → Act → World → Prop} {d : Option Nat} {ty : TypeId} {pos : String} {aft : Array Edge} {gd : Option (Nat × Bool)} {ops : Array Oper} {QE : Exit → Act → World → Prop} {rest : List Oper}
theorem wpList_load256g {x : Operand} (hw : Region.wanted ⟨d, .load 34 x, ty, pos, aft, gd⟩ (yielded ops a.tmps) = true) (hx : a.eval x = .pointer (some ⟨g, 0, none⟩)) (h : BoxN w g 34 256 F) (hK : wpList Try.prog ops QE rest (a.put d (.agg (arrV 256 F))) w) :
    wpList Try.prog ops QE (⟨d, .load 34 x, ty, pos, aft, gd⟩ :: rest) a w :=
  wpList_step fun K hk => by
    rw [if_pos hw]
    exact wp_load256 hx h (hk _ _ hK)
theorem wpList_eq256g {x y : Operand} (hw : Region.wanted ⟨d, .binOp .eql 34 x y 34, ty, pos, aft, gd⟩ (yielded ops a.tmps) = true) (hx : a.eval x = .agg (arrV 256 F)) (hy : a.eval y = .agg (arrV 256 F))
    (hK : wpList Try.prog ops QE rest (a.put d (.bool true)) w) :
    wpList Try.prog ops QE (⟨d, .binOp .eql 34 x y 34, ty, pos, aft, gd⟩ :: rest) a w :=
  wpList_step fun K hk => by
    rw [if_pos hw]
    have h1 : (eqGuard .eql 34 x y (.agg (arrV 256 F)) (.agg (arrV 256 F))).run Try.prog w = .ok () w := by kernel_rfl
    have h2 : (binOp .eql 34 (.agg (arrV 256 F)) (.agg (arrV 256 F))).run Try.prog w = .ok (.bool true) w := by
      show (do pure (.bool (← Op.equal 34 (.agg (arrV 256 F)) (.agg (arrV 256 F)))) : Sem Value).run Try.prog w = _
      rw [Sem.run_bind, show Op.equal 34 (.agg (arrV 256 F)) (.agg (arrV 256 F)) = Op.equalIn 10000 34 (.agg (arrV 256 F)) (.agg (arrV 256 F)) from rfl, eq256 F w]
      rfl
    have e : (execOp a.eval ⟨d, .binOp .eql 34 x y 34, ty, pos, aft, gd⟩).run Try.prog w = .ok (.value (.bool true)) w := by
      simp only [execOp, hx, hy, Sem.run_bind, h1, h2, Result.andThen_ok]
      rfl
    unfold Oper.wp
    rw [e]
    exact hk _ _ hK
end
end Go.Proofs.Ytnkopcmkanibhaa

/-
  The document's Same of two machines that are the same. Contracts for other texts; no statement of its own.
-/
namespace Go.Proofs.Ytnkopcmkanibhaa
open Go Go.RowKit

section
variable {w : World} {F : Nat → Nat} {a : Act} {d : Option Nat} {ty : TypeId} {pos : String} {aft : Array Edge} {ops : Array Oper} {QE : Exit → Act → World → Prop} {rest : List Oper}
theorem wpList_neq256 {x y : Operand} (hx : a.eval x = .agg (arrV 256 F)) (hy : a.eval y = .agg (arrV 256 F)) (hK : wpList Try.prog ops QE rest (a.put d (.bool false)) w) :
    wpList Try.prog ops QE (⟨d, .binOp .neq 34 x y 34, ty, pos, aft, none⟩ :: rest) a w :=
  wpList_plain rfl fun K hk => by
    have h1 : (eqGuard .neq 34 x y (.agg (arrV 256 F)) (.agg (arrV 256 F))).run Try.prog w = .ok () w := by kernel_rfl
    have h2 : (binOp .neq 34 (.agg (arrV 256 F)) (.agg (arrV 256 F))).run Try.prog w = .ok (.bool false) w := by
      show (do pure (.bool (!(← Op.equal 34 (.agg (arrV 256 F)) (.agg (arrV 256 F))))) : Sem Value).run Try.prog w = _
      rw [Sem.run_bind, show Op.equal 34 (.agg (arrV 256 F)) (.agg (arrV 256 F)) = Op.equalIn 10000 34 (.agg (arrV 256 F)) (.agg (arrV 256 F)) from rfl, eq256 F w]
      rfl
    have e : (execOp a.eval ⟨d, .binOp .neq 34 x y 34, ty, pos, aft, none⟩).run Try.prog w = .ok (.value (.bool false)) w := by
      simp only [execOp, hx, hy, Sem.run_bind, h1, h2, Result.andThen_ok]
      rfl
    unfold Oper.wp
    rw [e]
    exact hk _ _ hK
end
theorem out_eq (a0 a1 : Int) (w : World) : (binOp .neq 51 (.agg #[.int .u64 a0, .int .u64 a1]) (.agg #[.int .u64 a0, .int .u64 a1])).run Try.prog w = .ok (.bool false) w := by
  have p0 : ∀ (c0 c1 : Int) (w : World), (part 49 #[.int .u64 c0, .int .u64 c1] 0).run Try.prog w = .ok (.int .u64 c0) w := fun _ _ _ => by kernel_rfl
  have p1 : ∀ (c0 c1 : Int) (w : World), (part 49 #[.int .u64 c0, .int .u64 c1] 1).run Try.prog w = .ok (.int .u64 c1) w := fun _ _ _ => by kernel_rfl
  have pe : ∀ (a b : Int) (w : World), (Op.equalIn 9999 49 (.int .u64 a) (.int .u64 b)).run Try.prog w = .ok (a == b) w := fun a b w => run_equalIn_int (P := Try.prog) w 9998 49 .u64 .u64 a b Try.underlying49
  have key : (Op.equalIn 10000 51 (.agg #[.int .u64 a0, .int .u64 a1]) (.agg #[.int .u64 a0, .int .u64 a1])).run Try.prog w = .ok true w := by
    rw [show (10000 : Nat) = 9999 + 1 from rfl, run_equalIn_struct w 9999 _ _ _ (by kernel_rfl) (by kernel_rfl)]
    simp only [Program.fieldsOf, Try.underlying51]
    simp [Op.eqFields, p0, p1, pe, go_sem]
  show (do pure (.bool (!(← Op.equal 51 (.agg #[.int .u64 a0, .int .u64 a1]) (.agg #[.int .u64 a0, .int .u64 a1])))) : Sem Value).run Try.prog w = _
  rw [Sem.run_bind, show Op.equal 51 (.agg #[.int .u64 a0, .int .u64 a1]) (.agg #[.int .u64 a0, .int .u64 a1]) = Op.equalIn 10000 51 (.agg #[.int .u64 a0, .int .u64 a1]) (.agg #[.int .u64 a0, .int .u64 a1]) from rfl, key]
  rfl

set_option maxRecDepth 20000 in
set_option maxHeartbeats 2000000 in
theorem rsame_p {w : World} {B B' D D' n : Nat} {O O' U U' : Nat → Prop} {F : Nat → Nat} {vN vO uN uO : Value} {rows : List (List Nat)} {outs : List (Nat × Nat)} (hN : Nxt w B O vN rows) (hO : Ots w B' O' vO outs) (kN : Nxt w D U uN rows) (kO : Ots w D' U' uO outs) (hl : outs.length = rows.length) (hf : rows.length ≤ 100000) (hr : ∀ r ∈ rows, r.length ≤ 100000) :
    Calls Try.prog 14 #[.agg (machC F n vN vO), .agg (machC F n uN uO)] w fun e w' => e = .returned (.bool true) ∧ Below w.heap.size w w' := by
  obtain ⟨vs, n1, n2, n3, n4⟩ := hN.mem
  obtain ⟨us, m1, m2, m3, m4⟩ := kN.mem
  obtain ⟨An, cn, hfn⟩ := hN.form
  obtain ⟨Ao, co, hfo⟩ := hO.form
  obtain ⟨Am, cm, hfm⟩ := kN.form
  obtain ⟨Ap, cp, hfp⟩ := kO.form
  subst hfn hfo hfm hfp
  have hor := hO.row
  have kor := kO.row
  obtain ⟨S, hS⟩ : ∃ S, rows.length = S := ⟨_, rfl⟩
  rw [hS] at n2 m2 hl hf
  rw [hl] at hor kor
  rw [hS, hl]
  obtain ⟨w1, hw1⟩ : ∃ w1, w.alloc (.cells (machC F n (.slice An S cn) (.slice Ao S co)) 43) = w1 := ⟨_, rfl⟩
  have hb1 : Below w.heap.size w w1 := by rw [← hw1]; exact (Below.refl _ _).alloc (Nat.le_refl _) _
  have hx1 : BoxM w1 w.heap.size 43 F n (.slice An S cn) (.slice Ao S co) := by rw [← hw1]; exact BoxM.new w _ _ _ _ _
  have hs1 : w1.heap.size = w.heap.size + 1 := by rw [← hw1]; simp
  obtain ⟨w2, hw2⟩ : ∃ w2, w1.alloc (.cells (machC F n (.slice Am S cm) (.slice Ap S cp)) 43) = w2 := ⟨_, rfl⟩
  have hb2 : Below w1.heap.size w1 w2 := by rw [← hw2]; exact (Below.refl _ _).alloc (Nat.le_refl _) _
  have hx2 : BoxM w2 (w.heap.size + 1) 43 F n (.slice Am S cm) (.slice Ap S cp) := by rw [← hw2, ← hs1]; exact BoxM.new w1 _ _ _ _ _
  have hx1' := hx1.stays hb2
  have HW1 := Lib.hid hw1
  have HW2 := Lib.hid hw2
  have HX1 := Lib.hid hx1'
  have HX2 := Lib.hid hx2
  have HB2 := Lib.hid (gro hb1 hb2)
  have c1 := hx1'.num
  have c2 := hx2.num
  have c3 := hx1'.nxt
  have c4 := hx2.nxt
  have c5 := hx1'.out
  have c6 := hx2.out
  have HRL := Lib.hid hS
  have HV1 := Lib.hid n1
  have HV2 := Lib.hid n2
  have HV3 := Lib.hid n3
  have HU1 := Lib.hid m1
  have HU2 := Lib.hid m2
  have HU3 := Lib.hid m3
  have HOR := Lib.hid hor
  have KOR := Lib.hid kor
  have HOL := Lib.hid hl
  have HRR := Lib.hid hr
  clear hw1 hw2 hx1 hx1' hx2 hb1 hb2 hs1 hS n1 n2 n3 n4 m1 m2 m3 m4 hor kor hl hN hO kN kO hr
  go_enter Try.func14, Try.ntmps14
  go_upto_region 1 with fail
  rw [HW1.out, HW2.out]
  go_wp2_with (first
    | (refine wpList_loadA (by rfl) _ (by rfl) (by rfl) HX1.out ?_; go_simp)
    | (refine wpList_loadA (by rfl) _ (by rfl) (by rfl) HX2.out ?_; go_simp)
    | (refine wpList_neq256 (by rfl) (by rfl) ?_; go_simp)
    | fail)
  have C3 := Lib.hid c3
  have C4 := Lib.hid c4
  have C5 := Lib.hid c5
  have C6 := Lib.hid c6
  clear c1 c2 c3 c4 c5 c6 HX1 HX2 HW1 HW2
  go_loopg [5] S (fun mm i wr => ∃ k : Nat, i = .int .i64 (k : Int) ∧ k ≤ S ∧ mm = S - k ∧ Below w2.heap.size w2 wr)
  case atStart => exact ⟨0, by first | rfl | trivial, Nat.zero_le _, by first | rfl | trivial, Below.refl _ _⟩
  case round =>
    obtain ⟨k, rfl, hk, hmk, hbw⟩ := hrel
    generalize wr = wo at *
    have HMK := Lib.hid hmk
    have HBW := Lib.hid hbw
    have HB := Lib.hid (HB2.out.trans (hbw.mono HB2.out.size))
    have c3 := cell_stays C3.out hbw
    have c4 := cell_stays C4.out hbw
    have c5 := cell_stays C5.out hbw
    have c6 := cell_stays C6.out hbw
    clear hmk hbw
    by_cases hkS : k < S
    · obtain ⟨r, hr⟩ : ∃ r, rows[k]? = some r := ⟨_, List.getElem?_eq_getElem (by rw [HRL.out]; exact hkS)⟩
      obtain ⟨u, hu⟩ : ∃ u, vs[k]? = some u := ⟨_, List.getElem?_eq_getElem (by rw [HV1.out, HRL.out]; exact hkS)⟩
      obtain ⟨t, ht⟩ : ∃ u, us[k]? = some u := ⟨_, List.getElem?_eq_getElem (by rw [HU1.out, HRL.out]; exact hkS)⟩
      obtain ⟨o, ho⟩ : ∃ o, outs[k]? = some o := ⟨_, List.getElem?_eq_getElem (by rw [HOL.out]; exact hkS)⟩
      have r1 := own_stays (HV3.out k u r hu hr) HB.out
      have r2 := own_stays (HU3.out k t r ht hr) HB.out
      rw [ns_len] at r1 r2
      have hv2 := own_stays HV2.out HB.out
      have hu2 := own_stays HU2.out HB.out
      have ho1 := own_stays HOR.out HB.out
      have ho2 := own_stays KOR.out HB.out
      obtain ⟨Au, cu, hfu⟩ := own_formM r1
      obtain ⟨At, ct, hft⟩ := own_formM r2
      subst hfu hft
      obtain ⟨g1, rfl⟩ : ∃ g, An = some ⟨g, 0, none⟩ := by
        rcases hv2.2 with ⟨_, h0⟩ | ⟨g, cap, cur, e, _⟩
        · omega
        · injection e with e1; exact ⟨g, e1⟩
      obtain ⟨g2, rfl⟩ : ∃ g, Am = some ⟨g, 0, none⟩ := by
        rcases hu2.2 with ⟨_, h0⟩ | ⟨g, cap, cur, e, _⟩
        · omega
        · injection e with e1; exact ⟨g, e1⟩
      obtain ⟨g3, rfl⟩ : ∃ g, Ao = some ⟨g, 0, none⟩ := by
        rcases ho1.2 with ⟨_, h0⟩ | ⟨g, cap, cur, e, _⟩
        · omega
        · injection e with e1; exact ⟨g, e1⟩
      obtain ⟨g4, rfl⟩ : ∃ g, Ap = some ⟨g, 0, none⟩ := by
        rcases ho2.2 with ⟨_, h0⟩ | ⟨g, cap, cur, e, _⟩
        · omega
        · injection e with e1; exact ⟨g, e1⟩
      obtain ⟨o0, o1⟩ := outC_get outs k o ho
      obtain ⟨rl, hrl⟩ : ∃ n, r.length = n := ⟨_, rfl⟩
      rw [hrl] at r1 r2
      have d1 : wo.cell? ⟨g1, k, none⟩ = some (.slice Au rl cu) := by rw [← hrl]; exact (World.ownsRow.cellAt hv2 k (by omega)).trans hu
      have d2 : wo.cell? ⟨g2, k, none⟩ = some (.slice At rl ct) := by rw [← hrl]; exact (World.ownsRow.cellAt hu2 k (by omega)).trans ht
      have d3 : wo.cell? ⟨g3, k * 2, none⟩ = some (.int .u64 (o.1 : Int)) := (World.ownsRow.cellAt ho1 (k * 2) (by omega)).trans o0
      have d4 : wo.cell? ⟨g3, k * 2 + 1, none⟩ = some (.int .u64 (o.2 : Int)) := (World.ownsRow.cellAt ho1 (k * 2 + 1) (by omega)).trans o1
      have d5 : wo.cell? ⟨g4, k * 2, none⟩ = some (.int .u64 (o.1 : Int)) := (World.ownsRow.cellAt ho2 (k * 2) (by omega)).trans o0
      have d6 : wo.cell? ⟨g4, k * 2 + 1, none⟩ = some (.int .u64 (o.2 : Int)) := (World.ownsRow.cellAt ho2 (k * 2 + 1) (by omega)).trans o1
      have hq := fun W => out_eq (o.1 : Int) (o.2 : Int) W
      have hm : Try.prog.eqGuardType Try.prog.depth 51 = false := by kernel_rfl
      have i0 : (0 : Int) ≤ (k : Int) := by omega
      have i1 : (k : Int) < (S : Int) := by omega
      have R1 := Lib.hid r1
      have R2 := Lib.hid r2
      have RL := Lib.hid hrl
      have HRK := Lib.hid (HRR.out r (List.mem_of_getElem? hr))
      clear hr hu ht ho r1 r2 hv2 hu2 ho1 ho2 o0 o1 hrl
      go_wp2
      go_quiet (fail)
      revert nq
      intro q1
      go_wp2
      go_quiet (fail)
      have HWI := Lib.hid (show Below wo.heap.size wo ((wo.drewN q1).drewN nq) from below_dn (below_dn (Below.refl _ _) q1) nq)
      generalize (wo.drewN q1).drewN nq = wi at *
      go_wp2
      have hrk : rl ≤ 100000 := by rw [← RL.out]; exact HRK.out
      have HBQ := HBW
      have D1 := Lib.hid d1
      have D2 := Lib.hid d2
      have E3 := Lib.hid c3
      have E4 := Lib.hid c4
      clear d1 d2 d3 d4 d5 d6 c3 c4 c5 c6 hq hm
      go_loopg [6] rl (fun mm i wj => ∃ c : Nat, i = .int .i64 (c : Int) ∧ c ≤ rl ∧ mm = rl - c ∧ Below wo.heap.size wo wj)
      case atStart => exact ⟨0, by first | rfl | trivial, Nat.zero_le _, by first | rfl | trivial, HWI.out⟩
      case round =>
        obtain ⟨c, rfl, hc, hmc, hbc⟩ := hrel
        have HMC := Lib.hid hmc
        have HBC := Lib.hid hbc
        have d1 := cell_stays D1.out hbc
        have d2 := cell_stays D2.out hbc
        have c3 := cell_stays E3.out hbc
        have c4 := cell_stays E4.out hbc
        by_cases hcr : c < rl
        · have r1 := own_stays R1.out hbc
          have r2 := own_stays R2.out hbc
          obtain ⟨g5, rfl⟩ : ∃ g, Au = some ⟨g, 0, none⟩ := by
            rcases r1.2 with ⟨_, h0⟩ | ⟨g, cap, cur, e, _⟩
            · omega
            · injection e with e1; exact ⟨g, e1⟩
          obtain ⟨g6, rfl⟩ : ∃ g, At = some ⟨g, 0, none⟩ := by
            rcases r2.2 with ⟨_, h0⟩ | ⟨g, cap, cur, e, _⟩
            · omega
            · injection e with e1; exact ⟨g, e1⟩
          obtain ⟨y, hy⟩ : ∃ y, r[c]? = some y := ⟨_, List.getElem?_eq_getElem (by rw [RL.out]; exact hcr)⟩
          have d3 : wr.cell? ⟨g5, c, none⟩ = some (.int .i64 (y : Int)) := by
            rw [World.ownsRow.cellAt r1 c (by omega)]
            simp [ns, hy]
          have d4 : wr.cell? ⟨g6, c, none⟩ = some (.int .i64 (y : Int)) := by
            rw [World.ownsRow.cellAt r2 c (by omega)]
            simp [ns, hy]
          have i2 : (0 : Int) ≤ (c : Int) := by omega
          have i3 : (c : Int) < (rl : Int) := by omega
          clear r1 r2 hy hmc hbc
          go_wp2
          go_quiet (fail)
          go_wp2
          go_roundg (rl - (c + 1))
          case measure => have := HMC.out; omega
          case rel => exact ⟨c + 1, by go_num, by omega, rfl, below_dn HBC.out nq⟩
        · have hcl : c = rl := by omega
          subst hcl
          go_wp2
          go_roundg (S - (k + 1))
          case measure => have := HMK.out; omega
          case rel => exact ⟨k + 1, by go_num, by omega, rfl, HBQ.out.trans (HBC.out.mono HBQ.out.size)⟩
    · have hkl : k = S := by omega
      subst hkl
      go_wp2
      go_ret
      exact ⟨rfl, HB.out⟩
end Go.Proofs.Ytnkopcmkanibhaa

/-
  law00.Code of any of api's errors, and of none. Contracts for other texts; no statement of its own.
-/
namespace Go.Proofs.Ytnkopcmkanibhaa
open Go Go.RowKit

theorem err_eq (a b : Int) (w : World) : (binOp .eql 40 (.iface 88 (.int .i64 a)) (.iface 88 (.int .i64 b))).run Try.prog w = .ok (.bool (a == b)) w := by kernel_rfl
theorem code0_p (w : World) : Calls Try.prog 13 #[.nilIface] w fun e w' => e = .returned (.int .i64 0) ∧ w = w' := by
  go_enter Try.func13, Try.ntmps13
  go_wp2
  go_ret
  exact ⟨rfl, rfl⟩
set_option maxRecDepth 20000 in
set_option maxHeartbeats 2000000 in
theorem coden_p (w : World) (c : Nat) (h1 : 1 ≤ c) (h2 : c ≤ 11) : Calls Try.prog 13 #[.iface 88 (.int .i64 (c : Int))] w fun e w' => e = .returned (.int .i64 (c : Int)) ∧ w = w' := by
  have he := err_eq
  go_enter Try.func13, Try.ntmps13
  go_wp2
  go_loopg [3] 12 (fun m s wr => ∃ j : Nat, s = .int .i64 (j : Int) ∧ 1 ≤ j ∧ j ≤ c ∧ m = 13 - j ∧ wr = w)
  case atStart => exact ⟨1, by first | rfl | trivial, Nat.le_refl _, h1, by first | rfl | trivial, rfl⟩
  case round =>
    obtain ⟨j, rfl, hj1, hj, hm, hww⟩ := hrel
    obtain rfl := hww.symm
    have HM := Lib.hid hm
    clear hm
    have i1 : (j : Int) ≤ 11 := by omega
    by_cases hjc : j = c
    · subst hjc
      go_wp2
      go_ret
      exact ⟨rfl, rfl⟩
    · have hq : ((c : Int) == (j : Int)) = false := by simp; omega
      go_wp2
      go_roundg (13 - (j + 1))
      case measure => have := HM.out; omega
      case rel => exact ⟨j + 1, by go_num, by omega, by omega, rfl, rfl⟩
end Go.Proofs.Ytnkopcmkanibhaa
