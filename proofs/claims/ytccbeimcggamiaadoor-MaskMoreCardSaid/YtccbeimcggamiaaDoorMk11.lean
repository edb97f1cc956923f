/-
  Several texts of this proof in one file: PartEnds, LangHas, LuhSum, RuleFits, Least, SetOr. No statement of its own.
-/
import Derived.Test.YtccbeimcggamiaaDoorMk10
import Derived.Test.YtccbeimcggamiaaDoorMk5
import Derived.Test.YtccbeimcggamiaaDoorMk6
import Derived.Test.YtccbeimcggamiaaDoorMk1
import Derived.Test.YtccbeimcggamiaaDoorMk7
import Derived.Lib.Hide
import Derived.Deep.LoopGhost
import Derived.Test.YtccbeimcggamiaaDoorMk8
set_option linter.unusedVariables false
set_option linter.unusedSimpArgs false

/-
  lang.part.ends, whatever the pattern. Contracts for other texts; no statement of its own.
-/
namespace Go.Proofs.YtccbeimcggamiaaDoor
open Go Go.RowKit
attribute [local go_sem ↓] Go.wp_at_zero Go.wp_at_succ

theorem RetEndsP.congr {B : Nat} {w w' : World} {xs : List Int} {Γ : Ghost} {P Q : Nat → Prop} {e : Ending} (h : RetEndsP B w xs Γ P e w') (hq : ∀ x, P x ↔ Q x) : RetEndsP B w xs Γ Q e w' := by
  obtain ⟨v, q, Γ', h1, h2, h3, h4, h5⟩ := h
  exact ⟨v, q, Γ', h1, h2, h3, h4, fun x => (h5 x).trans (hq x)⟩


set_option maxRecDepth 20000 in
set_option maxHeartbeats 2000000 in
theorem pends_cat {w : World} {B c : Nat} {xs : List Int} {A : Option Addr} {Γ : Ghost} {g o : Nat} {l : List T} {v : Value} {q : Nat → Bool} (ih : ∀ u ∈ l, EndsP u) (h : Ask w B xs A Γ) (e : Γ.F g o = some (.mk 2 noneP 0 0 l)) (hv : InW w xs v q) :
    Calls Tryd.prog 35 #[.pointer (some ⟨g, o, none⟩), .slice A xs.length c, v] w (RetEndsP B w xs Γ (img (ECat xs l) fun i => q i = true)) := by
  have hkid : ∀ W Γ' (j : Nat) (hj : j < l.length), Ask W B xs A Γ' → Γ'.F g o = some (.mk 2 noneP 0 0 l) → Calls Tryd.prog 63 #[.pointer (some ⟨g, o, none⟩), .int .i64 j] W (RetKid B W xs Γ' (l[j]'hj)) := fun W Γ' j hj ha he => kid_p ha.inv.inv ha.le he j hj
  unfold RetKid at hkid
  have hend : ∀ u, u ∈ l → ∀ W Γ' g' o' v' q', Ask W B xs A Γ' → Γ'.F g' o' = some u → InW W xs v' q' → Calls Tryd.prog 35 #[.pointer (some ⟨g', o', none⟩), .slice A xs.length c, v'] W (RetEndsP B W xs Γ' (img (E xs u) fun i => q' i = true)) := fun u hu W Γ' g' o' v' q' ha he hv => ih u hu W B c xs A Γ' g' o' v' q' ha he hv
  unfold RetEndsP at hend
  have hm : xs.length / 64 + 1 ≤ 1000000 := by have := h.len; omega
  have hm0 : 0 < xs.length / 64 + 1 := by omega
  have hp := (h.inv.inv.part g o _ e).2
  have hlen := h.len
  have hn202 : l.length ≤ 202 := by
    have hwf := hp.wf
    cases hwf <;> assumption
  obtain ⟨gn, on, kn, n1, n2, n3, curn, n4⟩ := hp.node
  obtain ⟨A', nk, ck, rfl⟩ := n3.form
  obtain ⟨hnk, _⟩ := n3.bound
  have hnl : nk = l.length := hnk
  have n0 : w.cell? ⟨gn, on, none⟩ = some (.int .i64 2) := n2 0 _ rfl
  have n7 : w.cell? ⟨gn, on + 7, none⟩ = some (.slice A' nk ck) := n2 7 _ rfl
  have HKID := Lib.hid hkid
  have HEND := Lib.hid hend
  have HH := Lib.hid h
  have HE := Lib.hid e
  have HV := Lib.hid hv
  have HNL := Lib.hid (fun _ : Unit => hnl)
  have HNW := Lib.hid (nowhere_p w xs.length (by omega))
  unfold RetPl at HNW
  have HGN := Lib.hid (lt_of_some n4)
  have hnk2 : nk ≤ 202 := by omega
  clear hkid hend h e hv hp n2 n3 hnk hnl n4 ih hn202
  go_enter Tryd.func35, Tryd.ntmps35
  go_wp2
  go_loopg [2, 33] nk (fun m' now i wr => ∃ (j : Nat) (q' : Nat → Bool) (Γ' : Ghost), i = .int .i64 (j : Int) ∧ j ≤ nk ∧ m' = nk - j ∧ Ask wr B xs A Γ' ∧ Ext B w wr Γ Γ' ∧ InW wr xs now q' ∧ ∀ x, q' x = true ↔ img (ECat xs (l.take j)) (fun i => q i = true) x)
  case atStart => exact ⟨0, q, Γ, rfl, Nat.zero_le _, rfl, HH.out, Ext.refl _ _ _, HV.out, fun x => by simp [img, ECat]⟩
  case round =>
    obtain ⟨j, q1, Γ1, rfl, hj, hmj, ha1, hx1, hv1, hq1⟩ := hrel
    have HMJ := Lib.hid hmj
    have HA1 := Lib.hid ha1
    have HX1 := Lib.hid hx1
    have HV1 := Lib.hid hv1
    have HQ1 := Lib.hid hq1
    clear hmj ha1 hx1 hv1 hq1
    by_cases hlt : j < nk
    · have hji : (j : Int) < (nk : Int) := by omega
      have hjl : j < l.length := by have := HNL.out (); omega
      have HNO := Lib.hid (none_p wr 0 (xs.length / 64 + 1) u2 q1 HV1.out.pl hm0 hm)
      have hst : ∀ x, img (E xs (l[j]'hjl)) (fun i => q1 i = true) x ↔ img (ECat xs (l.take (j + 1))) (fun i => q i = true) x := fun x => by
        rw [img_congr (fun i => HQ1.out i) x]
        constructor
        · rintro ⟨y, ⟨i, hi, h1⟩, h2⟩
          exact ⟨i, hi, (ECat_take l j hjl i x).2 ⟨y, h1, h2⟩⟩
        · rintro ⟨i, hi, h1⟩
          obtain ⟨y, h2, h3⟩ := (ECat_take l j hjl i x).1 h1
          exact ⟨y, ⟨i, hi, h2⟩, h3⟩
      have HST := Lib.hid hst
      have HKJ := Lib.hid (HKID.out wr Γ1 j hjl HA1.out (HX1.out.F _ _ _ HE.out))
      have HMEM := Lib.hid (List.getElem_mem hjl)
      clear hst
      generalize l[j]'hjl = u at *
      go_wp2_with fail
      go_at_call 62
      with_reducible refine HNO.out.mono ?_
      rintro e6 w6 ⟨b6, rfl, hb6, rfl⟩
      have HB6 := Lib.hid hb6
      clear hb6 HNO
      cases b6
      · go_wp2_with (first
          | (go_at_call 63; (with_reducible refine HKJ.out.mono ?_); rintro e1 w1 ⟨g1, o1, Γ2, rfl, hf1, hi1, hx2, hM2⟩; have HA2 := Lib.hid (ask_kid HA1.out hi1 hx2 hM2); have HX2 := Lib.hid hx2; have HF1 := Lib.hid hf1; clear hf1 hi1 hx2 hM2)
          | (go_at_call 35; (with_reducible refine (HEND.out u HMEM.out _ _ _ _ _ _ HA2.out HF1.out (HV1.out.ext HX2.out)).mono ?_); rintro e2 w2 ⟨v2, q2, Γ3, rfl, hi3, hx3, hv3, hq3⟩; have HA3 := Lib.hid (HA2.out.ext hx3 hi3); have HX3 := Lib.hid hx3; have HV3 := Lib.hid hv3; have HQ3 := Lib.hid hq3; clear hi3 hx3 hv3 hq3))
        go_roundg (nk - (j + 1))
        case measure => have := HMJ.out; omega
        case rel => exact ⟨j + 1, q2, Γ3, by go_num, by omega, rfl, HA3.out, (HX1.out.trans HX2.out).trans HX3.out, HV3.out, fun x => (HQ3.out x).trans (HST.out x)⟩
      · go_wp2
        go_ret
        refine ⟨u2, q1, Γ1, rfl, HA1.out.inv, HX1.out, HV1.out, fun x => ?_⟩
        have hz : ∀ x, ¬ q1 x = true := fun x hx => by
          have h1 := HV1.out.le x hx
          have h2 := HB6.out.1 (by trivial) x (by omega)
          rw [h2] at hx
          cases hx
        constructor
        · intro hx; exact absurd hx (hz x)
        · rintro ⟨i, hi, hE⟩
          have hsp : l = l.take j ++ l.drop j := (List.take_append_drop j l).symm
          rw [hsp, ECat_app] at hE
          obtain ⟨y, h1, _⟩ := hE
          exact absurd ((HQ1.out y).2 ⟨i, hi, h1⟩) (hz y)
    · have hjn : j = l.length := by have := HNL.out (); omega
      have hji : ¬ ((j : Int) < (nk : Int)) := by omega
      have HJN := Lib.hid (fun _ : Unit => hjn)
      clear hlt hjn
      go_wp2
      go_ret
      refine ⟨u2, q1, Γ1, rfl, HA1.out.inv, HX1.out, HV1.out, fun x => ?_⟩
      have := HQ1.out x
      rwa [HJN.out (), List.take_length] at this

theorem EAny_take2 {xs : List Int} {l : List T} {j : Nat} (h : j < l.length) {S : Nat → Prop} (x : Nat) : img (EAny xs (l.take (j + 1))) S x ↔ img (EAny xs (l.take j)) S x ∨ img (E xs (l[j]'h)) S x := by
  constructor
  · rintro ⟨i, hi, h1⟩
    rcases (EAny_take l j h i x).1 h1 with h2 | h2
    · exact .inl ⟨i, hi, h2⟩
    · exact .inr ⟨i, hi, h2⟩
  · rintro (⟨i, hi, h1⟩ | ⟨i, hi, h1⟩)
    · exact ⟨i, hi, (EAny_take l j h i x).2 (.inl h1)⟩
    · exact ⟨i, hi, (EAny_take l j h i x).2 (.inr h1)⟩

set_option maxRecDepth 20000 in
set_option maxHeartbeats 2000000 in
theorem pends_alt {w : World} {B c : Nat} {xs : List Int} {A : Option Addr} {Γ : Ghost} {g o : Nat} {l : List T} {v : Value} {q : Nat → Bool} (ih : ∀ u ∈ l, EndsP u) (h : Ask w B xs A Γ) (e : Γ.F g o = some (.mk 3 noneP 0 0 l)) (hv : InW w xs v q) :
    Calls Tryd.prog 35 #[.pointer (some ⟨g, o, none⟩), .slice A xs.length c, v] w (RetEndsP B w xs Γ (img (EAny xs l) fun i => q i = true)) := by
  have hkid : ∀ W Γ' (j : Nat) (hj : j < l.length), Ask W B xs A Γ' → Γ'.F g o = some (.mk 3 noneP 0 0 l) → Calls Tryd.prog 63 #[.pointer (some ⟨g, o, none⟩), .int .i64 j] W (RetKid B W xs Γ' (l[j]'hj)) := fun W Γ' j hj ha he => kid_p ha.inv.inv ha.le he j hj
  unfold RetKid at hkid
  have hend : ∀ u, u ∈ l → ∀ W Γ' g' o' v' q', Ask W B xs A Γ' → Γ'.F g' o' = some u → InW W xs v' q' → Calls Tryd.prog 35 #[.pointer (some ⟨g', o', none⟩), .slice A xs.length c, v'] W (RetEndsP B W xs Γ' (img (E xs u) fun i => q' i = true)) := fun u hu W Γ' g' o' v' q' ha he hv => ih u hu W B c xs A Γ' g' o' v' q' ha he hv
  unfold RetEndsP at hend
  have hm : xs.length / 64 + 1 ≤ 1000000 := by have := h.len; omega
  have hm0 : 0 < xs.length / 64 + 1 := by omega
  have hp := (h.inv.inv.part g o _ e).2
  have hlen := h.len
  have hn202 : l.length ≤ 202 := by
    have hwf := hp.wf
    cases hwf <;> assumption
  obtain ⟨gn, on, kn, n1, n2, n3, curn, n4⟩ := hp.node
  obtain ⟨A', nk, ck, rfl⟩ := n3.form
  obtain ⟨hnk, _⟩ := n3.bound
  have hnl : nk = l.length := hnk
  have n0 : w.cell? ⟨gn, on, none⟩ = some (.int .i64 3) := n2 0 _ rfl
  have n7 : w.cell? ⟨gn, on + 7, none⟩ = some (.slice A' nk ck) := n2 7 _ rfl
  have HKID := Lib.hid hkid
  have HEND := Lib.hid hend
  have HH := Lib.hid h
  have HE := Lib.hid e
  have HV := Lib.hid hv
  have HNL := Lib.hid (fun _ : Unit => hnl)
  have HNW := Lib.hid (nowhere_p w xs.length (by omega))
  unfold RetPl at HNW
  have HGN := Lib.hid (lt_of_some n4)
  have hnk2 : nk ≤ 202 := by omega
  clear hkid hend h e hv hp n2 n3 hnk hnl n4 ih hn202
  go_enter Tryd.func35, Tryd.ntmps35
  have N1 := Lib.hid n1
  have N7 := Lib.hid n7
  have HGW := Lib.hid (HH.out.inv.inv.old HE.out)
  go_wp2_with (go_at_call 64; (with_reducible refine HNW.out.mono ?_); rintro e1 w1 ⟨vg, rfl, hvg, hb1⟩; have k1 := (hb1.cell (p := ⟨g, o, none⟩) HGW.out).trans N1.out; have k7 := (hb1.cell (p := ⟨gn, on + 7, none⟩) HGN.out).trans N7.out; have HVG := Lib.hid hvg; have HB1 := Lib.hid hb1; clear hvg hb1)
  have HMI := Lib.hid (Mine.new (w0 := w) HH.out.inv HVG.out (Nat.le_refl _))
  have HA0 := Lib.hid (HH.out.stays HB1.out)
  have HX0 := Lib.hid (Ext.stays Γ HB1.out HH.out.le)
  have HV0 := Lib.hid (HV.out.stays HB1.out)
  clear k1 k7
  go_loopg [59] nk (fun m' i wr => ∃ (j : Nat) (qg : Nat → Bool) (Γ' : Ghost), i = .int .i64 (j : Int) ∧ j ≤ nk ∧ m' = nk - j ∧ Ask wr B xs A Γ' ∧ Ext B w wr Γ Γ' ∧ InW wr xs v q ∧ Mine w wr B Γ' vg (xs.length / 64 + 1) qg ∧ (∀ x, qg x = true → x ≤ xs.length) ∧ ∀ x, qg x = true ↔ img (EAny xs (l.take j)) (fun i => q i = true) x)
  case atStart => exact ⟨0, noneP, Γ, rfl, Nat.zero_le _, rfl, HA0.out, HX0.out, HV0.out, HMI.out, fun x hx => by simp [noneP] at hx, fun x => by simp [img, EAny, noneP]⟩
  case round =>
    obtain ⟨j, qg, Γ1, rfl, hj, hmj, ha1, hx1, hv1, hg1, hle1, hq1⟩ := hrel
    have HMJ := Lib.hid hmj
    have HA1 := Lib.hid ha1
    have HX1 := Lib.hid hx1
    have HV1 := Lib.hid hv1
    have HG1 := Lib.hid hg1
    have HLE1 := Lib.hid hle1
    have HQ1 := Lib.hid hq1
    clear hmj ha1 hx1 hv1 hg1 hle1 hq1
    by_cases hlt : j < nk
    · have hji : (j : Int) < (nk : Int) := by omega
      have hjl : j < l.length := by have := HNL.out (); omega
      have HST := Lib.hid (fun x => EAny_take2 (xs := xs) hjl (S := fun i => q i = true) x)
      have HKJ := Lib.hid (HKID.out wr Γ1 j hjl HA1.out (HX1.out.F _ _ _ HE.out))
      have HMEM := Lib.hid (List.getElem_mem hjl)
      generalize l[j]'hjl = u at *
      go_wp2_with (first
        | (go_at_call 63; (with_reducible refine HKJ.out.mono ?_); rintro e1 w1 ⟨g1, o1, Γ2, rfl, hf1, hi1, hx2, hM2⟩; have HA2 := Lib.hid (ask_kid HA1.out hi1 hx2 hM2); have HX2 := Lib.hid hx2; have HF1 := Lib.hid hf1; clear hf1 hi1 hx2 hM2)
        | (go_at_call 35; (with_reducible refine (HEND.out u HMEM.out _ _ _ _ _ _ HA2.out HF1.out (HV1.out.ext HX2.out)).mono ?_); rintro e2 w2 ⟨v2, q2, Γ3, rfl, hi3, hx3, hv3, hq3⟩; have HA3 := Lib.hid (HA2.out.ext hx3 hi3); have HX3 := Lib.hid hx3; have HV3 := Lib.hid hv3; have HQ3 := Lib.hid hq3; have HG3 := Lib.hid ((HG1.out.ext HX2.out).ext hx3); have HX4 := Lib.hid ((HX1.out.trans HX2.out).trans hx3); have hjo := pljoin_p w2 w.heap.size 0 (xs.length / 64 + 1) vg v2 qg q2 HG3.out.pl hv3.pl HX4.out.below.size hm0 hm; unfold RetOwn at hjo; have HJO := Lib.hid hjo; clear hi3 hx3 hv3 hq3 hjo)
        | (go_at_call 65; (with_reducible refine HJO.out.mono ?_); rintro e7 w7 ⟨rfl, hv7, hg7⟩; have HV7 := Lib.hid hv7; have HG7 := Lib.hid hg7; clear hv7 hg7))
      go_roundg (nk - (j + 1))
      case measure => have := HMJ.out; omega
      case rel =>
        obtain ⟨z1, z2, z3⟩ := HG3.out.set hm0 HA3.out.inv HX4.out HV7.out HG7.out HH.out.le
        have hin : InW w7 xs v q := by
          have h1 := (HV1.out.ext HX2.out).ext HX3.out
          have h2 := HV.out.ext z2
          exact h2
        refine ⟨j + 1, orP qg q2, Γ3, by go_num, by omega, rfl, HH.out.ext z2 z1, z2, hin, z3, fun x hx => ?_, fun x => ?_⟩
        · simp only [orP, Bool.or_eq_true] at hx
          rcases hx with hx | hx
          · exact HLE1.out x hx
          · exact HV3.out.le x hx
        · rw [HST.out x, ← HQ1.out x, ← HQ3.out x]
          simp [orP]
    · have hjn : j = l.length := by have := HNL.out (); omega
      have hji : ¬ ((j : Int) < (nk : Int)) := by omega
      have HJN := Lib.hid (fun _ : Unit => hjn)
      clear hlt hjn
      go_wp2
      go_ret
      refine ⟨vg, qg, Γ1, rfl, HA1.out.inv, HX1.out, ⟨HG1.out.pl.lower (Nat.zero_le _), HLE1.out⟩, fun x => ?_⟩
      have := HQ1.out x
      rwa [HJN.out (), List.take_length] at this

set_option maxRecDepth 20000 in
set_option maxHeartbeats 1000000 in
theorem pends_one {w : World} {B c : Nat} {xs : List Int} {A : Option Addr} {Γ : Ghost} {g o : Nat} {p : Nat → Bool} {v : Value} {q : Nat → Bool} (h : Ask w B xs A Γ) (e : Γ.F g o = some (.mk 1 p 0 0 [])) (hv : InW w xs v q) :
    Calls Tryd.prog 35 #[.pointer (some ⟨g, o, none⟩), .slice A xs.length c, v] w (RetEndsP B w xs Γ (img (E xs (.mk 1 p 0 0 [])) fun i => q i = true)) := by
  have hbe := behind_p (c := c) h e rfl hv
  have HBE := Lib.hid hbe
  obtain ⟨gn, on, kn, n1, n2, n3, curn, n4⟩ := (h.inv.inv.part g o _ e).2.node
  have n0 : w.cell? ⟨gn, on, none⟩ = some (.int .i64 1) := n2 0 _ rfl
  clear hbe n2 n3 n4 h e hv
  go_enter Tryd.func35, Tryd.ntmps35
  go_wp2_with (go_at_call 61; (with_reducible refine HBE.out.mono ?_); rintro e1 w1 hr; have HR := Lib.hid hr.plain; obtain ⟨v1, q1, Γ1, rfl, hr2⟩ := hr; clear hr2)
  go_ret
  exact HR.out

set_option maxRecDepth 20000 in
set_option maxHeartbeats 1000000 in
theorem pends_rep {w : World} {B c : Nat} {xs : List Int} {A : Option Addr} {Γ : Ghost} {g o ln hn : Nat} {u : T} {v : Value} {q : Nat → Bool} (ih : EndsP u) (h : Ask w B xs A Γ) (e : Γ.F g o = some (.mk 4 noneP ln hn [u])) (hv : InW w xs v q) :
    Calls Tryd.prog 35 #[.pointer (some ⟨g, o, none⟩), .slice A xs.length c, v] w (RetEndsP B w xs Γ (img (E xs (.mk 4 noneP ln hn [u])) fun i => q i = true)) := by
  have hbe := times_p (c := c) ih h e hv
  have HBE := Lib.hid hbe
  obtain ⟨gn, on, kn, n1, n2, n3, curn, n4⟩ := (h.inv.inv.part g o _ e).2.node
  have n0 : w.cell? ⟨gn, on, none⟩ = some (.int .i64 4) := n2 0 _ rfl
  clear hbe n2 n3 n4 h e hv ih
  go_enter Tryd.func35, Tryd.ntmps35
  go_wp2_with (go_at_call 66; (with_reducible refine HBE.out.mono ?_); rintro e1 w1 hr; have HR := Lib.hid hr.plain; obtain ⟨v1, q1, Γ1, rfl, hr2⟩ := hr; clear hr2)
  go_ret
  exact HR.out

theorem pends_n : ∀ (N : Nat) (t : T), SizeOf.sizeOf t ≤ N → WF t → EndsP t
  | 0, t, h, _ => by obtain ⟨op, p, lo, hi, l⟩ := t; simp at h
  | N + 1, t, h, hw => by
    have small : ∀ (op : Int) (p : Nat → Bool) (lo hi : Int) (l : List T), t = .mk op p lo hi l → ∀ u ∈ l, SizeOf.sizeOf u ≤ N := fun op p lo hi l e u hu => by
      have := List.sizeOf_lt_of_mem hu
      rw [e] at h
      simp at h
      omega
    intro w B c xs A Γ g o v q ha he hv
    cases hw with
    | one p => exact pends_one ha he hv
    | cat l h2 hN hk => exact (pends_cat (fun u hu => pends_n N u (small _ _ _ _ _ rfl u hu) (hk u hu)) ha he hv).mono fun e w' hr => hr.congr fun x => by simp [img, E_cat]
    | alt l h2 hN hk => exact (pends_alt (fun u hu => pends_n N u (small _ _ _ _ _ rfl u hu) (hk u hu)) ha he hv).mono fun e w' hr => hr.congr fun x => by simp [img, E_alt]
    | rep m n u h0 h1 h2 h3 hk =>
      obtain ⟨ln, rfl⟩ : ∃ k : Nat, m = k := ⟨m.toNat, by omega⟩
      obtain ⟨hn, rfl⟩ : ∃ k : Nat, n = k := ⟨n.toNat, by omega⟩
      exact pends_rep (pends_n N u (small _ _ _ _ _ rfl u (by simp)) hk) ha he hv
theorem pends_p (t : T) (h : WF t) : EndsP t := pends_n _ t (Nat.le_refl _) h

end Go.Proofs.YtccbeimcggamiaaDoor

/-
  lang.Has, whatever the pattern and the word. Contracts for other texts; no statement of its own.
-/
namespace Go.Proofs.YtccbeimcggamiaaDoor
open Go Go.RowKit
attribute [local go_sem ↓] Go.wp_at_zero Go.wp_at_succ

/-- What Has tells. -/
def RetHas (w : World) (P : Prop) (e : Ending) (w' : World) : Prop := ∃ b : Bool, e = .returned (.bool b) ∧ (b = true ↔ P) ∧ Below w.heap.size w w'

/-- The ghost of one part alone. -/
def Ghost.single (g : Nat) (t : T) : Ghost := ⟨fun g' o' => if g' = g ∧ o' = 0 then some t else none, fun _ => none, fun _ => False⟩

theorem ask_single {w w5 : World} {xs : List Int} {A : Option Addr} {t : T} {kn : Value} {g0 : Nat} {cur : Array Value} (hB5 : Below w.heap.size w w5) (hg0 : w5.heap[g0]? = some (.cells cur 29 (0, 0))) (hn : NodeAt w5 g0 0 t kn) (ht : Tree w5 (fun _ => True) t kn) (hwf : WF t)
    (hrd : RdB w w.heap.size A xs) (hby : ∀ k, k < xs.length → 0 ≤ xs.getD k 0 ∧ xs.getD k 0 ≤ 255) (hlen : xs.length ≤ 100000) (htab : Tab w) :
    Ask (w5.alloc (.cells #[.pointer (some ⟨g0, 0, none⟩), .slice none 0 0, .int .i64 0, .slice none 0 0] 95)) w.heap.size xs A (Ghost.single w5.heap.size t) := by
  have hb : Below w5.heap.size w5 (w5.alloc (.cells #[.pointer (some ⟨g0, 0, none⟩), .slice none 0 0, .int .i64 0, .slice none 0 0] 95)) := (Below.refl _ _).alloc (Nat.le_refl _) _
  have hw := hB5.trans (hb.mono hB5.size)
  have hnew := World.alloc_heap_new w5 (.cells #[.pointer (some ⟨g0, 0, none⟩), .slice none 0 0, .int .i64 0, .slice none 0 0] 95)
  have hcell : ∀ (j : Nat) (u : Value), (#[Value.pointer (some ⟨g0, 0, none⟩), .slice none 0 0, .int .i64 0, .slice none 0 0] : Array Value)[j]? = some u → (w5.alloc (.cells #[.pointer (some ⟨g0, 0, none⟩), .slice none 0 0, .int .i64 0, .slice none 0 0] 95)).cell? ⟨w5.heap.size, j, none⟩ = some u := fun j u e => by
    rw [World.cell?_alloc_new]
    exact e
  have hg0l := lt_of_some hg0
  refine ⟨⟨⟨fun g o t' e => ?_, fun gf t' e => by cases e⟩, fun g e => e.elim⟩, hrd.below hw, hby, hlen, htab.below hw htab.1, htab.1, hw.size⟩
  unfold Ghost.single at e
  simp only at e
  by_cases hgo : g = w5.heap.size ∧ o = 0
  · rw [if_pos hgo] at e
    injection e with e
    obtain ⟨rfl, rfl⟩ := hgo
    subst e
    refine ⟨hB5.size, ⟨by omega, ⟨_, hnew⟩, hwf, ⟨g0, 0, kn, hcell 0 _ rfl, hn.block (hb.block g0 hg0l), ht.mono fun b _ hlt _ => ⟨hb.block b hlt, trivial⟩, cur, (hb.block g0 hg0l).trans hg0⟩, .inl (hcell 1 _ rfl), ⟨0, hcell 2 _ rfl, by omega⟩, .inl (hcell 3 _ rfl)⟩⟩
  · rw [if_neg hgo] at e
    cases e

set_option maxRecDepth 20000 in
set_option maxHeartbeats 2000000 in
theorem langhas_p {w : World} {c : Nat} {xs : List Int} {A : Option Addr} {t : T} {k : Value} {ok : Nat → Prop} (hwf : WF t) (ht : Tree w ok t k) (hrd : RdB w w.heap.size A xs) (hby : ∀ k, k < xs.length → 0 ≤ xs.getD k 0 ∧ xs.getD k 0 ≤ 255) (hlen : xs.length ≤ 100000) (htab : Tab w) :
    Calls Tryd.prog 11 #[nodeP t k, .slice A xs.length c] w (RetHas w (E xs t 0 xs.length)) := by
  obtain ⟨A', n', c', rfl⟩ := ht.form
  have hel : E xs t 0 xs.length → LenU false t ≤ xs.length ∧ xs.length ≤ LenU true t := fun hE => by
    have := E_len hwf 0 xs.length (Nat.zero_le _) hE
    omega
  have b8 := Box8.new w t (.slice A' n' c')
  have hB1 : Below w.heap.size w (w.alloc (.cells #[.int .i64 t.op, .int .u64 (word t.set 0), .int .u64 (word t.set 1), .int .u64 (word t.set 2), .int .u64 (word t.set 3), .int .i64 t.lo, .int .i64 t.hi, .slice A' n' c'] 29)) := (Below.refl _ _).alloc (Nat.le_refl _) _
  have hblk := World.alloc_heap_new w (.cells #[.int .i64 t.op, .int .u64 (word t.set 0), .int .u64 (word t.set 1), .int .u64 (word t.set 2), .int .u64 (word t.set 3), .int .i64 t.lo, .int .i64 t.hi, .slice A' n' c'] 29)
  have hsp := span_p (w.alloc (.cells #[.int .i64 t.op, .int .u64 (word t.set 0), .int .u64 (word t.set 1), .int .u64 (word t.set 2), .int .u64 (word t.set 3), .int .i64 t.lo, .int .i64 t.hi, .slice A' n' c'] 29)) (xs.length + 1) (by omega) (by omega) w.heap.size 0 hwf (ht.alloc _) b8.nodeAt
  rw [show ((xs.length + 1 : Nat) : Int) = (xs.length : Int) + 1 by omega] at hsp
  have ht1 : Tree (w.alloc (.cells #[.int .i64 t.op, .int .u64 (word t.set 0), .int .u64 (word t.set 1), .int .u64 (word t.set 2), .int .u64 (word t.set 3), .int .i64 t.lo, .int .i64 t.hi, .slice A' n' c'] 29)) (fun _ => True) t (.slice A' n' c') := (ht.alloc _).mono fun b _ _ _ => ⟨rfl, trivial⟩
  have hnode := b8.nodeAt
  have hs1 : (w.alloc (.cells #[.int .i64 t.op, .int .u64 (word t.set 0), .int .u64 (word t.set 1), .int .u64 (word t.set 2), .int .u64 (word t.set 3), .int .i64 t.lo, .int .i64 t.hi, .slice A' n' c'] 29)).heap.size = w.heap.size + 1 := by simp
  unfold RetTwo at hsp
  have HSP := Lib.hid hsp
  have HEL := Lib.hid hel
  have HB1 := Lib.hid hB1
  have HBLK := Lib.hid hblk
  have HT1 := Lib.hid ht1
  have HND := Lib.hid hnode
  have HRD := Lib.hid hrd
  have HBY := Lib.hid hby
  have HTB := Lib.hid htab
  have HWF := Lib.hid hwf
  have HS1 := Lib.hid hs1
  generalize hl0 : LenU false t = l0 at *
  generalize hl1 : LenU true t = l1 at *
  have HL := Lib.hid (fun _ : Unit => And.intro hl0 hl1)
  unfold nodeP
  clear hsp hel hB1 hblk ht1 hnode hrd hby htab hwf ht b8 hs1 hl0 hl1
  by_cases h1 : xs.length < l0
  · have hm0 : ((min l0 (xs.length + 1) : Nat) : Int) = (xs.length : Int) + 1 := by omega
    have hi1 : (xs.length : Int) < (xs.length : Int) + 1 := by omega
    rw [hm0] at HSP
    go_enter Tryd.func11, Tryd.ntmps11
    go_wp2_with (go_at_call 34; (with_reducible refine HSP.out.mono ?_); rintro e w5 ⟨rfl, hb5⟩; have HB5 := Lib.hid hb5; clear hb5)
    go_ret
    exact ⟨false, rfl, ⟨fun h => (by cases h), fun h => by have := HEL.out h; omega⟩, HB1.out.trans (HB5.out.mono HB1.out.size)⟩
  · have hm0 : min l0 (xs.length + 1) = l0 := by omega
    rw [hm0] at HSP
    have hi1 : ¬ ((xs.length : Int) < (l0 : Int)) := by omega
    by_cases h2 : l1 < xs.length
    · have hm1 : min l1 (xs.length + 1) = l1 := by omega
      rw [hm1] at HSP
      have hi2 : (l1 : Int) < (xs.length : Int) := by omega
      clear hm0 hm1
      go_enter Tryd.func11, Tryd.ntmps11
      go_wp2_with (go_at_call 34; (with_reducible refine HSP.out.mono ?_); rintro e w5 ⟨rfl, hb5⟩; have HB5 := Lib.hid hb5; clear hb5)
      go_ret
      exact ⟨false, rfl, ⟨fun h => (by cases h), fun h => by have := HEL.out h; omega⟩, HB1.out.trans (HB5.out.mono HB1.out.size)⟩
    · obtain ⟨d, hd⟩ : ∃ d : Nat, d = min l1 (xs.length + 1) := ⟨_, rfl⟩
      rw [← hd] at HSP
      have hi2 : ¬ ((d : Int) < (xs.length : Int)) := by omega
      have hon : ∀ W, Calls Tryd.prog 36 #[.int .i64 0, .int .i64 xs.length] W (RetPl W (xs.length / 64 + 1) (fun x => x == 0)) := fun W => only_p W 0 xs.length (by omega) (Nat.zero_le _)
      unfold RetPl at hon
      have HON := Lib.hid hon
      have hpe := pends_p t HWF.out
      unfold EndsP RetEndsP at hpe
      have HPE := Lib.hid hpe
      have hph := fun W v q (h : Pl W 0 v (xs.length / 64 + 1) q) => plhas_p W 0 (xs.length / 64 + 1) xs.length v q h (by omega) (by omega)
      have HPH := Lib.hid hph
      clear hm0 hd hon hpe hph
      go_enter Tryd.func11, Tryd.ntmps11
      go_wp2_with (first
        | (go_at_call 34; (with_reducible refine HSP.out.mono ?_); rintro e w5 ⟨rfl, hb5⟩; have HB5 := Lib.hid hb5; clear hb5; have HASK := Lib.hid (ask_single (w := w) (w5 := w5) (HB1.out.trans (HB5.out.mono HB1.out.size)) ((HB5.out.block w.heap.size (by rw [HS1.out]; omega)).trans HBLK.out) (HND.out.block (HB5.out.block w.heap.size (by rw [HS1.out]; omega))) (HT1.out.mono fun b _ hlt _ => ⟨HB5.out.block b hlt, trivial⟩) HWF.out HRD.out HBY.out hlen HTB.out))
        | (go_at_call 36; (with_reducible refine (HON.out _).mono ?_); rintro e2 w7 ⟨v2, rfl, hv2, hb7⟩; have HV2 := Lib.hid hv2; have HB7 := Lib.hid hb7; have HA7 := Lib.hid (HASK.out.stays hb7); have HI7 := Lib.hid (show InW w7 xs v2 (fun x => x == 0) from ⟨hv2.lower (Nat.zero_le _), fun x hx => by have : x = 0 := (by simpa using hx); omega⟩); clear hv2 hb7)
        | (go_at_call 35; (with_reducible refine (HPE.out _ _ _ _ _ _ _ _ _ _ HA7.out (by simp [Ghost.single]) HI7.out).mono ?_); rintro e3 w8 ⟨v3, q3, Γ3, rfl, hi3, hx3, hv3, hq3⟩; have HX3 := Lib.hid hx3; have HV3 := Lib.hid hv3; have HQ3 := Lib.hid hq3; clear hi3 hx3 hv3 hq3)
        | (go_at_call 37; (with_reducible refine (HPH.out _ _ _ HV3.out.pl).mono ?_); rintro e4 w9 ⟨rfl, rfl⟩))
      go_ret
      have hb5 := HB1.out.trans (HB5.out.mono HB1.out.size)
      have hb6 := hb5.alloc hb5.size (.cells #[.pointer (some ⟨w.heap.size, 0, none⟩), .slice none 0 0, .int .i64 0, .slice none 0 0] 95)
      refine ⟨q3 xs.length, rfl, ?_, (hb6.trans (HB7.out.mono hb6.size)).trans HX3.out.below⟩
      rw [HQ3.out xs.length]
      constructor
      · rintro ⟨i, hi, hE⟩
        have : i = 0 := by simpa using hi
        rwa [this] at hE
      · intro hE
        exact ⟨0, rfl, hE⟩

end Go.Proofs.YtccbeimcggamiaaDoor

/-
  luhn: Sum and Ok. Contracts for other texts; no statement of its own.
-/
namespace Go.Proofs.YtccbeimcggamiaaDoor
open Go Go.RowKit

theorem ret_i64 {a b : Int} (h : a = b) : Ending.returned (.int .i64 a) = .returned (.int .i64 b) := by rw [h]
theorem lpart_p (w : World) (d : Int) (k : Nat) (h0 : 0 ≤ d) (h9 : d ≤ 9) (hk : k ≤ 9000000000000000000) :
    Calls Tryd.prog 95 #[.int .i64 d, .int .i64 ((k : Int) + 1)] w fun e w' => e = .returned (.int .i64 (wt k d)) ∧ w = w' := by
  by_cases hodd : k % 2 = 1
  · have e : wt k d = if 9 < 2 * d then 2 * d - 9 else 2 * d := by simp [wt, hodd]
    have HE := Lib.hid e
    clear e
    have h1 : (((k : Int) + 1) % 2 == 1) = false := by simp; omega
    have h2 : ¬ ((k : Int) + 1) % 2 = 1 := by omega
    by_cases h4 : 4 < d
    · go_enter Tryd.func95, Tryd.ntmps95
      go_wp2
      go_ret
      exact ⟨ret_i64 (by rw [HE.out, if_pos (by omega)]), rfl⟩
    · go_enter Tryd.func95, Tryd.ntmps95
      go_wp2
      go_ret
      exact ⟨ret_i64 (by rw [HE.out, if_neg (by omega)]), rfl⟩
  · have e : wt k d = d := by simp [wt, hodd]
    have HE := Lib.hid e
    clear e
    have h1 : (((k : Int) + 1) % 2 == 1) = true := by simp; omega
    have h2 : ((k : Int) + 1) % 2 = 1 := by omega
    go_enter Tryd.func95, Tryd.ntmps95
    go_wp2
    go_ret
    exact ⟨ret_i64 HE.out.symm, rfl⟩

set_option maxHeartbeats 400000 in
theorem lsum_p (A : Option Addr) (n cap : Nat) (xs : List Int) (w : World) (B : Nat) (hn : n = xs.length) (hr : RdB w B A xs) (hxs : ∀ k, k < xs.length → 0 ≤ xs.getD k 0 ∧ xs.getD k 0 ≤ 255) (hm : n ≤ 9000000000000000000) :
    Calls Tryd.prog 77 #[.slice A n cap] w fun e w' => e = .returned (.tuple #[.int .i64 (lN xs : Nat), .int .i64 (lS xs)]) ∧ w = w' := by
  have HN := Lib.hid hn
  have HX := Lib.hid hxs
  have hlen := lN_le xs
  rw [← hn] at hlen
  have HL := Lib.hid hlen
  clear hn hxs hlen
  go_enter Tryd.func77, Tryd.ntmps77
  go_wp2
  go_loop [4, 5, 6] (fun s4 s5 s6 => ∃ k : Nat, k ≤ n ∧ s6 = .int .i64 ((k : Int) - 1) ∧ s4 = .int .i64 (lN (xs.drop k) : Nat) ∧ s5 = .int .i64 (lS (xs.drop k))) (fun _ _ s6 => (intOf s6 + 1).toNat)
  case atStart => exact ⟨n, Nat.le_refl _, by go_num, by rw [HN.out, List.drop_length]; rfl, by rw [HN.out, List.drop_length]; rfl⟩
  case round =>
    obtain ⟨k, hk, rfl, rfl, rfl⟩ := hrel
    by_cases hk0 : k = 0
    · subst hk0
      go_wp2
      go_ret2
      exact ⟨rfl, rfl⟩
    · obtain ⟨j, rfl⟩ : ∃ j, k = j + 1 := ⟨k - 1, by omega⟩
      have hjx : j < xs.length := by rw [← HN.out]; omega
      obtain ⟨b, off, rfl, hbB, hc⟩ := hr j hjx
      have hx := HX.out j hjx
      have HD := Lib.hid (drop_cons xs j hjx)
      obtain ⟨v, hv⟩ : ∃ v, v = xs.getD j 0 := ⟨_, rfl⟩
      rw [← hv] at hx hc HD
      have hbd := lS_bd (xs.drop (j + 1))
      have hl1 : lN (xs.drop (j + 1)) ≤ n := by have := lN_le (xs.drop (j + 1)); have hN' := HN.out; simp at this; omega
      obtain ⟨N, hN⟩ : ∃ N, lN (xs.drop (j + 1)) = N := ⟨_, rfl⟩
      obtain ⟨S, hS⟩ : ∃ S, lS (xs.drop (j + 1)) = S := ⟨_, rfl⟩
      rw [hN] at hl1 
      rw [hS] at hbd
      rw [hN, hS]
      have HNN := Lib.hid hN
      have HSS := Lib.hid hS
      have e1 : ((j + 1 : Nat) : Int) - 1 = (j : Int) := by omega
      rw [e1]
      clear hN hS hv hjx e1 hk0
      cases hd : isDg v
      · have HNo := Lib.hid hd
        rcases isDg_no hd with hlo | hhi
        · clear hd
          go_wp2
          go_round
          case rel => exact ⟨j, by omega, by go_num, by rw [HD.out, lN_no _ HNo.out, HNN.out], by rw [HD.out, lS_no _ HNo.out, HSS.out]⟩
          case measure => simp [intOf]
        · clear hd
          go_wp2
          go_round
          case rel => exact ⟨j, by omega, by go_num, by rw [HD.out, lN_no _ HNo.out, HNN.out], by rw [HD.out, lS_no _ HNo.out, HSS.out]⟩
          case measure => simp [intOf]
      · have HYes := Lib.hid hd
        obtain ⟨h48, h57⟩ := isDg_yes hd
        have hw := wt_bd N (v - 48) (by omega) (by omega)
        have HW := lpart_p (w := w) (v - 48) N (by omega) (by omega) (by omega)
        clear hd
        obtain ⟨p, hp⟩ : ∃ p, wt N (v - 48) = p := ⟨_, rfl⟩
        rw [hp] at hw HW
        have HP := Lib.hid hp
        clear hp
        go_wp2_with (go_at_call 95; (with_reducible refine HW.mono ?_); rintro e w' ⟨rfl, rfl⟩)
        go_round
        case rel => exact ⟨j, by omega, by go_num, by rw [HD.out, lN_yes _ HYes.out, HNN.out]; go_num, by rw [HD.out, lS_yes _ HYes.out, HNN.out, HSS.out, HP.out]⟩
        case measure => simp [intOf]

set_option maxHeartbeats 400000 in
theorem lok_p (A : Option Addr) (n cap : Nat) (xs : List Int) (w : World) (B : Nat) (hn : n = xs.length) (hr : RdB w B A xs) (hxs : ∀ k, k < xs.length → 0 ≤ xs.getD k 0 ∧ xs.getD k 0 ≤ 255) (hm : n ≤ 9000000000000000000) :
    Calls Tryd.prog 49 #[.slice A n cap] w fun e w' => e = .returned (.bool (decide (2 ≤ lN xs) && decide (lS xs = 0))) ∧ w = w' := by
  have H := lsum_p A n cap xs w B hn hr hxs hm
  have hl := lN_le xs
  have hb := lS_bd xs
  rw [← hn] at hl
  clear hr hxs hn
  obtain ⟨N, hN⟩ : ∃ N, lN xs = N := ⟨_, rfl⟩
  obtain ⟨S, hS⟩ : ∃ S, lS xs = S := ⟨_, rfl⟩
  rw [hN, hS] at H
  rw [hN] at hl
  rw [hS] at hb
  rw [hN, hS]
  clear hN hS
  by_cases h2 : 2 ≤ N
  · by_cases h0 : S = 0
    · subst h0
      go_enter Tryd.func49, Tryd.ntmps49
      go_wp2_with (go_at_call 77; (with_reducible refine H.mono ?_); rintro e w' ⟨rfl, rfl⟩)
      go_ret
      simp [h2]
    · have h0' : (S == 0) = false := by simpa using h0
      go_enter Tryd.func49, Tryd.ntmps49
      go_wp2_with (go_at_call 77; (with_reducible refine H.mono ?_); rintro e w' ⟨rfl, rfl⟩)
      go_ret
      simp [h0]
  · go_enter Tryd.func49, Tryd.ntmps49
    go_wp2_with (go_at_call 77; (with_reducible refine H.mono ?_); rintro e w' ⟨rfl, rfl⟩)
    go_ret
    simp [h2]
end Go.Proofs.YtccbeimcggamiaaDoor

/-
  mask.Fits: whether a rule fits bytes. Contracts for other texts; no statement of its own.
-/
namespace Go.Proofs.YtccbeimcggamiaaDoor
open Go Go.RowKit
attribute [local go_sem ↓] Go.wp_at_zero Go.wp_at_succ

def ruleP (r : T × Bool) (k : Value) : Value := .agg #[.int .i64 r.1.op, .int .u64 (word r.1.set 0), .int .u64 (word r.1.set 1), .int .u64 (word r.1.set 2), .int .u64 (word r.1.set 3), .int .i64 r.1.lo, .int .i64 r.1.hi, k, .bool r.2]
set_option maxRecDepth 20000 in
set_option maxHeartbeats 1000000 in
theorem mfits_p {w : World} {c : Nat} {xs : List Int} {A : Option Addr} {r : T × Bool} {k : Value} {ok : Nat → Prop} (hwf : WF r.1) (ht : Tree w ok r.1 k) (hrd : RdB w w.heap.size A xs) (hby : byteOk xs) (hlen : xs.length ≤ 100000) (htab : Tab w) :
    Calls Tryd.prog 19 #[ruleP r k, .slice A xs.length c] w (RetHas w (Fit xs r 0 xs.length)) := by
  have hhas := fun (W : World) (hb : Below w.heap.size w W) => langhas_p (c := c) hwf (ht.stays hb) ((hrd.below hb).more hb.size) hby hlen (htab.below hb htab.1)
  have hok := fun (W : World) (hb : Below w.heap.size w W) => lok_p A xs.length c xs W w.heap.size rfl (hrd.below hb) hby (by omega)
  rw [show (decide (2 ≤ lN xs) && decide (lS xs = 0)) = okV xs from rfl] at hok
  obtain ⟨A', n', c', rfl⟩ := ht.form
  have hfw := fit_whole xs r
  obtain ⟨t, b⟩ := r
  simp only at hhas hwf ht hfw
  obtain ⟨o, ho⟩ : ∃ o, okV xs = o := ⟨_, rfl⟩
  rw [ho] at hok hfw
  unfold RetHas at hhas
  unfold nodeP at hhas
  have HH := Lib.hid hhas
  have HO := Lib.hid hok
  have HF := Lib.hid hfw
  unfold ruleP RetHas
  simp only
  clear hhas hok hfw ht hrd hby htab hwf ho
  obtain ⟨L, hL⟩ : ∃ L, xs.length = L := ⟨_, rfl⟩
  rw [hL] at HH HO HF ⊢
  clear hL
  have hb0 := fun (b : Bool) => (Below.refl w.heap.size w).alloc (Nat.le_refl _) (.cells #[.int .i64 t.op, .int .u64 (word t.set 0), .int .u64 (word t.set 1), .int .u64 (word t.set 2), .int .u64 (word t.set 3), .int .i64 t.lo, .int .i64 t.hi, .slice A' n' c', .bool b] 65)
  have HB0 := Lib.hid (hb0 b)
  clear hb0
  cases b <;> cases o
  all_goals
    go_enter Tryd.func19, Tryd.ntmps19
    go_wp2_with (first
      | (go_at_call 49; (with_reducible refine (HO.out _ HB0.out).mono ?_); rintro e w5 ⟨rfl, rfl⟩)
      | (go_at_call 11; (with_reducible refine (HH.out _ HB0.out).mono ?_); rintro e w6 ⟨b6, rfl, hb6, hb⟩; have H6 := Lib.hid hb6; have HB := Lib.hid (gro HB0.out hb); clear hb6 hb))
    go_ret
  · exact ⟨_, rfl, by rw [HF.out, H6.out]; simp, HB.out⟩
  · exact ⟨_, rfl, by rw [HF.out, H6.out]; simp, HB.out⟩
  · exact ⟨false, rfl, by rw [HF.out]; simp, HB0.out⟩
  · exact ⟨_, rfl, by rw [HF.out, H6.out]; simp, HB.out⟩

end Go.Proofs.YtccbeimcggamiaaDoor

/-
  lang.Least, lang.Most. Contracts for other texts; no statement of its own.
-/
namespace Go.Proofs.YtccbeimcggamiaaDoor
open Go Go.RowKit
attribute [local go_sem ↓] Go.wp_at_zero Go.wp_at_succ

set_option maxHeartbeats 1000000 in
theorem least_p {t : T} {k : Value} {ok : Nat → Prop} (w : World) (hwf : WF t) (ht : Tree w ok t k) : Calls Tryd.prog 79 #[nodeP t k] w (RetInt w (lenN false t)) := by
  obtain ⟨A, n', c, rfl⟩ := ht.form
  have hk := (span_p (w.alloc (.cells #[.int .i64 t.op, .int .u64 (word t.set 0), .int .u64 (word t.set 1), .int .u64 (word t.set 2), .int .u64 (word t.set 3), .int .i64 t.lo, .int .i64 t.hi, .slice A n' c] 29)) 1000 (by omega) (by omega) w.heap.size 0 hwf (ht.alloc _) (Box8.new w t (.slice A n' c)).nodeAt)
  rw [show ((1000 : Nat) : Int) = 1000 from rfl] at hk
  have hK := Lib.hid hk
  clear hk
  rw [lenN_eq false hwf]
  unfold RetTwo at hK
  unfold nodeP
  clear ht hwf
  go_enter Tryd.func79, Tryd.ntmps79
  go_wp2_with (go_at_call 34; (with_reducible refine hK.out.mono ?_); rintro e w5 ⟨rfl, hb5⟩)
  go_ret
  exact ⟨rfl, gro1 (Below.refl _ _) hb5⟩
set_option maxHeartbeats 1000000 in
theorem most_p {t : T} {k : Value} {ok : Nat → Prop} (w : World) (hwf : WF t) (ht : Tree w ok t k) : Calls Tryd.prog 81 #[nodeP t k] w (RetInt w (lenN true t)) := by
  obtain ⟨A, n', c, rfl⟩ := ht.form
  have hk := (span_p (w.alloc (.cells #[.int .i64 t.op, .int .u64 (word t.set 0), .int .u64 (word t.set 1), .int .u64 (word t.set 2), .int .u64 (word t.set 3), .int .i64 t.lo, .int .i64 t.hi, .slice A n' c] 29)) 1000 (by omega) (by omega) w.heap.size 0 hwf (ht.alloc _) (Box8.new w t (.slice A n' c)).nodeAt)
  rw [show ((1000 : Nat) : Int) = 1000 from rfl] at hk
  have hK := Lib.hid hk
  clear hk
  rw [lenN_eq true hwf]
  unfold RetTwo at hK
  unfold nodeP
  clear ht hwf
  go_enter Tryd.func81, Tryd.ntmps81
  go_wp2_with (go_at_call 34; (with_reducible refine hK.out.mono ?_); rintro e w5 ⟨rfl, hb5⟩)
  go_ret
  exact ⟨rfl, gro1 (Below.refl _ _) hb5⟩

end Go.Proofs.YtccbeimcggamiaaDoor

/-
  Package set: Or. Contracts for other texts; no statement of its own.
-/
namespace Go.Proofs.YtccbeimcggamiaaDoor
open Go Go.RowKit

set_option maxHeartbeats 400000 in
theorem or_p (p q : Nat → Bool) (w : World) :
    Calls Tryd.prog 96 #[.agg #[.int .u64 (word p 0), .int .u64 (word p 1), .int .u64 (word p 2), .int .u64 (word p 3)], .agg #[.int .u64 (word q 0), .int .u64 (word q 1), .int .u64 (word q 2), .int .u64 (word q 3)]] w fun e w' => e = .returned (setV (orP p q)) ∧ Below w.heap.size w w' := by
  generalize ha0 : word p 0 = a0
  generalize ha1 : word p 1 = a1
  generalize ha2 : word p 2 = a2
  generalize ha3 : word p 3 = a3
  generalize hb0 : word q 0 = b0
  generalize hb1 : word q 1 = b1
  generalize hb2 : word q 2 = b2
  generalize hb3 : word q 3 = b3
  have hv : setV (orP p q) = .agg #[.int .u64 (bits .or .u64 a0 b0), .int .u64 (bits .or .u64 a1 b1), .int .u64 (bits .or .u64 a2 b2), .int .u64 (bits .or .u64 a3 b3)] := by
    unfold setV
    rw [← or_words, ← or_words, ← or_words, ← or_words, ha0, ha1, ha2, ha3, hb0, hb1, hb2, hb3]
  rw [hv]
  clear hv ha0 ha1 ha2 ha3 hb0 hb1 hb2 hb3
  have i0 : ∀ w : World, (Instr.index 26 (.agg #[.int .u64 b0, .int .u64 b1, .int .u64 b2, .int .u64 b3]) (.int .i64 0)).run Tryd.prog w = .ok (.int .u64 b0) w := fun _ => by kernel_rfl
  have i1 : ∀ w : World, (Instr.index 26 (.agg #[.int .u64 b0, .int .u64 b1, .int .u64 b2, .int .u64 b3]) (.int .i64 1)).run Tryd.prog w = .ok (.int .u64 b1) w := fun _ => by kernel_rfl
  have i2 : ∀ w : World, (Instr.index 26 (.agg #[.int .u64 b0, .int .u64 b1, .int .u64 b2, .int .u64 b3]) (.int .i64 2)).run Tryd.prog w = .ok (.int .u64 b2) w := fun _ => by kernel_rfl
  have i3 : ∀ w : World, (Instr.index 26 (.agg #[.int .u64 b0, .int .u64 b1, .int .u64 b2, .int .u64 b3]) (.int .i64 3)).run Tryd.prog w = .ok (.int .u64 b3) w := fun _ => by kernel_rfl
  go_enter Tryd.func96, Tryd.ntmps96
  go_wp2
  refine wp_loop_rounds 5 ?_
  iterate 5 (rw [rounds_succ]; go_wp2)
  refine bodyPost_ret (v := .agg #[.int .u64 (bits .or .u64 a0 b0), .int .u64 (bits .or .u64 a1 b1), .int .u64 (bits .or .u64 a2 b2), .int .u64 (bits .or .u64 a3 b3)]) ?_ rfl ⟨rfl, ?_⟩
  · simp [results, Tryd.results96, go_sem]
  · exact ((((Below.refl _ _).alloc (Nat.le_refl _) _).alloc (by simp) _).alloc (by simp; omega) _)

end Go.Proofs.YtccbeimcggamiaaDoor
