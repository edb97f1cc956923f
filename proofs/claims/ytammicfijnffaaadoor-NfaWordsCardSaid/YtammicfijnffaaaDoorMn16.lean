/-
  Several texts of this proof in one file: EndsMath, PartEnds, LangHas, Law4b, Open. No statement of its own.
-/
import Derived.Test.YtammicfijnffaaaDoorMn3
import Derived.Test.YtammicfijnffaaaDoorMn15
import Derived.Test.YtammicfijnffaaaDoorMn6
import Derived.Test.YtammicfijnffaaaDoorMn13
import Derived.Test.YtammicfijnffaaaDoorMn12
import Derived.Test.YtammicfijnffaaaDoorMn1
import Derived.ProofKit
import Derived.OpenShut
import Derived.Laws.IdiomArrays
import Derived.Lib.SmallJoins
set_option linter.unusedVariables false
set_option linter.unusedSimpArgs false
set_option maxRecDepth 20000

/-
  Words of the kids up to one: plain mathematics; no statement of its own.
-/
namespace Go.Proofs.YtammicfijnffaaaDoor
open Go Go.RowKit

theorem EAny_take {xs : List Int} (l : List T) (j : Nat) (h : j < l.length) (i x : Nat) : EAny xs (l.take (j + 1)) i x ↔ EAny xs (l.take j) i x ∨ E xs (l[j]'h) i x := by
  rw [List.take_succ_eq_append_getElem h, EAny_iff, EAny_iff]
  simp only [List.mem_append, List.mem_singleton]
  constructor
  · rintro ⟨t, h1 | h1, h2⟩
    · exact .inl ⟨t, h1, h2⟩
    · exact .inr (h1 ▸ h2)
  · rintro (⟨t, h1, h2⟩ | h2)
    · exact ⟨t, .inl h1, h2⟩
    · exact ⟨_, .inr rfl, h2⟩
theorem ECat_take {xs : List Int} (l : List T) (j : Nat) (h : j < l.length) (i x : Nat) : ECat xs (l.take (j + 1)) i x ↔ ∃ y, ECat xs (l.take j) i y ∧ E xs (l[j]'h) y x := by
  rw [List.take_succ_eq_append_getElem h, ECat_app]
  simp [ECat]
end Go.Proofs.YtammicfijnffaaaDoor

/-
  lang.part.ends, whatever the pattern. Contracts for other texts; no statement of its own.
-/
namespace Go.Proofs.YtammicfijnffaaaDoor
open Go Go.RowKit
attribute [local go_sem ↓] Go.wp_at_zero Go.wp_at_succ

theorem RetEndsP.congr {B : Nat} {w w' : World} {xs : List Int} {Γ : Ghost} {P Q : Nat → Prop} {e : Ending} (h : RetEndsP B w xs Γ P e w') (hq : ∀ x, P x ↔ Q x) : RetEndsP B w xs Γ Q e w' := by
  obtain ⟨v, q, Γ', h1, h2, h3, h4, h5⟩ := h
  exact ⟨v, q, Γ', h1, h2, h3, h4, fun x => (h5 x).trans (hq x)⟩


set_option maxRecDepth 20000 in
set_option maxHeartbeats 2000000 in
theorem pends_cat {w : World} {B c : Nat} {xs : List Int} {A : Option Addr} {Γ : Ghost} {g o : Nat} {l : List T} {v : Value} {q : Nat → Bool} (ih : ∀ u ∈ l, EndsP u) (h : Ask w B xs A Γ) (e : Γ.F g o = some (.mk 2 noneP 0 0 l)) (hv : InW w xs v q) :
    Calls Tryd.prog 17 #[.pointer (some ⟨g, o, none⟩), .slice A xs.length c, v] w (RetEndsP B w xs Γ (img (ECat xs l) fun i => q i = true)) := by
  have hkid : ∀ W Γ' (j : Nat) (hj : j < l.length), Ask W B xs A Γ' → Γ'.F g o = some (.mk 2 noneP 0 0 l) → Calls Tryd.prog 27 #[.pointer (some ⟨g, o, none⟩), .int .i64 j] W (RetKid B W xs Γ' (l[j]'hj)) := fun W Γ' j hj ha he => kid_p ha.inv.inv ha.le he j hj
  unfold RetKid at hkid
  have hend : ∀ u, u ∈ l → ∀ W Γ' g' o' v' q', Ask W B xs A Γ' → Γ'.F g' o' = some u → InW W xs v' q' → Calls Tryd.prog 17 #[.pointer (some ⟨g', o', none⟩), .slice A xs.length c, v'] W (RetEndsP B W xs Γ' (img (E xs u) fun i => q' i = true)) := fun u hu W Γ' g' o' v' q' ha he hv => ih u hu W B c xs A Γ' g' o' v' q' ha he hv
  unfold RetEndsP at hend
  have hm : xs.length / 64 + 1 ≤ 1000000 := by have := h.len; omega
  have hm0 : 0 < xs.length / 64 + 1 := by omega
  have hp := (h.inv.inv.part g o _ e).2
  have hlen := h.len
  have hn202 : l.length ≤ 202 := by
    have hwf := hp.wf
    cases hwf <;> assumption
  obtain ⟨gn, on, kn, n1, n2, n3, curn, n4⟩ := hp.node
  obtain ⟨A', nk, ck, rfl⟩ := n3.form
  obtain ⟨hnk, _⟩ := n3.bound
  have hnl : nk = l.length := hnk
  have n0 : w.cell? ⟨gn, on, none⟩ = some (.int .i64 2) := n2 0 _ rfl
  have n7 : w.cell? ⟨gn, on + 7, none⟩ = some (.slice A' nk ck) := n2 7 _ rfl
  have HKID := Lib.hid hkid
  have HEND := Lib.hid hend
  have HH := Lib.hid h
  have HE := Lib.hid e
  have HV := Lib.hid hv
  have HNL := Lib.hid (fun _ : Unit => hnl)
  have HNW := Lib.hid (nowhere_p w xs.length (by omega))
  unfold RetPl at HNW
  have HGN := Lib.hid (lt_of_some n4)
  have hnk2 : nk ≤ 202 := by omega
  clear hkid hend h e hv hp n2 n3 hnk hnl n4 ih hn202
  go_enter Tryd.func17, Tryd.ntmps17
  go_wp2
  go_loopg [2, 33] nk (fun m' now i wr => ∃ (j : Nat) (q' : Nat → Bool) (Γ' : Ghost), i = .int .i64 (j : Int) ∧ j ≤ nk ∧ m' = nk - j ∧ Ask wr B xs A Γ' ∧ Ext B w wr Γ Γ' ∧ InW wr xs now q' ∧ ∀ x, q' x = true ↔ img (ECat xs (l.take j)) (fun i => q i = true) x)
  case atStart => exact ⟨0, q, Γ, rfl, Nat.zero_le _, rfl, HH.out, Ext.refl _ _ _, HV.out, fun x => by simp [img, ECat]⟩
  case round =>
    obtain ⟨j, q1, Γ1, rfl, hj, hmj, ha1, hx1, hv1, hq1⟩ := hrel
    have HMJ := Lib.hid hmj
    have HA1 := Lib.hid ha1
    have HX1 := Lib.hid hx1
    have HV1 := Lib.hid hv1
    have HQ1 := Lib.hid hq1
    clear hmj ha1 hx1 hv1 hq1
    by_cases hlt : j < nk
    · have hji : (j : Int) < (nk : Int) := by omega
      have hjl : j < l.length := by have := HNL.out (); omega
      have HNO := Lib.hid (none_p wr 0 (xs.length / 64 + 1) u2 q1 HV1.out.pl hm0 hm)
      have hst : ∀ x, img (E xs (l[j]'hjl)) (fun i => q1 i = true) x ↔ img (ECat xs (l.take (j + 1))) (fun i => q i = true) x := fun x => by
        rw [img_congr (fun i => HQ1.out i) x]
        constructor
        · rintro ⟨y, ⟨i, hi, h1⟩, h2⟩
          exact ⟨i, hi, (ECat_take l j hjl i x).2 ⟨y, h1, h2⟩⟩
        · rintro ⟨i, hi, h1⟩
          obtain ⟨y, h2, h3⟩ := (ECat_take l j hjl i x).1 h1
          exact ⟨y, ⟨i, hi, h2⟩, h3⟩
      have HST := Lib.hid hst
      have HKJ := Lib.hid (HKID.out wr Γ1 j hjl HA1.out (HX1.out.F _ _ _ HE.out))
      have HMEM := Lib.hid (List.getElem_mem hjl)
      clear hst
      generalize l[j]'hjl = u at *
      go_wp2_with fail
      go_at_call 26
      with_reducible refine HNO.out.mono ?_
      rintro e6 w6 ⟨b6, rfl, hb6, rfl⟩
      have HB6 := Lib.hid hb6
      clear hb6 HNO
      cases b6
      · go_wp2_with (first
          | (go_at_call 27; (with_reducible refine HKJ.out.mono ?_); rintro e1 w1 ⟨g1, o1, Γ2, rfl, hf1, hi1, hx2, hM2⟩; have HA2 := Lib.hid (ask_kid HA1.out hi1 hx2 hM2); have HX2 := Lib.hid hx2; have HF1 := Lib.hid hf1; clear hf1 hi1 hx2 hM2)
          | (go_at_call 17; (with_reducible refine (HEND.out u HMEM.out _ _ _ _ _ _ HA2.out HF1.out (HV1.out.ext HX2.out)).mono ?_); rintro e2 w2 ⟨v2, q2, Γ3, rfl, hi3, hx3, hv3, hq3⟩; have HA3 := Lib.hid (HA2.out.ext hx3 hi3); have HX3 := Lib.hid hx3; have HV3 := Lib.hid hv3; have HQ3 := Lib.hid hq3; clear hi3 hx3 hv3 hq3))
        go_roundg (nk - (j + 1))
        case measure => have := HMJ.out; omega
        case rel => exact ⟨j + 1, q2, Γ3, by go_num, by omega, rfl, HA3.out, (HX1.out.trans HX2.out).trans HX3.out, HV3.out, fun x => (HQ3.out x).trans (HST.out x)⟩
      · go_wp2
        go_ret
        refine ⟨u2, q1, Γ1, rfl, HA1.out.inv, HX1.out, HV1.out, fun x => ?_⟩
        have hz : ∀ x, ¬ q1 x = true := fun x hx => by
          have h1 := HV1.out.le x hx
          have h2 := HB6.out.1 (by trivial) x (by omega)
          rw [h2] at hx
          cases hx
        constructor
        · intro hx; exact absurd hx (hz x)
        · rintro ⟨i, hi, hE⟩
          have hsp : l = l.take j ++ l.drop j := (List.take_append_drop j l).symm
          rw [hsp, ECat_app] at hE
          obtain ⟨y, h1, _⟩ := hE
          exact absurd ((HQ1.out y).2 ⟨i, hi, h1⟩) (hz y)
    · have hjn : j = l.length := by have := HNL.out (); omega
      have hji : ¬ ((j : Int) < (nk : Int)) := by omega
      have HJN := Lib.hid (fun _ : Unit => hjn)
      clear hlt hjn
      go_wp2
      go_ret
      refine ⟨u2, q1, Γ1, rfl, HA1.out.inv, HX1.out, HV1.out, fun x => ?_⟩
      have := HQ1.out x
      rwa [HJN.out (), List.take_length] at this

theorem EAny_take2 {xs : List Int} {l : List T} {j : Nat} (h : j < l.length) {S : Nat → Prop} (x : Nat) : img (EAny xs (l.take (j + 1))) S x ↔ img (EAny xs (l.take j)) S x ∨ img (E xs (l[j]'h)) S x := by
  constructor
  · rintro ⟨i, hi, h1⟩
    rcases (EAny_take l j h i x).1 h1 with h2 | h2
    · exact .inl ⟨i, hi, h2⟩
    · exact .inr ⟨i, hi, h2⟩
  · rintro (⟨i, hi, h1⟩ | ⟨i, hi, h1⟩)
    · exact ⟨i, hi, (EAny_take l j h i x).2 (.inl h1)⟩
    · exact ⟨i, hi, (EAny_take l j h i x).2 (.inr h1)⟩

set_option maxRecDepth 20000 in
set_option maxHeartbeats 2000000 in
theorem pends_alt {w : World} {B c : Nat} {xs : List Int} {A : Option Addr} {Γ : Ghost} {g o : Nat} {l : List T} {v : Value} {q : Nat → Bool} (ih : ∀ u ∈ l, EndsP u) (h : Ask w B xs A Γ) (e : Γ.F g o = some (.mk 3 noneP 0 0 l)) (hv : InW w xs v q) :
    Calls Tryd.prog 17 #[.pointer (some ⟨g, o, none⟩), .slice A xs.length c, v] w (RetEndsP B w xs Γ (img (EAny xs l) fun i => q i = true)) := by
  have hkid : ∀ W Γ' (j : Nat) (hj : j < l.length), Ask W B xs A Γ' → Γ'.F g o = some (.mk 3 noneP 0 0 l) → Calls Tryd.prog 27 #[.pointer (some ⟨g, o, none⟩), .int .i64 j] W (RetKid B W xs Γ' (l[j]'hj)) := fun W Γ' j hj ha he => kid_p ha.inv.inv ha.le he j hj
  unfold RetKid at hkid
  have hend : ∀ u, u ∈ l → ∀ W Γ' g' o' v' q', Ask W B xs A Γ' → Γ'.F g' o' = some u → InW W xs v' q' → Calls Tryd.prog 17 #[.pointer (some ⟨g', o', none⟩), .slice A xs.length c, v'] W (RetEndsP B W xs Γ' (img (E xs u) fun i => q' i = true)) := fun u hu W Γ' g' o' v' q' ha he hv => ih u hu W B c xs A Γ' g' o' v' q' ha he hv
  unfold RetEndsP at hend
  have hm : xs.length / 64 + 1 ≤ 1000000 := by have := h.len; omega
  have hm0 : 0 < xs.length / 64 + 1 := by omega
  have hp := (h.inv.inv.part g o _ e).2
  have hlen := h.len
  have hn202 : l.length ≤ 202 := by
    have hwf := hp.wf
    cases hwf <;> assumption
  obtain ⟨gn, on, kn, n1, n2, n3, curn, n4⟩ := hp.node
  obtain ⟨A', nk, ck, rfl⟩ := n3.form
  obtain ⟨hnk, _⟩ := n3.bound
  have hnl : nk = l.length := hnk
  have n0 : w.cell? ⟨gn, on, none⟩ = some (.int .i64 3) := n2 0 _ rfl
  have n7 : w.cell? ⟨gn, on + 7, none⟩ = some (.slice A' nk ck) := n2 7 _ rfl
  have HKID := Lib.hid hkid
  have HEND := Lib.hid hend
  have HH := Lib.hid h
  have HE := Lib.hid e
  have HV := Lib.hid hv
  have HNL := Lib.hid (fun _ : Unit => hnl)
  have HNW := Lib.hid (nowhere_p w xs.length (by omega))
  unfold RetPl at HNW
  have HGN := Lib.hid (lt_of_some n4)
  have hnk2 : nk ≤ 202 := by omega
  clear hkid hend h e hv hp n2 n3 hnk hnl n4 ih hn202
  go_enter Tryd.func17, Tryd.ntmps17
  have N1 := Lib.hid n1
  have N7 := Lib.hid n7
  have HGW := Lib.hid (HH.out.inv.inv.old HE.out)
  go_wp2_with (go_at_call 28; (with_reducible refine HNW.out.mono ?_); rintro e1 w1 ⟨vg, rfl, hvg, hb1⟩; have k1 := (hb1.cell (p := ⟨g, o, none⟩) HGW.out).trans N1.out; have k7 := (hb1.cell (p := ⟨gn, on + 7, none⟩) HGN.out).trans N7.out; have HVG := Lib.hid hvg; have HB1 := Lib.hid hb1; clear hvg hb1)
  have HMI := Lib.hid (Mine.new (w0 := w) HH.out.inv HVG.out (Nat.le_refl _))
  have HA0 := Lib.hid (HH.out.stays HB1.out)
  have HX0 := Lib.hid (Ext.stays Γ HB1.out HH.out.le)
  have HV0 := Lib.hid (HV.out.stays HB1.out)
  clear k1 k7
  go_loopg [59] nk (fun m' i wr => ∃ (j : Nat) (qg : Nat → Bool) (Γ' : Ghost), i = .int .i64 (j : Int) ∧ j ≤ nk ∧ m' = nk - j ∧ Ask wr B xs A Γ' ∧ Ext B w wr Γ Γ' ∧ InW wr xs v q ∧ Mine w wr B Γ' vg (xs.length / 64 + 1) qg ∧ (∀ x, qg x = true → x ≤ xs.length) ∧ ∀ x, qg x = true ↔ img (EAny xs (l.take j)) (fun i => q i = true) x)
  case atStart => exact ⟨0, noneP, Γ, rfl, Nat.zero_le _, rfl, HA0.out, HX0.out, HV0.out, HMI.out, fun x hx => by simp [noneP] at hx, fun x => by simp [img, EAny, noneP]⟩
  case round =>
    obtain ⟨j, qg, Γ1, rfl, hj, hmj, ha1, hx1, hv1, hg1, hle1, hq1⟩ := hrel
    have HMJ := Lib.hid hmj
    have HA1 := Lib.hid ha1
    have HX1 := Lib.hid hx1
    have HV1 := Lib.hid hv1
    have HG1 := Lib.hid hg1
    have HLE1 := Lib.hid hle1
    have HQ1 := Lib.hid hq1
    clear hmj ha1 hx1 hv1 hg1 hle1 hq1
    by_cases hlt : j < nk
    · have hji : (j : Int) < (nk : Int) := by omega
      have hjl : j < l.length := by have := HNL.out (); omega
      have HST := Lib.hid (fun x => EAny_take2 (xs := xs) hjl (S := fun i => q i = true) x)
      have HKJ := Lib.hid (HKID.out wr Γ1 j hjl HA1.out (HX1.out.F _ _ _ HE.out))
      have HMEM := Lib.hid (List.getElem_mem hjl)
      generalize l[j]'hjl = u at *
      go_wp2_with (first
        | (go_at_call 27; (with_reducible refine HKJ.out.mono ?_); rintro e1 w1 ⟨g1, o1, Γ2, rfl, hf1, hi1, hx2, hM2⟩; have HA2 := Lib.hid (ask_kid HA1.out hi1 hx2 hM2); have HX2 := Lib.hid hx2; have HF1 := Lib.hid hf1; clear hf1 hi1 hx2 hM2)
        | (go_at_call 17; (with_reducible refine (HEND.out u HMEM.out _ _ _ _ _ _ HA2.out HF1.out (HV1.out.ext HX2.out)).mono ?_); rintro e2 w2 ⟨v2, q2, Γ3, rfl, hi3, hx3, hv3, hq3⟩; have HA3 := Lib.hid (HA2.out.ext hx3 hi3); have HX3 := Lib.hid hx3; have HV3 := Lib.hid hv3; have HQ3 := Lib.hid hq3; have HG3 := Lib.hid ((HG1.out.ext HX2.out).ext hx3); have HX4 := Lib.hid ((HX1.out.trans HX2.out).trans hx3); have hjo := pljoin_p w2 w.heap.size 0 (xs.length / 64 + 1) vg v2 qg q2 HG3.out.pl hv3.pl HX4.out.below.size hm0 hm; unfold RetOwn at hjo; have HJO := Lib.hid hjo; clear hi3 hx3 hv3 hq3 hjo)
        | (go_at_call 29; (with_reducible refine HJO.out.mono ?_); rintro e7 w7 ⟨rfl, hv7, hg7⟩; have HV7 := Lib.hid hv7; have HG7 := Lib.hid hg7; clear hv7 hg7))
      go_roundg (nk - (j + 1))
      case measure => have := HMJ.out; omega
      case rel =>
        obtain ⟨z1, z2, z3⟩ := HG3.out.set hm0 HA3.out.inv HX4.out HV7.out HG7.out HH.out.le
        have hin : InW w7 xs v q := by
          have h1 := (HV1.out.ext HX2.out).ext HX3.out
          have h2 := HV.out.ext z2
          exact h2
        refine ⟨j + 1, orP qg q2, Γ3, by go_num, by omega, rfl, HH.out.ext z2 z1, z2, hin, z3, fun x hx => ?_, fun x => ?_⟩
        · simp only [orP, Bool.or_eq_true] at hx
          rcases hx with hx | hx
          · exact HLE1.out x hx
          · exact HV3.out.le x hx
        · rw [HST.out x, ← HQ1.out x, ← HQ3.out x]
          simp [orP]
    · have hjn : j = l.length := by have := HNL.out (); omega
      have hji : ¬ ((j : Int) < (nk : Int)) := by omega
      have HJN := Lib.hid (fun _ : Unit => hjn)
      clear hlt hjn
      go_wp2
      go_ret
      refine ⟨vg, qg, Γ1, rfl, HA1.out.inv, HX1.out, ⟨HG1.out.pl.lower (Nat.zero_le _), HLE1.out⟩, fun x => ?_⟩
      have := HQ1.out x
      rwa [HJN.out (), List.take_length] at this

set_option maxRecDepth 20000 in
set_option maxHeartbeats 1000000 in
theorem pends_one {w : World} {B c : Nat} {xs : List Int} {A : Option Addr} {Γ : Ghost} {g o : Nat} {p : Nat → Bool} {v : Value} {q : Nat → Bool} (h : Ask w B xs A Γ) (e : Γ.F g o = some (.mk 1 p 0 0 [])) (hv : InW w xs v q) :
    Calls Tryd.prog 17 #[.pointer (some ⟨g, o, none⟩), .slice A xs.length c, v] w (RetEndsP B w xs Γ (img (E xs (.mk 1 p 0 0 [])) fun i => q i = true)) := by
  have hbe := behind_p (c := c) h e rfl hv
  have HBE := Lib.hid hbe
  obtain ⟨gn, on, kn, n1, n2, n3, curn, n4⟩ := (h.inv.inv.part g o _ e).2.node
  have n0 : w.cell? ⟨gn, on, none⟩ = some (.int .i64 1) := n2 0 _ rfl
  clear hbe n2 n3 n4 h e hv
  go_enter Tryd.func17, Tryd.ntmps17
  go_wp2_with (go_at_call 25; (with_reducible refine HBE.out.mono ?_); rintro e1 w1 hr; have HR := Lib.hid hr.plain; obtain ⟨v1, q1, Γ1, rfl, hr2⟩ := hr; clear hr2)
  go_ret
  exact HR.out

set_option maxRecDepth 20000 in
set_option maxHeartbeats 1000000 in
theorem pends_rep {w : World} {B c : Nat} {xs : List Int} {A : Option Addr} {Γ : Ghost} {g o ln hn : Nat} {u : T} {v : Value} {q : Nat → Bool} (ih : EndsP u) (h : Ask w B xs A Γ) (e : Γ.F g o = some (.mk 4 noneP ln hn [u])) (hv : InW w xs v q) :
    Calls Tryd.prog 17 #[.pointer (some ⟨g, o, none⟩), .slice A xs.length c, v] w (RetEndsP B w xs Γ (img (E xs (.mk 4 noneP ln hn [u])) fun i => q i = true)) := by
  have hbe := times_p (c := c) ih h e hv
  have HBE := Lib.hid hbe
  obtain ⟨gn, on, kn, n1, n2, n3, curn, n4⟩ := (h.inv.inv.part g o _ e).2.node
  have n0 : w.cell? ⟨gn, on, none⟩ = some (.int .i64 4) := n2 0 _ rfl
  clear hbe n2 n3 n4 h e hv ih
  go_enter Tryd.func17, Tryd.ntmps17
  go_wp2_with (go_at_call 30; (with_reducible refine HBE.out.mono ?_); rintro e1 w1 hr; have HR := Lib.hid hr.plain; obtain ⟨v1, q1, Γ1, rfl, hr2⟩ := hr; clear hr2)
  go_ret
  exact HR.out

theorem pends_n : ∀ (N : Nat) (t : T), SizeOf.sizeOf t ≤ N → WF t → EndsP t
  | 0, t, h, _ => by obtain ⟨op, p, lo, hi, l⟩ := t; simp at h
  | N + 1, t, h, hw => by
    have small : ∀ (op : Int) (p : Nat → Bool) (lo hi : Int) (l : List T), t = .mk op p lo hi l → ∀ u ∈ l, SizeOf.sizeOf u ≤ N := fun op p lo hi l e u hu => by
      have := List.sizeOf_lt_of_mem hu
      rw [e] at h
      simp at h
      omega
    intro w B c xs A Γ g o v q ha he hv
    cases hw with
    | one p => exact pends_one ha he hv
    | cat l h2 hN hk => exact (pends_cat (fun u hu => pends_n N u (small _ _ _ _ _ rfl u hu) (hk u hu)) ha he hv).mono fun e w' hr => hr.congr fun x => by simp [img, E_cat]
    | alt l h2 hN hk => exact (pends_alt (fun u hu => pends_n N u (small _ _ _ _ _ rfl u hu) (hk u hu)) ha he hv).mono fun e w' hr => hr.congr fun x => by simp [img, E_alt]
    | rep m n u h0 h1 h2 h3 hk =>
      obtain ⟨ln, rfl⟩ : ∃ k : Nat, m = k := ⟨m.toNat, by omega⟩
      obtain ⟨hn, rfl⟩ : ∃ k : Nat, n = k := ⟨n.toNat, by omega⟩
      exact pends_rep (pends_n N u (small _ _ _ _ _ rfl u (by simp)) hk) ha he hv
theorem pends_p (t : T) (h : WF t) : EndsP t := pends_n _ t (Nat.le_refl _) h

end Go.Proofs.YtammicfijnffaaaDoor

/-
  lang.Has, whatever the pattern and the word. Contracts for other texts; no statement of its own.
-/
namespace Go.Proofs.YtammicfijnffaaaDoor
open Go Go.RowKit
attribute [local go_sem ↓] Go.wp_at_zero Go.wp_at_succ

/-- What Has tells. -/
def RetHas (w : World) (P : Prop) (e : Ending) (w' : World) : Prop := ∃ b : Bool, e = .returned (.bool b) ∧ (b = true ↔ P) ∧ Below w.heap.size w w'

/-- The ghost of one part alone. -/
def Ghost.single (g : Nat) (t : T) : Ghost := ⟨fun g' o' => if g' = g ∧ o' = 0 then some t else none, fun _ => none, fun _ => False⟩

theorem ask_single {w w5 : World} {xs : List Int} {A : Option Addr} {t : T} {kn : Value} {g0 : Nat} {cur : Array Value} (hB5 : Below w.heap.size w w5) (hg0 : w5.heap[g0]? = some (.cells cur 29 (0, 0))) (hn : NodeAt w5 g0 0 t kn) (ht : Tree w5 (fun _ => True) t kn) (hwf : WF t)
    (hrd : RdB w w.heap.size A xs) (hby : ∀ k, k < xs.length → 0 ≤ xs.getD k 0 ∧ xs.getD k 0 ≤ 255) (hlen : xs.length ≤ 100000) (htab : Tab w) :
    Ask (w5.alloc (.cells #[.pointer (some ⟨g0, 0, none⟩), .slice none 0 0, .int .i64 0, .slice none 0 0] 64)) w.heap.size xs A (Ghost.single w5.heap.size t) := by
  have hb : Below w5.heap.size w5 (w5.alloc (.cells #[.pointer (some ⟨g0, 0, none⟩), .slice none 0 0, .int .i64 0, .slice none 0 0] 64)) := (Below.refl _ _).alloc (Nat.le_refl _) _
  have hw := hB5.trans (hb.mono hB5.size)
  have hnew := World.alloc_heap_new w5 (.cells #[.pointer (some ⟨g0, 0, none⟩), .slice none 0 0, .int .i64 0, .slice none 0 0] 64)
  have hcell : ∀ (j : Nat) (u : Value), (#[Value.pointer (some ⟨g0, 0, none⟩), .slice none 0 0, .int .i64 0, .slice none 0 0] : Array Value)[j]? = some u → (w5.alloc (.cells #[.pointer (some ⟨g0, 0, none⟩), .slice none 0 0, .int .i64 0, .slice none 0 0] 64)).cell? ⟨w5.heap.size, j, none⟩ = some u := fun j u e => by
    rw [World.cell?_alloc_new]
    exact e
  have hg0l := lt_of_some hg0
  refine ⟨⟨⟨fun g o t' e => ?_, fun gf t' e => by cases e⟩, fun g e => e.elim⟩, hrd.below hw, hby, hlen, htab.below hw htab.1, htab.1, hw.size⟩
  unfold Ghost.single at e
  simp only at e
  by_cases hgo : g = w5.heap.size ∧ o = 0
  · rw [if_pos hgo] at e
    injection e with e
    obtain ⟨rfl, rfl⟩ := hgo
    subst e
    refine ⟨hB5.size, ⟨by omega, ⟨_, hnew⟩, hwf, ⟨g0, 0, kn, hcell 0 _ rfl, hn.block (hb.block g0 hg0l), ht.mono fun b _ hlt _ => ⟨hb.block b hlt, trivial⟩, cur, (hb.block g0 hg0l).trans hg0⟩, .inl (hcell 1 _ rfl), ⟨0, hcell 2 _ rfl, by omega⟩, .inl (hcell 3 _ rfl)⟩⟩
  · rw [if_neg hgo] at e
    cases e

set_option maxRecDepth 20000 in
set_option maxHeartbeats 2000000 in
theorem langhas_p {w : World} {c : Nat} {xs : List Int} {A : Option Addr} {t : T} {k : Value} {ok : Nat → Prop} (hwf : WF t) (ht : Tree w ok t k) (hrd : RdB w w.heap.size A xs) (hby : ∀ k, k < xs.length → 0 ≤ xs.getD k 0 ∧ xs.getD k 0 ≤ 255) (hlen : xs.length ≤ 100000) (htab : Tab w) :
    Calls Tryd.prog 8 #[nodeP t k, .slice A xs.length c] w (RetHas w (E xs t 0 xs.length)) := by
  obtain ⟨A', n', c', rfl⟩ := ht.form
  have hel : E xs t 0 xs.length → LenU false t ≤ xs.length ∧ xs.length ≤ LenU true t := fun hE => by
    have := E_len hwf 0 xs.length (Nat.zero_le _) hE
    omega
  have b8 := Box8.new w t (.slice A' n' c')
  have hB1 : Below w.heap.size w (w.alloc (.cells #[.int .i64 t.op, .int .u64 (word t.set 0), .int .u64 (word t.set 1), .int .u64 (word t.set 2), .int .u64 (word t.set 3), .int .i64 t.lo, .int .i64 t.hi, .slice A' n' c'] 29)) := (Below.refl _ _).alloc (Nat.le_refl _) _
  have hblk := World.alloc_heap_new w (.cells #[.int .i64 t.op, .int .u64 (word t.set 0), .int .u64 (word t.set 1), .int .u64 (word t.set 2), .int .u64 (word t.set 3), .int .i64 t.lo, .int .i64 t.hi, .slice A' n' c'] 29)
  have hsp := span_p (w.alloc (.cells #[.int .i64 t.op, .int .u64 (word t.set 0), .int .u64 (word t.set 1), .int .u64 (word t.set 2), .int .u64 (word t.set 3), .int .i64 t.lo, .int .i64 t.hi, .slice A' n' c'] 29)) (xs.length + 1) (by omega) (by omega) w.heap.size 0 hwf (ht.alloc _) b8.nodeAt
  rw [show ((xs.length + 1 : Nat) : Int) = (xs.length : Int) + 1 by omega] at hsp
  have ht1 : Tree (w.alloc (.cells #[.int .i64 t.op, .int .u64 (word t.set 0), .int .u64 (word t.set 1), .int .u64 (word t.set 2), .int .u64 (word t.set 3), .int .i64 t.lo, .int .i64 t.hi, .slice A' n' c'] 29)) (fun _ => True) t (.slice A' n' c') := (ht.alloc _).mono fun b _ _ _ => ⟨rfl, trivial⟩
  have hnode := b8.nodeAt
  have hs1 : (w.alloc (.cells #[.int .i64 t.op, .int .u64 (word t.set 0), .int .u64 (word t.set 1), .int .u64 (word t.set 2), .int .u64 (word t.set 3), .int .i64 t.lo, .int .i64 t.hi, .slice A' n' c'] 29)).heap.size = w.heap.size + 1 := by simp
  unfold RetTwo at hsp
  have HSP := Lib.hid hsp
  have HEL := Lib.hid hel
  have HB1 := Lib.hid hB1
  have HBLK := Lib.hid hblk
  have HT1 := Lib.hid ht1
  have HND := Lib.hid hnode
  have HRD := Lib.hid hrd
  have HBY := Lib.hid hby
  have HTB := Lib.hid htab
  have HWF := Lib.hid hwf
  have HS1 := Lib.hid hs1
  generalize hl0 : LenU false t = l0 at *
  generalize hl1 : LenU true t = l1 at *
  have HL := Lib.hid (fun _ : Unit => And.intro hl0 hl1)
  unfold nodeP
  clear hsp hel hB1 hblk ht1 hnode hrd hby htab hwf ht b8 hs1 hl0 hl1
  by_cases h1 : xs.length < l0
  · have hm0 : ((min l0 (xs.length + 1) : Nat) : Int) = (xs.length : Int) + 1 := by omega
    have hi1 : (xs.length : Int) < (xs.length : Int) + 1 := by omega
    rw [hm0] at HSP
    go_enter Tryd.func8, Tryd.ntmps8
    go_wp2_with (go_at_call 16; (with_reducible refine HSP.out.mono ?_); rintro e w5 ⟨rfl, hb5⟩; have HB5 := Lib.hid hb5; clear hb5)
    go_ret
    exact ⟨false, rfl, ⟨fun h => (by cases h), fun h => by have := HEL.out h; omega⟩, HB1.out.trans (HB5.out.mono HB1.out.size)⟩
  · have hm0 : min l0 (xs.length + 1) = l0 := by omega
    rw [hm0] at HSP
    have hi1 : ¬ ((xs.length : Int) < (l0 : Int)) := by omega
    by_cases h2 : l1 < xs.length
    · have hm1 : min l1 (xs.length + 1) = l1 := by omega
      rw [hm1] at HSP
      have hi2 : (l1 : Int) < (xs.length : Int) := by omega
      clear hm0 hm1
      go_enter Tryd.func8, Tryd.ntmps8
      go_wp2_with (go_at_call 16; (with_reducible refine HSP.out.mono ?_); rintro e w5 ⟨rfl, hb5⟩; have HB5 := Lib.hid hb5; clear hb5)
      go_ret
      exact ⟨false, rfl, ⟨fun h => (by cases h), fun h => by have := HEL.out h; omega⟩, HB1.out.trans (HB5.out.mono HB1.out.size)⟩
    · obtain ⟨d, hd⟩ : ∃ d : Nat, d = min l1 (xs.length + 1) := ⟨_, rfl⟩
      rw [← hd] at HSP
      have hi2 : ¬ ((d : Int) < (xs.length : Int)) := by omega
      have hon : ∀ W, Calls Tryd.prog 18 #[.int .i64 0, .int .i64 xs.length] W (RetPl W (xs.length / 64 + 1) (fun x => x == 0)) := fun W => only_p W 0 xs.length (by omega) (Nat.zero_le _)
      unfold RetPl at hon
      have HON := Lib.hid hon
      have hpe := pends_p t HWF.out
      unfold EndsP RetEndsP at hpe
      have HPE := Lib.hid hpe
      have hph := fun W v q (h : Pl W 0 v (xs.length / 64 + 1) q) => plhas_p W 0 (xs.length / 64 + 1) xs.length v q h (by omega) (by omega)
      have HPH := Lib.hid hph
      clear hm0 hd hon hpe hph
      go_enter Tryd.func8, Tryd.ntmps8
      go_wp2_with (first
        | (go_at_call 16; (with_reducible refine HSP.out.mono ?_); rintro e w5 ⟨rfl, hb5⟩; have HB5 := Lib.hid hb5; clear hb5; have HASK := Lib.hid (ask_single (w := w) (w5 := w5) (HB1.out.trans (HB5.out.mono HB1.out.size)) ((HB5.out.block w.heap.size (by rw [HS1.out]; omega)).trans HBLK.out) (HND.out.block (HB5.out.block w.heap.size (by rw [HS1.out]; omega))) (HT1.out.mono fun b _ hlt _ => ⟨HB5.out.block b hlt, trivial⟩) HWF.out HRD.out HBY.out hlen HTB.out))
        | (go_at_call 18; (with_reducible refine (HON.out _).mono ?_); rintro e2 w7 ⟨v2, rfl, hv2, hb7⟩; have HV2 := Lib.hid hv2; have HB7 := Lib.hid hb7; have HA7 := Lib.hid (HASK.out.stays hb7); have HI7 := Lib.hid (show InW w7 xs v2 (fun x => x == 0) from ⟨hv2.lower (Nat.zero_le _), fun x hx => by have : x = 0 := (by simpa using hx); omega⟩); clear hv2 hb7)
        | (go_at_call 17; (with_reducible refine (HPE.out _ _ _ _ _ _ _ _ _ _ HA7.out (by simp [Ghost.single]) HI7.out).mono ?_); rintro e3 w8 ⟨v3, q3, Γ3, rfl, hi3, hx3, hv3, hq3⟩; have HX3 := Lib.hid hx3; have HV3 := Lib.hid hv3; have HQ3 := Lib.hid hq3; clear hi3 hx3 hv3 hq3)
        | (go_at_call 19; (with_reducible refine (HPH.out _ _ _ HV3.out.pl).mono ?_); rintro e4 w9 ⟨rfl, rfl⟩))
      go_ret
      have hb5 := HB1.out.trans (HB5.out.mono HB1.out.size)
      have hb6 := hb5.alloc hb5.size (.cells #[.pointer (some ⟨w.heap.size, 0, none⟩), .slice none 0 0, .int .i64 0, .slice none 0 0] 64)
      refine ⟨q3 xs.length, rfl, ?_, (hb6.trans (HB7.out.mono hb6.size)).trans HX3.out.below⟩
      rw [HQ3.out xs.length]
      constructor
      · rintro ⟨i, hi, hE⟩
        have : i = 0 := by simpa using hi
        rwa [this] at hE
      · intro hE
        exact ⟨0, rfl, hE⟩

end Go.Proofs.YtammicfijnffaaaDoor

/-
  The law NfaWords of layer 4 as a walk. Contracts for other texts; no statement of its own.
-/
namespace Go.Proofs.YtammicfijnffaaaDoor
open Go Go.RowKit
attribute [local go_sem ↓] Go.wp_at_zero Go.wp_at_succ

theorem plSum_min : ∀ (l : List T), (∀ t ∈ l, plN t = min (plR t) 1000) → min (plSum l) 1000 = min (plRL l) 1000
  | [], _ => rfl
  | t :: ts, h => by
    have h1 := h t (by simp)
    have h2 := plSum_min ts fun u hu => h u (by simp [hu])
    simp only [plSum, plRL]
    omega
theorem plN_min {t : T} (hwf : WF t) : plN t = min (plR t) 1000 := by
  induction hwf with
  | one p => simp [plN, plR, plSum]
  | cat l h2 hN h ih =>
    have := plSum_min l ih
    simp only [plN, plR]
    simpa using this
  | alt l h2 hN h ih =>
    have := plSum_min l ih
    simp only [plN, plR]
    simpa using this
  | rep m n u h0 h1 h2 h3 hu ih =>
    have e1 : plN (.mk 4 noneP m n [u]) = min (plN u * n.toNat) 1000 := by simp [plN, plSum]
    have e2 : plR (.mk 4 noneP m n [u]) = n.toNat * plR u := by simp [plR, plRL]
    rw [e1, e2, ih]
    have hn : 1 ≤ n.toNat := by omega
    rcases Nat.le_total (plR u) 1000 with h | h
    · rw [Nat.min_eq_left h, Nat.mul_comm]
    · rw [Nat.min_eq_right h]
      have a1 : 1000 ≤ 1000 * n.toNat := Nat.le_mul_of_pos_right _ hn
      have a2 : plR u ≤ n.toNat * plR u := Nat.le_mul_of_pos_left _ hn
      omega
theorem rd_none (w : World) (B : Nat) : RdB w B none [] := fun k hk => by simp at hk

set_option maxRecDepth 20000 in
set_option maxHeartbeats 4000000 in
theorem nfawords_p {w : World} {s : ByteArray} {c : Nat} {xs : List Int} {A : Option Addr} (hs : s.size ≤ 9223372036854775807) (hrd : RdB w w.heap.size A xs) (hby : ∀ k, k < xs.length → 0 ≤ xs.getD k 0 ∧ xs.getD k 0 ≤ 255) (htab : Tab w) :
    Calls Tryd.prog 3 #[.string s, .slice A xs.length c] w fun e w' => e = .returned (.bool true) ∧ Below w.heap.size w w' := by
  have HU := Lib.hid (up4_p w)
  by_cases hp : ∃ t, parse s = .ok t ∧ plN t ≤ 60
  · obtain ⟨t, hp, hpl⟩ := hp
    have hwf := wf_parse hp
    have hpat := fun W => pattern_ok (w := W) hs hp hpl
    have hpr : plR t ≤ 60 := by have := plN_min hwf; omega
    have HPAT := Lib.hid hpat
    clear hpat hp hpl hs
    by_cases hlen : xs.length ≤ 60
    · obtain ⟨bv, hbv⟩ : ∃ bv : Bool, (bv = true ↔ E xs t 0 xs.length) := by
        by_cases hE : E xs t 0 xs.length
        · exact ⟨true, by simp [hE]⟩
        · exact ⟨false, by simp [hE]⟩
      obtain ⟨Z, hZ⟩ : ∃ Z, (lay0 t).1.sets.length = Z := ⟨_, rfl⟩
      obtain ⟨b0, hb0⟩ : ∃ b, (lay0 t).2.empty = b := ⟨_, rfl⟩
      have hb0E : b0 = true ↔ E [] t 0 0 := by rw [← hb0, ← rec_E hwf, rec_zero]
      have hhas : ∀ (W : World) (k : Value) (ok : Nat → Prop), Tree W ok t k → Below w.heap.size w W → Calls Tryd.prog 8 #[nodeP t k, .slice A xs.length c] W fun e w' => e = .returned (.bool bv) ∧ Below W.heap.size W w' := fun W k ok ht hb => (langhas_p hwf ht ((hrd.below hb).more hb.size) hby (by omega) (htab.below hb htab.1)).mono fun e w' ⟨b, h1, h2, h3⟩ => ⟨by rw [h1, show b = bv from Bool.eq_iff_iff.2 (h2.trans hbv.symm)], h3⟩
      have hhas0 : ∀ (W : World) (k : Value) (ok : Nat → Prop), Tree W ok t k → Below w.heap.size w W → Calls Tryd.prog 8 #[nodeP t k, .slice none 0 0] W fun e w' => e = .returned (.bool b0) ∧ Below W.heap.size W w' := fun W k ok ht hb => (langhas_p (xs := []) (c := 0) hwf ht (rd_none _ _) (fun k hk => by simp at hk) (by simp) (htab.below hb htab.1)).mono fun e w' ⟨b, h1, h2, h3⟩ => ⟨by rw [h1, show b = b0 from Bool.eq_iff_iff.2 (h2.trans hb0E.symm)], h3⟩
      have hnfa : ∀ (W : World) (A1 A2 A3 : Option Addr) (m1 c1 m2 c2 gm m3 c3 : Nat), NfaIn W W.heap.size (.slice A1 m1 c1) (.slice A2 m2 c2) gm (.slice A3 m3 c3) (lay0 t).1 (lay0 t).2 → m1 = Z → Below w.heap.size w W → Calls Tryd.prog 7 #[.agg #[.slice A1 m1 c1, .slice A2 m2 c2, .slice (some ⟨gm, 0, none⟩) Z Z, .slice A3 m3 c3, .bool b0], .slice A xs.length c] W fun e w' => e = .returned (.bool bv) ∧ Below W.heap.size W w' := fun W A1 A2 A3 m1 c1 m2 c2 gm m3 c3 hi hm hb => by
        have := nhas_p (c := c) hwf (by omega) hi (by rw [hZ]; exact hm) ((hrd.below hb).more hb.size) hby (by omega)
        rw [hZ, hb0] at this
        exact this.mono fun e w' ⟨b, h1, h2, h3⟩ => ⟨by rw [h1, show b = bv from Bool.eq_iff_iff.2 (h2.trans hbv.symm)], h3⟩
      have hnfa0 : ∀ (W : World) (A1 A2 A3 : Option Addr) (m1 c1 m2 c2 gm m3 c3 : Nat), NfaIn W W.heap.size (.slice A1 m1 c1) (.slice A2 m2 c2) gm (.slice A3 m3 c3) (lay0 t).1 (lay0 t).2 → m1 = Z → Calls Tryd.prog 7 #[.agg #[.slice A1 m1 c1, .slice A2 m2 c2, .slice (some ⟨gm, 0, none⟩) Z Z, .slice A3 m3 c3, .bool b0], .slice none 0 0] W fun e w' => e = .returned (.bool b0) ∧ Below W.heap.size W w' := fun W A1 A2 A3 m1 c1 m2 c2 gm m3 c3 hi hm => by
        have := nhas_p (xs := []) (A := none) (c := 0) hwf (by omega) hi (by rw [hZ]; exact hm) (rd_none _ _) (fun k hk => by simp at hk) (by simp)
        rw [hZ, hb0] at this
        exact this.mono fun e w' ⟨b, h1, h2, h3⟩ => ⟨by rw [h1, show b = b0 from Bool.eq_iff_iff.2 (h2.trans hb0E.symm)], h3⟩
      have hbuild : ∀ (W : World) (k : Value) (ok : Nat → Prop), Tree W ok t k → Calls Tryd.prog 6 #[nodeP t k] W fun e w' => ∃ A1 m1 c1 A2 m2 c2 gm A3 m3 c3, e = .returned (.tuple #[.agg #[.slice A1 m1 c1, .slice A2 m2 c2, .slice (some ⟨gm, 0, none⟩) Z Z, .slice A3 m3 c3, .bool b0], .nilIface]) ∧ NfaIn w' w'.heap.size (.slice A1 m1 c1) (.slice A2 m2 c2) gm (.slice A3 m3 c3) (lay0 t).1 (lay0 t).2 ∧ m1 = Z ∧ Below W.heap.size W w' := fun W k ok ht => (build_p hwf ht (by omega)).mono fun e w' h => by
        obtain ⟨A1, m1, c1, A2, m2, c2, gm, A3, m3, c3, rfl, hn, hb⟩ := h
        have hi := hn.rest (lay0_good (xs := []) hwf).1
        have hpos := plR_pos hwf
        have hszz : (lay0 t).1.sets.length = plR t := by have := lay_size hwf ⟨[], []⟩; simpa [lay0] using this
        obtain ⟨g1, c1', e1, _, _⟩ := hi.sets 0 (by omega)
        simp only [Value.slice.injEq] at e1
        exact ⟨A1, m1, c1, A2, m2, c2, gm, A3, m3, c3, by rw [hZ, hb0], hi, by rw [e1.2.1]; exact hZ, hb⟩
      unfold nodeP at hhas hhas0 hbuild
      have HHAS := Lib.hid hhas
      have HHAS0 := Lib.hid hhas0
      have HNFA := Lib.hid hnfa
      have HNFA0 := Lib.hid hnfa0
      have HBU := Lib.hid hbuild
      have hi60 : ¬ ((60 : Int) < (xs.length : Int)) := by omega
      have hb1' : (bv == bv) = true := by cases bv <;> rfl
      have hb2' : (b0 == b0) = true := by cases b0 <;> rfl
      clear hhas hhas0 hnfa hnfa0 hbuild hrd hby htab hbv hwf hlen hb0E hZ hb0 hpr
      go_enter Tryd.func3, Tryd.ntmps3
      go_wp2_with (first
        | (go_at_call 4; (with_reducible refine HU.out.mono ?_); rintro e w1 ⟨rfl, hb1⟩; have HB1 := Lib.hid hb1; clear hb1)
        | (go_at_call 5; (with_reducible refine (HPAT.out _).mono ?_); rintro e w2 ⟨A', n, c', rfl, ht, hb2⟩; have hb3 := gro HB1.out hb2; have HT := Lib.hid (ht.alloc (.cells #[.int .i64 t.op, .int .u64 (word t.set 0), .int .u64 (word t.set 1), .int .u64 (word t.set 2), .int .u64 (word t.set 3), .int .i64 t.lo, .int .i64 t.hi, .slice A' n c'] 29)); have HB := Lib.hid (hb3.alloc hb3.size (.cells #[.int .i64 t.op, .int .u64 (word t.set 0), .int .u64 (word t.set 1), .int .u64 (word t.set 2), .int .u64 (word t.set 3), .int .i64 t.lo, .int .i64 t.hi, .slice A' n c'] 29)); have BX := Lib.hid (Box8.new w2 t (.slice A' n c')); obtain ⟨r0, r1, r2, r3, r4, r5, r6, r7⟩ := BX.out.cell; clear ht hb2 hb3; unfold nodeV)
        | (go_at_call 6; (with_reducible refine (HBU.out _ _ _ HT.out).mono ?_); rintro e w3 ⟨A1, m1, c1, A2, m2, c2, gm, A3, m3, c3, rfl, hni, hm1, hb4⟩; have hbx : Below w3.heap.size w3 (w3.alloc (.cells #[.slice A1 m1 c1, .slice A2 m2 c2, .slice (some ⟨gm, 0, none⟩) Z Z, .slice A3 m3 c3, .bool b0] 37)).drew := ((Below.refl _ _).alloc (Nat.le_refl _) _).drew; have HT := Lib.hid ((HT.out.stays hb4).stays hbx); have HB := Lib.hid (gro (gro HB.out hb4) hbx); have BX := Lib.hid ((BX.out.stays hb4).stays hbx); have HNI := Lib.hid ((hni.below hbx).more hbx.size); have BF : Hid (BoxF (w3.alloc (.cells #[.slice A1 m1 c1, .slice A2 m2 c2, .slice (some ⟨gm, 0, none⟩) Z Z, .slice A3 m3 c3, .bool b0] 37)).drew w3.heap.size (.slice A1 m1 c1) (.slice A2 m2 c2) (.slice (some ⟨gm, 0, none⟩) Z Z) (.slice A3 m3 c3) b0) := BoxF.new w3 _ _ _ _ _; have HM := Lib.hid hm1; clear hni hm1 hb4 hbx))
      have hmx : Tryd.prog.follows .mixedOrders = true := by kernel_rfl
      clear r0 r1 r2 r3 r4 r5 r6 r7
      obtain ⟨r0, r1, r2, r3, r4, r5, r6, r7⟩ := BX.out.cell
      obtain ⟨f0, f1, f2, f3, f4⟩ := BF.out.cell
      go_region_held (fun w' => w'.cell? ⟨w2.heap.size, 0, none⟩ = some (.int .i64 t.op) ∧ w'.cell? ⟨w2.heap.size, 1, none⟩ = some (.int .u64 (word t.set 0)) ∧ w'.cell? ⟨w2.heap.size, 2, none⟩ = some (.int .u64 (word t.set 1)) ∧ w'.cell? ⟨w2.heap.size, 3, none⟩ = some (.int .u64 (word t.set 2)) ∧ w'.cell? ⟨w2.heap.size, 4, none⟩ = some (.int .u64 (word t.set 3)) ∧ w'.cell? ⟨w2.heap.size, 5, none⟩ = some (.int .i64 t.lo) ∧ w'.cell? ⟨w2.heap.size, 6, none⟩ = some (.int .i64 t.hi) ∧ w'.cell? ⟨w2.heap.size, 7, none⟩ = some (.slice A' n c') ∧ w'.cell? ⟨w3.heap.size, 0, none⟩ = some (.slice A1 m1 c1) ∧ w'.cell? ⟨w3.heap.size, 1, none⟩ = some (.slice A2 m2 c2) ∧ w'.cell? ⟨w3.heap.size, 2, none⟩ = some (.slice (some ⟨gm, 0, none⟩) Z Z) ∧ w'.cell? ⟨w3.heap.size, 3, none⟩ = some (.slice A3 m3 c3) ∧ w'.cell? ⟨w3.heap.size, 4, none⟩ = some (.bool b0))
        (exact ⟨r0, r1, r2, r3, r4, r5, r6, r7, f0, f1, f2, f3, f4⟩) (first
        | (go_at_call 7; (with_reducible refine (HNFA.out _ _ _ _ _ _ _ _ _ _ _ HNI.out HM.out HB.out).mono ?_); rintro e w4 ⟨rfl, hbx⟩; have HB := Lib.hid (gro HB.out hbx); have HT := Lib.hid (HT.out.stays hbx); have HNI := Lib.hid ((HNI.out.below hbx).more hbx.size); have BX := Lib.hid (BX.out.stays hbx); have BF := Lib.hid (BF.out.stays hbx); clear r0 r1 r2 r3 r4 r5 r6 r7 f0 f1 f2 f3 f4; obtain ⟨r0, r1, r2, r3, r4, r5, r6, r7⟩ := BX.out.cell; obtain ⟨f0, f1, f2, f3, f4⟩ := BF.out.cell; clear hbx)
        | (go_at_call 7; (with_reducible refine (HNFA0.out _ _ _ _ _ _ _ _ _ _ _ HNI.out HM.out).mono ?_); rintro e w4 ⟨rfl, hbx⟩; have HB := Lib.hid (gro HB.out hbx); have HT := Lib.hid (HT.out.stays hbx); have HNI := Lib.hid ((HNI.out.below hbx).more hbx.size); have BX := Lib.hid (BX.out.stays hbx); have BF := Lib.hid (BF.out.stays hbx); clear r0 r1 r2 r3 r4 r5 r6 r7 f0 f1 f2 f3 f4; obtain ⟨r0, r1, r2, r3, r4, r5, r6, r7⟩ := BX.out.cell; obtain ⟨f0, f1, f2, f3, f4⟩ := BF.out.cell; clear hbx)
        | (go_at_call 8; (with_reducible refine (HHAS.out _ _ _ HT.out HB.out).mono ?_); rintro e w4 ⟨rfl, hbx⟩; have HB := Lib.hid (gro HB.out hbx); have HT := Lib.hid (HT.out.stays hbx); have HNI := Lib.hid ((HNI.out.below hbx).more hbx.size); have BX := Lib.hid (BX.out.stays hbx); have BF := Lib.hid (BF.out.stays hbx); clear r0 r1 r2 r3 r4 r5 r6 r7 f0 f1 f2 f3 f4; obtain ⟨r0, r1, r2, r3, r4, r5, r6, r7⟩ := BX.out.cell; obtain ⟨f0, f1, f2, f3, f4⟩ := BF.out.cell; clear hbx)
        | (go_at_call 8; (with_reducible refine (HHAS0.out _ _ _ HT.out HB.out).mono ?_); rintro e w4 ⟨rfl, hbx⟩; have HB := Lib.hid (gro HB.out hbx); have HT := Lib.hid (HT.out.stays hbx); have HNI := Lib.hid ((HNI.out.below hbx).more hbx.size); have BX := Lib.hid (BX.out.stays hbx); have BF := Lib.hid (BF.out.stays hbx); clear r0 r1 r2 r3 r4 r5 r6 r7 f0 f1 f2 f3 f4; obtain ⟨r0, r1, r2, r3, r4, r5, r6, r7⟩ := BX.out.cell; obtain ⟨f0, f1, f2, f3, f4⟩ := BF.out.cell; clear hbx))
      all_goals go_wp2

      go_ret
      exact ⟨rfl, HB.out⟩
    · have hi60 : (60 : Int) < (xs.length : Int) := by omega
      clear hlen hwf hrd hby htab
      go_enter Tryd.func3, Tryd.ntmps3
      go_wp2_with (first
        | (go_at_call 4; (with_reducible refine HU.out.mono ?_); rintro e w1 ⟨rfl, hb1⟩; have HB1 := Lib.hid hb1; clear hb1)
        | (go_at_call 5; (with_reducible refine (HPAT.out _).mono ?_); rintro e w2 ⟨A', n, c', rfl, ht, hb2⟩; have hb3 := gro HB1.out hb2; have HB := Lib.hid (hb3.alloc hb3.size (.cells #[.int .i64 t.op, .int .u64 (word t.set 0), .int .u64 (word t.set 1), .int .u64 (word t.set 2), .int .u64 (word t.set 3), .int .i64 t.lo, .int .i64 t.hi, .slice A' n c'] 29)); clear ht hb2 hb3; unfold nodeV))
      go_ret
      exact ⟨rfl, HB.out⟩
  · have hpat := fun W => pattern_no (w := W) hs hp
    unfold nodeV at hpat
    have HPAT := Lib.hid hpat
    clear hpat hp hs hrd hby htab
    go_enter Tryd.func3, Tryd.ntmps3
    go_wp2_with (first
      | (go_at_call 4; (with_reducible refine HU.out.mono ?_); rintro e w1 ⟨rfl, hb1⟩; have HB1 := Lib.hid hb1; clear hb1)
      | (go_at_call 5; (with_reducible refine (HPAT.out _).mono ?_); rintro e w2 ⟨rfl, hb2⟩; have hb3 := gro HB1.out hb2; have HB := Lib.hid (hb3.alloc hb3.size (.cells #[.int .i64 T.zero.op, .int .u64 (word T.zero.set 0), .int .u64 (word T.zero.set 1), .int .u64 (word T.zero.set 2), .int .u64 (word T.zero.set 3), .int .i64 T.zero.lo, .int .i64 T.zero.hi, .slice none 0 0] 29)); clear hb2 hb3))
    go_ret
    exact ⟨rfl, HB.out⟩

end Go.Proofs.YtammicfijnffaaaDoor

/-
  How arguments that came in are opened for a walk: a set (an array of four words), a byte, a slice of bytes. No statement of its own.
-/
namespace Go.Proofs.YtammicfijnffaaaDoor
open Go Go.ChangeShapes Go.WideShapes Go.ChangeAt Go.RowKit

theorem Tryd.ownKnobNone : ownKnob Tryd.prog.godebug = none := by kernel_rfl
theorem Tryd.laidOutOk : laidOutB Tryd.prog = true := by kernel_rfl
theorem Tryd.cellsSet : Tryd.prog.cellsOf 26 = 4 := by kernel_rfl
theorem Tryd.cellsWord : Tryd.prog.cellsOf 24 = 1 := by kernel_rfl

section
variable {H : Type} {enc : TypeId × Value → H} {W : World} {base : Nat} {spare : Nat → Bool} {held : Bool} {v : Value} {d : DataW H} {ps : List MemPlace}
theorem open_set (hv : Value.okWide Tryd.prog W .any base 26 v) (h : DataW.Trod enc Tryd.prog W 0 spare held 26 v d ps) :
    ∃ p : Nat → Bool, v = .agg #[.int .u64 (word p 0), .int .u64 (word p 1), .int .u64 (word p 2), .int .u64 (word p 3)] := by
  obtain ⟨cs, rfl, hsz, _⟩ : ∃ cs, v = .agg cs ∧ cs.size = Tryd.prog.cellsOf 26 ∧ Row.okWide Tryd.prog W .any base 26 cs := by
    simpa [Value.okWide, Tryd.underlying26] using hv
  rw [Tryd.cellsSet] at hsz
  obtain ⟨c0, c1, c2, c3, rfl⟩ := Go.Joins.array4 hsz
  obtain ⟨fuel, hf⟩ := h
  obtain ⟨y0, y1, y2, y3, m, hx, hy0, hy1, hy2, hy3⟩ := trod_array4 Tryd.underlying26 Tryd.cellsWord hf
  obtain ⟨x0, e0, _, w0⟩ := DataW.trod_int Tryd.underlying24 hy0
  obtain ⟨x1, e1, _, w1⟩ := DataW.trod_int Tryd.underlying24 hy1
  obtain ⟨x2, e2, _, w2⟩ := DataW.trod_int Tryd.underlying24 hy2
  obtain ⟨x3, e3, _, w3⟩ := DataW.trod_int Tryd.underlying24 hy3
  simp at e0 e1 e2 e3
  subst e0 e1 e2 e3
  obtain ⟨p, rfl, rfl, rfl, rfl⟩ := words_of x0 x1 x2 x3 (bounds_u64 w0) (bounds_u64 w1) (bounds_u64 w2) (bounds_u64 w3)
  exact ⟨p, rfl⟩
theorem open_byte (hv : Value.okWide Tryd.prog W .any base 5 v) (h : DataW.Trod enc Tryd.prog W 0 spare held 5 v d ps) :
    ∃ n : Int, v = .int .u8 n ∧ 0 ≤ n ∧ n ≤ 255 := by
  obtain ⟨x, rfl, _, _, wx⟩ := open_int Tryd.underlying5 hv h
  exact ⟨x, rfl, bounds_u8 wx⟩
/-- A slice of bytes that came in: its elements xs. -/
theorem open_bytes (hv : Value.okWide Tryd.prog W .any base 22 v) (h : DataW.Trod enc Tryd.prog W 0 (fun _ => true) held 22 v d ps) :
    ∃ A n cap xs, v = .slice A n cap ∧ n = xs.length ∧ RdB W W.heap.size A xs ∧ (∀ k, k < xs.length → 0 ≤ xs.getD k 0 ∧ xs.getD k 0 ≤ 255) ∧ n ≤ cap ∧ cap ≤ maxLen := by
  obtain ⟨A, n, cap, rfl⟩ := okWide_slice Tryd.underlying22 hv
  obtain ⟨fuel, hf⟩ := h
  rcases open_ints Tryd.underlying22 Tryd.underlying5 (by kernel_rfl) hf with ⟨hcs, _⟩ | ⟨x, l, c, zs, hcs, _, hl, hm, hz, _, hcell, hwz⟩
  · simp [Value.cells] at hcs
    obtain ⟨rfl, rfl, rfl⟩ := hcs
    exact ⟨none, 0, 0, [], rfl, rfl, fun k hk => by simp at hk, fun k hk => by simp at hk, Nat.le_refl _, Nat.zero_le _⟩
  · simp [Value.cells] at hcs
    obtain ⟨rfl, rfl, rfl⟩ := hcs
    simp at hz
    refine ⟨_, n, cap, zs.take n, rfl, by simp; omega, ?_, ?_, hl, hm⟩
    · intro k hk
      simp at hk
      obtain ⟨b, off, rfl, hc⟩ := ints_at hcell (by omega)
      have hck := hc k (by omega)
      refine ⟨b, off, rfl, World.block_lt_of_cell? W ⟨b, off + k, none⟩ hck, ?_⟩
      rw [hck, List.getD_eq_getElem?_getD, List.getD_eq_getElem?_getD, List.getElem?_take_of_lt (by omega)]
    · intro k hk
      have hk' := hk
      simp at hk'
      have hb := range_u8 hwz k
      rw [List.getD_eq_getElem?_getD, List.getElem?_take_of_lt (by omega)]
      exact hb
end

end Go.Proofs.YtammicfijnffaaaDoor
