/-
  The statement LuhnTurned of layer 8: the walk. Contracts for other texts; no statement of its own.
-/
import Derived.Test.YtoigllolilibhaaLaw8
import Derived.Test.YtoigllolilibhaaByteApp
import Derived.Deep.CutRange
import Derived.Deep.DeepCutAuto
import Derived.Deep.RegionLaw
import Derived.StillTailTactics
set_option linter.unusedVariables false
set_option linter.unusedSimpArgs false
namespace Go.Proofs.Ytoigllolilibhaa
open Go Go.RowKit

theorem byteOk_app {a b : List Int} (ha : byteOk a) (hb : byteOk b) : byteOk (a ++ b) := by
  intro k hk
  simp only [List.length_append] at hk
  rcases Nat.lt_or_ge k a.length with h | h
  · have := ha k h
    rw [List.getD_eq_getElem?_getD, List.getElem?_append_left h]
    rwa [List.getD_eq_getElem?_getD] at this
  · have := hb (k - a.length) (by omega)
    rw [List.getD_eq_getElem?_getD, List.getElem?_append_right h]
    rwa [List.getD_eq_getElem?_getD] at this
theorem byteOk_one {x : Int} (h0 : 0 ≤ x) (h1 : x ≤ 255) : byteOk [x] := by
  intro k hk
  simp at hk
  subst hk
  exact ⟨h0, h1⟩
theorem byteOk_take {a : List Int} (ha : byteOk a) (j : Nat) : byteOk (a.take j) := by
  intro k hk
  simp only [List.length_take] at hk
  have := ha k (by omega)
  rw [List.getD_eq_getElem?_getD, List.getElem?_take_of_lt (by omega)]
  rwa [List.getD_eq_getElem?_getD] at this
theorem byteOk_drop {a : List Int} (ha : byteOk a) (j : Nat) : byteOk (a.drop j) := by
  intro k hk
  simp only [List.length_drop] at hk
  have := ha (j + k) (by omega)
  rw [List.getD_eq_getElem?_getD, List.getElem?_drop]
  rwa [List.getD_eq_getElem?_getD] at this

set_option maxRecDepth 20000 in
set_option maxHeartbeats 400000 in
theorem turned_out (w : World) (A : Option Addr) (n cap : Nat) (at_ by_ x : Int) (hcap : n ≤ 9223372036854775807) (c1 : -9223372036854775808 ≤ at_) (e1 : at_ ≤ 9223372036854775807)
    (h : n = 0 ∨ 1000 < n ∨ at_ < 0 ∨ (n : Int) ≤ at_) :
    Calls Try.prog 7 #[.slice A n cap, .int .i64 at_, .int .i64 by_, .int .u8 x] w fun e w' => e = .returned (.bool true) ∧ Below w.heap.size w w' := by
  by_cases h0 : n = 0
  · subst h0
    clear h
    go_enter Try.func7, Try.ntmps7
    go_wp2_with (go_at_call 23; (with_reducible refine (up8_p _).mono ?_); rintro e w1 ⟨rfl, hb1⟩)
    go_ret
    exact ⟨rfl, hb1⟩
  · have h0' : ((n : Int) == 0) = false := by simpa using h0
    by_cases h1 : 1000 < n
    · clear h
      go_enter Try.func7, Try.ntmps7
      go_wp2_with (go_at_call 23; (with_reducible refine (up8_p _).mono ?_); rintro e w1 ⟨rfl, hb1⟩)
      go_ret
      exact ⟨rfl, hb1⟩
    · by_cases h2 : at_ < 0
      · clear h
        go_enter Try.func7, Try.ntmps7
        go_wp2_with (go_at_call 23; (with_reducible refine (up8_p _).mono ?_); rintro e w1 ⟨rfl, hb1⟩)
        go_ret
        exact ⟨rfl, hb1⟩
      · have h3 : (n : Int) ≤ at_ := by omega
        clear h
        go_enter Try.func7, Try.ntmps7
        go_wp2_with (go_at_call 23; (with_reducible refine (up8_p _).mono ?_); rintro e w1 ⟨rfl, hb1⟩)
        go_ret
        exact ⟨rfl, hb1⟩

set_option maxRecDepth 20000 in
set_option maxHeartbeats 4000000 in
theorem turned_in (w : World) (b off n cap : Nat) (xs : List Int) (j : Nat) (by_ x : Int) (hn : n = xs.length) (hr : RdB w w.heap.size (some ⟨b, off, none⟩) xs) (hxs : byteOk xs) (hcap : n ≤ cap) (hcm : cap ≤ 9223372036854775807) (hj : j < n) (hbig : n ≤ 1000)
    (c2 : -9223372036854775808 ≤ by_) (e2 : by_ ≤ 9223372036854775807) (x0 : 0 ≤ x) (x1 : x ≤ 255) :
    Calls Try.prog 7 #[.slice (some ⟨b, off, none⟩) n cap, .int .i64 (j : Int), .int .i64 by_, .int .u8 x] w fun e w' => e = .returned (.bool true) ∧ Below w.heap.size w w' := by
  have HS : Hid (∀ w', Below w.heap.size w w' → Calls Try.prog 24 #[.slice (some ⟨b, off, none⟩) n cap] w' fun e w2 => e = .returned (.tuple #[.int .i64 (lN xs : Nat), .int .i64 (lS xs)]) ∧ w' = w2) := fun w' hb => lsum_p _ n cap xs w' _ hn (hr.below hb) hxs (by omega)
  have HN := Lib.hid hn
  have HX := Lib.hid hxs
  have HR := Lib.hid hr
  have hl := lN_le xs
  rw [← hn] at hl
  have hb := lS_bd xs
  obtain ⟨N, hN⟩ : ∃ N, lN xs = N := ⟨_, rfl⟩
  obtain ⟨S, hS⟩ : ∃ S, lS xs = S := ⟨_, rfl⟩
  rw [hN, hS] at HS
  rw [hN] at hl
  rw [hS] at hb
  have HNN := Lib.hid hN
  have HSS := Lib.hid hS
  have n0 : ((n : Int) == 0) = false := by simp; omega
  clear hN hS hn hr hxs
  have hq : (decide (x < 48) || decide (57 < x)) = !isD x := by unfold isD; by_cases h1 : x < 48 <;> by_cases h2 : 57 < x <;> simp [h1, h2] <;> omega
  have HQ := Lib.hid hq
  clear hq
  go_enter Try.func7, Try.ntmps7
  go_upto_region 7 with (first
    | (go_at_call 23; (with_reducible refine (up8_p _).mono ?_); rintro e w1 ⟨rfl, hb1⟩)
    | (go_at_call 24; (with_reducible refine (HS.out _ hb1).mono ?_); rintro e w2 ⟨rfl, rfl⟩))
  go_cut [62] from 22 to 62 (fun s62 wx => s62 = .bool (!isD x) ∧ w1 = wx)
  case first =>
    go_wp2
    all_goals
      go_meet
      exact ⟨by rw [← HQ.out] <;> simp [*], rfl⟩
  case rest =>
  obtain ⟨rfl, rfl⟩ := hcut
  go_upto_if 62 with fail
  go_cut [12] from 57 to 87 (fun s12 wx => Below w.heap.size w wx)
  case first =>
    cases hd : isD x
    · have HD := Lib.hid hd
      clear hd
      have hnew := (HR.out.below hb1).more hb1.size
      have HNW := Lib.hid hnew
      clear hnew
      have hjc : j ≤ cap := by omega
      have hjn : j ≤ n := by omega
      have T1 := lN_le xs
      have HTL : Hid ((xs.take j).length = j ∧ (xs.drop j).length = n - j) := by have := HN.out; exact Lib.hid ⟨by simp; omega, by simp; omega⟩
      have hws := hb1.size
      have hcj : ¬ cap = j := by omega
      go_upto_region 8 with fail
      go_cut [12] from 63 to 74 (fun s12 wx => Bys wx w1.heap.size s12 ((xs.take j ++ [x]) ++ xs.drop j) ∧ Below w1.heap.size w1 wx)
      case first =>
        go_region_law (first
          | ((refine step_bys (by rfl) _ _ (by rfl) (v := .slice (some ⟨_, 0, none⟩) 0 0) (A := some ⟨_, _, none⟩) (l := []) (m := xs.take j) (B := w1.heap.size) (by rfl) (by rfl) (by rw [HTL.out.1]) (by (repeat' (first | with_reducible assumption | ((with_reducible refine Bys.emptyAt ?_ ?_); (focus first | (with_reducible rfl) | (simp; done) | omega | (simp; omega)); (focus first | (with_reducible rfl) | (simp; done) | omega | (simp; omega))) | ((with_reducible refine Bys.oneAt x ?_ ?_); (focus first | (with_reducible rfl) | (simp; done) | omega | (simp; omega)); (focus first | (with_reducible rfl) | (simp; done) | omega | (simp; omega))) | (with_reducible refine Bys.alloc ?_ _) | (with_reducible refine Bys.drew ?_) | (with_reducible refine Bys.kept ?_ hg67 (by intro g e1 e2; simp [Value.ownBlock] at e1 e2; omega)))); done) ((HNW.out.below (by (repeat' (first | (with_reducible assumption) | with_reducible exact Below.refl _ _ | with_reducible exact hB67 | with_reducible exact hB70 | (with_reducible refine Below.drew ?_) | (with_reducible refine Below.alloc ?_ ?_ _) | (simp; done) | omega | (simp; omega) | (have := hB67.size; first | omega | (simp; omega)) | (have := hB70.size; first | omega | (simp; omega)))); done)).take j) (by rw [HTL.out.1]; simp; omega) (by first | (simp; done) | omega | (simp; omega)) ?_); intro v67 w67 own67 hg67 hor67; rw [List.nil_append] at own67; have hB67 : Below w1.heap.size w1 w67 := Below.grown (by (repeat' (first | (with_reducible assumption) | with_reducible exact Below.refl _ _ | with_reducible exact hB67 | with_reducible exact hB70 | (with_reducible refine Below.drew ?_) | (with_reducible refine Below.alloc ?_ ?_ _) | (simp; done) | omega | (simp; omega) | (have := hB67.size; first | omega | (simp; omega)) | (have := hB70.size; first | omega | (simp; omega)))); done) hg67 (by first | (simp; done) | omega | (simp; omega)) (by intro g e; cases e; first | (simp; done) | omega | (simp; omega)); have hs67 := hB67.size)
          | ((refine step_bys (by rfl) _ _ (by rfl) (v := v67) (A := some ⟨_, 0, none⟩) (k := 1) (cap := 1) (l := xs.take j) (m := [x]) (B := w1.heap.size) (by rfl) (by rfl) (by rfl) (by (repeat' (first | with_reducible assumption | ((with_reducible refine Bys.emptyAt ?_ ?_); (focus first | (with_reducible rfl) | (simp; done) | omega | (simp; omega)); (focus first | (with_reducible rfl) | (simp; done) | omega | (simp; omega))) | ((with_reducible refine Bys.oneAt x ?_ ?_); (focus first | (with_reducible rfl) | (simp; done) | omega | (simp; omega)); (focus first | (with_reducible rfl) | (simp; done) | omega | (simp; omega))) | (with_reducible refine Bys.alloc ?_ _) | (with_reducible refine Bys.drew ?_) | (with_reducible refine Bys.kept ?_ hg67 (by intro g e1 e2; simp [Value.ownBlock] at e1 e2; omega)))); done) (Bys.rdAt (n := 1) (c := 1) (B := w1.heap.size) (by (repeat' (first | with_reducible assumption | ((with_reducible refine Bys.emptyAt ?_ ?_); (focus first | (with_reducible rfl) | (simp; done) | omega | (simp; omega)); (focus first | (with_reducible rfl) | (simp; done) | omega | (simp; omega))) | ((with_reducible refine Bys.oneAt x ?_ ?_); (focus first | (with_reducible rfl) | (simp; done) | omega | (simp; omega)); (focus first | (with_reducible rfl) | (simp; done) | omega | (simp; omega))) | (with_reducible refine Bys.alloc ?_ _) | (with_reducible refine Bys.drew ?_) | (with_reducible refine Bys.kept ?_ hg67 (by intro g e1 e2; simp [Value.ownBlock] at e1 e2; omega)))); done)) (by rw [HTL.out.1]; simp; omega) (by first | (simp; done) | omega | (simp; omega)) ?_); intro v70 w70 own70 hg70 hor70; have hB70 : Below w1.heap.size w1 w70 := Below.grown (by (repeat' (first | (with_reducible assumption) | with_reducible exact Below.refl _ _ | with_reducible exact hB67 | with_reducible exact hB70 | (with_reducible refine Below.drew ?_) | (with_reducible refine Below.alloc ?_ ?_ _) | (simp; done) | omega | (simp; omega) | (have := hB67.size; first | omega | (simp; omega)) | (have := hB70.size; first | omega | (simp; omega)))); done) hg70 (by first | (simp; done) | omega | (simp; omega)) (fun g e => (own67.in e).1); have hs70 := hB70.size)
          | ((refine step_bys (by rfl) _ _ (by rfl) (v := v70) (A := some ⟨b, off + j, none⟩) (l := xs.take j ++ [x]) (m := xs.drop j) (B := w1.heap.size) (by rfl) (by rfl) (by rw [HTL.out.2]) (by (repeat' (first | with_reducible assumption | ((with_reducible refine Bys.emptyAt ?_ ?_); (focus first | (with_reducible rfl) | (simp; done) | omega | (simp; omega)); (focus first | (with_reducible rfl) | (simp; done) | omega | (simp; omega))) | ((with_reducible refine Bys.oneAt x ?_ ?_); (focus first | (with_reducible rfl) | (simp; done) | omega | (simp; omega)); (focus first | (with_reducible rfl) | (simp; done) | omega | (simp; omega))) | (with_reducible refine Bys.alloc ?_ _) | (with_reducible refine Bys.drew ?_) | (with_reducible refine Bys.kept ?_ hg67 (by intro g e1 e2; simp [Value.ownBlock] at e1 e2; omega)))); done) ((HNW.out.below (by (repeat' (first | (with_reducible assumption) | with_reducible exact Below.refl _ _ | with_reducible exact hB67 | with_reducible exact hB70 | (with_reducible refine Below.drew ?_) | (with_reducible refine Below.alloc ?_ ?_ _) | (simp; done) | omega | (simp; omega) | (have := hB67.size; first | omega | (simp; omega)) | (have := hB70.size; first | omega | (simp; omega)))); done)).drop j) (by rw [List.length_append, HTL.out.1, HTL.out.2]; simp; omega) (by first | (simp; done) | omega | (simp; omega)) ?_); intro v74 w74 own74 hg74 hor74; have hB74 : Below w1.heap.size w1 w74 := Below.grown (by (repeat' (first | (with_reducible assumption) | with_reducible exact Below.refl _ _ | with_reducible exact hB67 | with_reducible exact hB70 | (with_reducible refine Below.drew ?_) | (with_reducible refine Below.alloc ?_ ?_ _) | (simp; done) | omega | (simp; omega) | (have := hB67.size; first | omega | (simp; omega)) | (have := hB70.size; first | omega | (simp; omega)))); done) hg74 (by first | (simp; done) | omega | (simp; omega)) (fun g e => (own70.in e).1))
          | fail)
        all_goals
          go_wp2
          go_meet
          exact ⟨by (repeat' (first | with_reducible assumption | ((with_reducible refine Bys.emptyAt ?_ ?_); (focus first | (with_reducible rfl) | (simp; done) | omega | (simp; omega)); (focus first | (with_reducible rfl) | (simp; done) | omega | (simp; omega))) | ((with_reducible refine Bys.oneAt x ?_ ?_); (focus first | (with_reducible rfl) | (simp; done) | omega | (simp; omega)); (focus first | (with_reducible rfl) | (simp; done) | omega | (simp; omega))) | (with_reducible refine Bys.alloc ?_ _) | (with_reducible refine Bys.drew ?_) | (with_reducible refine Bys.kept ?_ hg67 (by intro g e1 e2; simp [Value.ownBlock] at e1 e2; omega)))); done, by (repeat' (first | (with_reducible assumption) | with_reducible exact Below.refl _ _ | with_reducible exact hB67 | with_reducible exact hB70 | (with_reducible refine Below.drew ?_) | (with_reducible refine Below.alloc ?_ ?_ _) | (simp; done) | omega | (simp; omega) | (have := hB67.size; first | omega | (simp; omega)) | (have := hB70.size; first | omega | (simp; omega)))); done⟩
      case rest =>
        obtain ⟨hown, hbc⟩ := hcut
        obtain ⟨C, m, rfl, hrd⟩ := hown.rd
        have hlen : (xs.take j ++ [x] ++ xs.drop j).length = n + 1 := by rw [List.length_append, List.length_append, HTL.out.1, HTL.out.2]; simp; omega
        have eN : lN (xs.take j ++ [x] ++ xs.drop j) = N := by rw [List.append_assoc, List.singleton_append, put_lN _ _ _ HD.out, List.take_append_drop]; exact HNN.out
        have eS : lS (xs.take j ++ [x] ++ xs.drop j) = S := by rw [List.append_assoc, List.singleton_append, put_lS _ _ _ HD.out, List.take_append_drop]; exact HSS.out
        have hby : byteOk (xs.take j ++ [x] ++ xs.drop j) := byteOk_app (byteOk_app (byteOk_take HX.out j) (byteOk_one x0 x1)) (byteOk_drop HX.out j)
        have HM := lsum_p C _ m _ wc _ rfl hrd hby (by rw [hlen]; omega)
        rw [eN, eS, hlen] at HM
        rw [hlen]
        clear eN eS hlen hrd hown
        go_wp2_with (go_at_call 24; (with_reducible refine HM.mono ?_); rintro e w2 ⟨rfl, rfl⟩)
        go_meet
        exact hb1.trans (hbc.mono hb1.size)
    · go_wp2
      go_meet
      exact hb1
  case rest =>
    have HB := Lib.hid hcut
    clear hcut hb1
    obtain ⟨R, hR⟩ : ∃ R, raw 1 xs = R := ⟨_, rfl⟩
    have HRR := Lib.hid hR
    clear hR
    go_wp2
    go_loopg [15, 16] 10 (fun m s15 s16 wr => ∃ k : Nat, k ≤ 10 ∧ m = 10 - k ∧ s16 = .int .i64 (48 + (k : Int)) ∧ s15 = .int .i64 (goodN R k : Nat) ∧ Below w.heap.size w wr)
    case atStart => exact ⟨0, Nat.zero_le _, rfl, rfl, rfl, HB.out⟩
    case round =>
      obtain ⟨k, hk, hmk, rfl, rfl, hbr⟩ := hrel
      have HMK := Lib.hid hmk
      clear hmk
      have hgl := goodN_le R k
      obtain ⟨G, hG⟩ : ∃ G, goodN R k = G := ⟨_, rfl⟩
      rw [hG] at hgl
      rw [hG]
      have HG := Lib.hid hG
      clear hG
      have hws := hbr.size
      have HNW := Lib.hid ((HR.out.below hbr).more hbr.size)
      have HBR := Lib.hid hbr
      clear hbr
      by_cases hk10 : k < 10
      · have elen : (xs ++ [48 + (k : Int)]).length = n + 1 := by rw [List.length_append, ← HN.out]; rfl
        have hby : byteOk (xs ++ [48 + (k : Int)]) := byteOk_app HX.out (byteOk_one (by omega) (by omega))
        have eS := last_lS xs k hk10
        rw [HRR.out] at eS
        have ES := Lib.hid eS
        have EL := Lib.hid elen
        have EB := Lib.hid hby
        have hSum : ∀ C m w', RdB w' w'.heap.size C (xs ++ [48 + (k : Int)]) → Calls Try.prog 24 #[.slice C (n + 1) m] w' fun e w2 => e = .returned (.tuple #[.int .i64 (lN (xs ++ [48 + (k : Int)]) : Nat), .int .i64 ((R + (k : Int)) % 10)]) ∧ w' = w2 := fun C m w' hr => by
          have h := lsum_p C (n + 1) m (xs ++ [48 + (k : Int)]) w' _ EL.out.symm hr EB.out (by omega)
          rwa [ES.out] at h
        obtain ⟨N2, hN2⟩ : ∃ N2, lN (xs ++ [48 + (k : Int)]) = N2 := ⟨_, rfl⟩
        obtain ⟨z, hz⟩ : ∃ z, (R + (k : Int)) % 10 = z := ⟨_, rfl⟩
        rw [hN2, hz] at hSum
        have HSUM := Lib.hid hSum
        have HGS : Hid (goodN R (k + 1) = G + if z = 0 then 1 else 0) := by rw [← hz, ← HG.out]; exact Lib.hid rfl
        clear eS elen hby hz hN2 hSum
        by_cases hz0 : z = 0
        · subst hz0
          go_wp2_with (first
            | ((refine wpList_bys (by rfl) _ _ (by rfl) (v := .slice (some ⟨_, 0, none⟩) 0 0) (A := some ⟨b, off, none⟩) (l := []) (m := xs) (B := wr.heap.size) (by rfl) (by rfl) HN.out (by (first | exact Bys.empty _ (Nat.le_refl _) | exact Bys.emptyAt (by simp) (by simp))) (HNW.out.below ((Below.refl _ _).alloc (Nat.le_refl _) _)) (by rw [← HN.out]; simp; omega) (by simp) ?_); intro v95 w95 own95 hg95 hor95; rw [List.nil_append] at own95; have hB95 : Below wr.heap.size wr w95 := Below.grown ((Below.refl _ _).alloc (Nat.le_refl _) _) hg95 (by simp) (by intro g e; cases e; simp); have hs95 := hB95.size; go_simp)
            | ((refine wpList_bys (by rfl) _ _ (by rfl) (v := v95) (A := some ⟨_, 0, none⟩) (k := 1) (cap := 1) (l := xs) (m := [48 + (k : Int)]) (B := wr.heap.size) (by rfl) (by rfl) (by rfl) (own95.alloc _) (Bys.rdAt (n := 1) (c := 1) (B := w95.heap.size) (Bys.one w95 (Nat.le_refl _) _)) (by rw [← HN.out]; simp; omega) (by simp; omega) ?_); intro v99 w99 own99 hg99 hor99; obtain ⟨C, m, rfl, hrd⟩ := own99.rd; have hB99 : Below wr.heap.size wr w99 := Below.grown (hB95.alloc hB95.size _) hg99 (by simp; omega) (fun g e => (own95.in e).1); rw [EL.out]; go_simp)
            | (go_at_call 24; (with_reducible refine (HSUM.out C m w99 hrd).mono ?_); rintro e w2 ⟨rfl, rfl⟩))
          go_roundg (10 - (k + 1))
          case measure => have := HMK.out; omega
          case rel => exact ⟨k + 1, by omega, rfl, by go_num, by rw [HGS.out]; rfl, HBR.out.trans (hB99.mono hws)⟩
        · have hz1 : (z == 0) = false := by simpa using hz0
          go_wp2_with (first
            | ((refine wpList_bys (by rfl) _ _ (by rfl) (v := .slice (some ⟨_, 0, none⟩) 0 0) (A := some ⟨b, off, none⟩) (l := []) (m := xs) (B := wr.heap.size) (by rfl) (by rfl) HN.out (by (first | exact Bys.empty _ (Nat.le_refl _) | exact Bys.emptyAt (by simp) (by simp))) (HNW.out.below ((Below.refl _ _).alloc (Nat.le_refl _) _)) (by rw [← HN.out]; simp; omega) (by simp) ?_); intro v95 w95 own95 hg95 hor95; rw [List.nil_append] at own95; have hB95 : Below wr.heap.size wr w95 := Below.grown ((Below.refl _ _).alloc (Nat.le_refl _) _) hg95 (by simp) (by intro g e; cases e; simp); have hs95 := hB95.size; go_simp)
            | ((refine wpList_bys (by rfl) _ _ (by rfl) (v := v95) (A := some ⟨_, 0, none⟩) (k := 1) (cap := 1) (l := xs) (m := [48 + (k : Int)]) (B := wr.heap.size) (by rfl) (by rfl) (by rfl) (own95.alloc _) (Bys.rdAt (n := 1) (c := 1) (B := w95.heap.size) (Bys.one w95 (Nat.le_refl _) _)) (by rw [← HN.out]; simp; omega) (by simp; omega) ?_); intro v99 w99 own99 hg99 hor99; obtain ⟨C, m, rfl, hrd⟩ := own99.rd; have hB99 : Below wr.heap.size wr w99 := Below.grown (hB95.alloc hB95.size _) hg99 (by simp; omega) (fun g e => (own95.in e).1); rw [EL.out]; go_simp)
            | (go_at_call 24; (with_reducible refine (HSUM.out C m w99 hrd).mono ?_); rintro e w2 ⟨rfl, rfl⟩))
          go_roundg (10 - (k + 1))
          case measure => have := HMK.out; omega
          case rel => exact ⟨k + 1, by omega, rfl, by go_num, by rw [HGS.out, if_neg hz0]; rfl, HBR.out.trans (hB99.mono hws)⟩
      · have : k = 10 := by omega
        subst this
        have hG1 : G = 1 := by rw [← HG.out, goodN_one]
        subst hG1
        clear hk hk10 hgl
        have hjx : j < xs.length := by rw [← HN.out]; exact hj
        obtain ⟨b', off', e, hbB, hc⟩ := HNW.out j hjx
        injection e with e
        injection e with e1 e2
        subst e1 e2
        have hv := HX.out j hjx
        have HT : Hid (xs = xs.take j ++ xs.getD j 0 :: xs.drop (j + 1)) := Lib.hid (by rw [← drop_cons xs j hjx, List.take_append_drop])
        obtain ⟨v, hve⟩ : ∃ v, xs.getD j 0 = v := ⟨_, rfl⟩
        rw [hve] at hc hv HT
        have hb2 := HBR.out
        clear hve hjx
        cases hd : isD v
        · have hx := isD_no hd
          clear hd
          rcases hx with hx | hx
          all_goals
            go_wp2
            go_ret
            exact ⟨rfl, hb2⟩
        · obtain ⟨h48, h57⟩ := isD_yes hd
          have HD := Lib.hid hd
          clear hd
          by_cases hy1 : by_ < 1
          · go_wp2
            go_ret
            exact ⟨rfl, hb2⟩
          by_cases hy9 : 9 < by_
          · go_wp2
            go_ret
            exact ⟨rfl, hb2⟩
          have y48 : 48 ≤ 48 + (v - 48 + by_) % 10 := by omega
          have y57 : 48 + (v - 48 + by_) % 10 ≤ 57 := by omega
          have hyn : v ≠ 48 + (v - 48 + by_) % 10 := by omega
          have hset : xs.set j (48 + (v - 48 + by_) % 10) = xs.take j ++ (48 + (v - 48 + by_) % 10) :: xs.drop (j + 1) := by
            rw [List.set_eq_take_append_cons_drop, if_pos (by rw [← HN.out]; exact hj)]
          have eN : lN (xs.set j (48 + (v - 48 + by_) % 10)) = N := by rw [hset, turn_lN _ _ v _ HD.out (isD_yes' y48 y57), ← HT.out]; exact HNN.out
          have eS : lS (xs.set j (48 + (v - 48 + by_) % 10)) ≠ S := by rw [hset, ← HSS.out]; have h := turn_lS (xs.take j) (xs.drop (j + 1)) v _ HD.out (isD_yes' y48 y57) hyn; rwa [← HT.out] at h
          have hby : byteOk (xs.set j (48 + (v - 48 + by_) % 10)) := by rw [hset]; exact byteOk_app (byteOk_take HX.out j) (byteOk_app (a := [_]) (byteOk_one (by omega) (by omega)) (byteOk_drop HX.out (j + 1)))
          have hSum : ∀ C m w', RdB w' w'.heap.size C (xs.set j (48 + (v - 48 + by_) % 10)) → Calls Try.prog 24 #[.slice C n m] w' fun e w2 => e = .returned (.tuple #[.int .i64 (N : Nat), .int .i64 (lS (xs.set j (48 + (v - 48 + by_) % 10)))]) ∧ w' = w2 := fun C m w' hr => by
            have h := lsum_p C n m (xs.set j (48 + (v - 48 + by_) % 10)) w' _ (by rw [List.length_set]; exact HN.out) hr hby (by omega)
            rwa [eN] at h
          obtain ⟨S2, hS2⟩ : ∃ S2, lS (xs.set j (48 + (v - 48 + by_) % 10)) = S2 := ⟨_, rfl⟩
          rw [hS2] at eS hSum
          have HSUM := Lib.hid hSum
          have nS : (S2 != S) = true := by simpa using eS
          clear eN hset hyn hby hSum hS2 hb2
          go_wp2_with ((refine wpList_bys (by rfl) _ _ (by rfl) (v := .slice (some ⟨_, 0, none⟩) 0 0) (A := some ⟨b, off, none⟩) (l := []) (m := xs) (B := wr.heap.size) (by rfl) (by rfl) HN.out (by (first | exact Bys.empty _ (Nat.le_refl _) | exact Bys.emptyAt (by simp) (by simp))) (HNW.out.below ((Below.refl _ _).alloc (Nat.le_refl _) _)) (by rw [← HN.out]; simp; omega) (by simp) ?_); intro v132 w132 own132 hg132 hor132; rw [List.nil_append] at own132; have hB132 : Below wr.heap.size wr w132 := Below.grown ((Below.refl _ _).alloc (Nat.le_refl _) _) hg132 (by simp) (by intro g e; cases e; simp); have hs132 := hB132.size; obtain ⟨g, c, rfl, hg0, hg1⟩ := own132.pos (by rw [← HN.out]; omega); have hc132 := cell_stays hc hB132; have fz := own132.frozen j; have hcg := own132.cell j (by rw [← HN.out]; exact hj); have hst := (own132.store j (48 + (v - 48 + by_) % 10)).rdAt; have HST := Lib.hid hst; have HB2 := Lib.hid (HBR.out.trans ((hB132.setCell (p := ⟨g, j, none⟩) hg0 (.int .u8 (48 + (v - 48 + by_) % 10))).mono hws)); clear hst own132 hg132 hor132 hB132; rw [← HN.out]; go_simp)
          go_wp2_with (go_at_call 24; go_loud ((with_reducible refine (HSUM.out _ _ _ HST.out).mono ?_); rintro e w2 ⟨rfl, rfl⟩))
          go_ret
          exact ⟨rfl, HB2.out⟩

theorem luhnturned_p (w : World) (A : Option Addr) (cap : Nat) (xs : List Int) (at_ by_ x : Int) (hr : RdB w w.heap.size A xs) (hxs : byteOk xs) (hcap : xs.length ≤ cap ∧ cap ≤ 9223372036854775807) (c1 : -9223372036854775808 ≤ at_) (e1 : at_ ≤ 9223372036854775807) (c2 : -9223372036854775808 ≤ by_) (e2 : by_ ≤ 9223372036854775807) (x0 : 0 ≤ x) (x1 : x ≤ 255) :
    Calls Try.prog 7 #[.slice A xs.length cap, .int .i64 at_, .int .i64 by_, .int .u8 x] w fun e w' => e = .returned (.bool true) ∧ Below w.heap.size w w' := by
  by_cases h : xs.length = 0 ∨ 1000 < xs.length ∨ at_ < 0 ∨ (xs.length : Int) ≤ at_
  · exact turned_out w A xs.length cap at_ by_ x (by omega) c1 e1 h
  · obtain ⟨j, rfl⟩ : ∃ j : Nat, at_ = (j : Int) := ⟨at_.toNat, by omega⟩
    have hj : j < xs.length := by omega
    obtain ⟨b, off, rfl, _, _⟩ := hr j hj
    exact turned_in w b off _ cap xs j by_ x rfl hr hxs hcap.1 hcap.2 hj (by omega) c2 e2 x0 x1
end Go.Proofs.Ytoigllolilibhaa
