/-
  The walk of ClassesApart. Contracts for other texts; no statement of its own.
-/
import Derived.Test.YtammicfijnffaaaLaw5
import Derived.Test.YtammicfijnffaaaApp2
import Derived.Test.YtammicfijnffaaaClassRef
import Derived.Deep.CutRange
import Derived.Deep.DeepCutAuto
import Derived.Deep.RegionLaw
import Derived.StillTailTactics
import Derived.Deep.LoopGhost
import Derived.BigQuiet
set_option linter.unusedVariables false
set_option linter.unusedSimpArgs false
namespace Go.Proofs.Ytammicfijnffaaa
open Go Go.RowKit
attribute [local go_sem ↓] Go.wp_at_zero Go.wp_at_succ
attribute [local go_sem] arrV_size

/-- The cells of a row of sets. -/
def cellsS (l : List (Nat → Bool)) : List Value := l.flatMap fun p => [.int .u64 (word p 0), .int .u64 (word p 1), .int .u64 (word p 2), .int .u64 (word p 3)]
theorem cellsS_len (l : List (Nat → Bool)) : (cellsS l).length = l.length * 4 := by
  induction l with
  | nil => rfl
  | cons p l ih => simp only [cellsS, List.flatMap_cons, List.length_append, List.length_cons, List.length_nil] at ih ⊢; omega
theorem cellsS_get : ∀ (l : List (Nat → Bool)) (k q : Nat) (hk : k < l.length), q < 4 → (cellsS l)[k * 4 + q]? = some (.int .u64 (word (l[k]'hk) q))
  | [], k, q, hk, _ => by simp at hk
  | p :: l, 0, q, _, hq => by
    match q, hq with
    | 0, _ => rfl
    | 1, _ => rfl
    | 2, _ => rfl
    | 3, _ => rfl
  | p :: l, k + 1, q, hk, hq => by
    have ih := cellsS_get l k q (by simpa using hk) hq
    have e : (k + 1) * 4 + q = 4 + (k * 4 + q) := by omega
    rw [e]
    show ([.int .u64 (word p 0), .int .u64 (word p 1), .int .u64 (word p 2), .int .u64 (word p 3)] ++ cellsS l)[4 + (k * 4 + q)]? = _
    rw [List.getElem?_append_right (by simp)]
    simpa using ih
theorem cellsS_one (l : List (Nat → Bool)) : ∀ u ∈ cellsS l, u.oneCell' = true := by
  intro u hu
  simp only [cellsS, List.mem_flatMap] at hu
  obtain ⟨p, _, hp⟩ := hu
  simp at hp
  rcases hp with rfl | rfl | rfl | rfl <;> rfl
theorem cellsS_snoc (l : List (Nat → Bool)) (q : Nat → Bool) : cellsS l ++ [.int .u64 (word q 0), .int .u64 (word q 1), .int .u64 (word q 2), .int .u64 (word q 3)] = cellsS (l ++ [q]) := by simp [cellsS]
theorem newsS {W : World} {B : Nat} {A : Option Addr} {l : List (Nat → Bool)} (h : RdS W B A l) : ∀ ad, A = some ad → ∀ j u, (cellsS l)[j]? = some u → W.cell? (ad.add j) = some u := by
  intro ad hA j u hu
  have hj : j < l.length * 4 := by
    rcases Nat.lt_or_ge j (l.length * 4) with h | h
    · exact h
    · rw [List.getElem?_eq_none (by rw [cellsS_len]; exact h)] at hu; cases hu
  obtain ⟨b, off, e, _, hc⟩ := h (j / 4) (by omega)
  rw [hA] at e
  injection e with e
  subst e
  have hg := cellsS_get l (j / 4) (j % 4) (by omega) (by omega)
  have ej : j / 4 * 4 + j % 4 = j := by omega
  rw [ej, hu] at hg
  have hq := hc (j % 4) (by omega)
  rw [show off + j / 4 * 4 + j % 4 = off + j by omega] at hq
  rw [Addr.add_lit, hq, hg]
theorem nilS {W : World} {B : Nat} {A : Option Addr} {l : List (Nat → Bool)} (h : RdS W B A l) : A = none → l.length = 0 := by
  intro e
  rcases Nat.eq_zero_or_pos l.length with h0 | h0
  · exact h0
  · obtain ⟨b, off, e2, _⟩ := h 0 h0
    rw [e] at e2
    cases e2
theorem rdS_own {W : World} {base g n cap : Nat} {e : TypeId} {l : List (Nat → Bool)} (h : W.ownsRow base e 4 (.slice (some ⟨g, 0, none⟩) n cap) n (cellsS l)) : RdS W W.heap.size (some ⟨g, 0, none⟩) l := by
  intro k hk
  refine ⟨g, 0, rfl, (h.lt g rfl).2, fun q hq => ?_⟩
  have := h.cells rfl _ _ (cellsS_get l k q hk hq)
  rw [Addr.add_lit] at this
  rw [Nat.add_assoc]
  exact this
theorem own_empty {W : World} {base g : Nat} {e : TypeId} (h : HasO W g (.cells #[] e (0, 0))) (hb : base ≤ g) : W.ownsRow base e 4 (.slice (some ⟨g, 0, none⟩) 0 0) 0 [] :=
  ⟨by simp, .inr ⟨g, 0, #[], rfl, hb, h, Nat.le_refl _, by decide, by simp, rfl⟩⟩
theorem news4 {W : World} {g : Nat} {e : TypeId} {q : Nat → Bool} (h : HasO W g (.cells #[.int .u64 (word q 0), .int .u64 (word q 1), .int .u64 (word q 2), .int .u64 (word q 3)] e (0, 0))) :
    ∀ j u, ([.int .u64 (word q 0), .int .u64 (word q 1), .int .u64 (word q 2), .int .u64 (word q 3)] : List Value)[j]? = some u → W.cell? ((⟨g, 0, none⟩ : Addr).add j) = some u := by
  intro j u hu
  rw [Addr.add_lit, Nat.zero_add, cell_of_row W g j _ e (0, 0) h]
  simpa using hu
theorem one4 (q : Nat → Bool) : ∀ u ∈ ([.int .u64 (word q 0), .int .u64 (word q 1), .int .u64 (word q 2), .int .u64 (word q 3)] : List Value), u.oneCell' = true := by
  intro u hu
  simp at hu
  rcases hu with rfl | rfl | rfl | rfl <;> rfl

theorem Try.infoSet : (Try.prog.info? 26).map (fun i => (i.zero, i.size, i.bytes)) = some (some (.agg #[.int .u64 0, .int .u64 0, .int .u64 0, .int .u64 0]), 4, 32) := by kernel_rfl
theorem has_grown' {w w' : World} {g : Nat} {o : Obj} {row : Option Nat} (hg : w.grownBy w' row) (h : HasO w g o) (hne : some g = row → False) : HasO w' g o := has_grown hg h hne
theorem storeCells256 {w : World} {g : Nat} {F : Nat → Nat} (G : Nat → Nat) (h : HasO w g (.cells (arrV 256 F) 52 (0, 0))) :
    Sem.run Try.prog (storeCells ⟨g, 0, none⟩ (arrV 256 G).toList) w = .ok () (w.setRow g (arrV 256 G)) := by
  have h1 : (storeCells ⟨g, 0, none⟩ (arrV 256 G).toList 0).run Try.prog w = .ok () (w.setRow g ((arrV 256 F).toList.take 0 ++ (arrV 256 G).toList).toArray) :=
    run_storeCells_from g _ _ 0 _ w h (by simp [arrV]) (arrV_one 256 G)
  rwa [List.take_zero, List.nil_append, Array.toArray_toList] at h1

set_option maxRecDepth 20000 in
set_option maxHeartbeats 4000000 in
theorem classesapart_p (w : World) (A : Option Addr) (c : Nat) (l : List (Nat → Bool)) (q : Nat → Bool) (x y : Int) (hr : RdS w w.heap.size A l) (hlen : l.length ≤ 9223372036854775807) (x0 : 0 ≤ x) (x1 : x ≤ 255) (y0 : 0 ≤ y) (y1 : y ≤ 255) :
    Calls Try.prog 5 #[.slice A l.length c, .agg #[.int .u64 (word q 0), .int .u64 (word q 1), .int .u64 (word q 2), .int .u64 (word q 3)], .int .u8 x, .int .u8 y] w fun e w' => e = .returned (.bool true) ∧ Below w.heap.size w w' := by
  have hz1 : ∀ w : World, Sem.run Try.prog (zeroValue 52) w = .ok (.agg (arrV 256 fun _ => 0)) w := fun _ => by kernel_rfl
  have HC1 : Hid (∀ w', Below w.heap.size w w' → Calls Try.prog 17 #[.slice A l.length c] w' (RetCls w' l)) := fun w' hb => classof_p w' A c l ((hr.below hb).more hb.size) hlen
  have HC2 : Hid (∀ W g cap n, n = (l ++ [q]).length → RdS W W.heap.size (some ⟨g, 0, none⟩) (l ++ [q]) → l.length ≤ 40 → Calls Try.prog 17 #[.slice (some ⟨g, 0, none⟩) n cap] W (RetCls W (l ++ [q]))) := fun W g cap n hn hr h40 => by
    subst hn
    exact classof_p W _ cap _ hr (by simp; omega)
  have HR := Lib.hid hr
  have b0 := Box4.new w q
  have hB0 : Below w.heap.size w (w.alloc (.cells #[.int .u64 (word q 0), .int .u64 (word q 1), .int .u64 (word q 2), .int .u64 (word q 3)] 26)) := (Below.refl _ _).alloc (Nat.le_refl _) _
  clear hr
  generalize hL : l.length = L at *
  have HL := Lib.hid hL
  clear hL
  by_cases h40 : L ≤ 40
  · go_enter Try.func5, Try.ntmps5
    go_wp2_with (first
      | (go_at_call 16; (with_reducible refine (up5_p _).mono ?_); rintro e w1 ⟨rfl, hb1⟩; have hb1' := gro hB0 hb1; have b1 := b0.stays hb1)
      | (go_at_call 17; (with_reducible refine (HC1.out _ hb1').mono ?_); rintro e w2 ⟨rfl, hb2⟩; have hb2' := gro hb1' hb2; have b2 := b1.stays hb2)
      | (refine wpList_lay256 (g := w2.heap.size) (F := fun _ => 0) (G := numK (keyL l)) rfl rfl (BoxN.new w2 _ _ _) (fun w3 b3 hb3 hs3 => ?_); have hb3' := gro2 hb2' hb3; have b4 := (b2.alloc (.cells (arrV 256 fun _ => 0) 52)).below hb3 b2.lt; go_simp))
    have hr3 : RdS w3 w3.heap.size A l := (HR.out.below hb3').more hb3'.size
    have HR3 := Lib.hid hr3
    have HB3 := Lib.hid b3
    have HB4 := Lib.hid b4
    have HBW := Lib.hid hb3'
    obtain ⟨s0, s1, s2, s3⟩ := b4.cell
    have hw2 : w2.heap.size < w3.heap.size := b3.lt
    have hw0 : w.heap.size < w3.heap.size := b4.lt
    obtain ⟨i0, hi, hi0, hi1, hi2⟩ := info_parts Try.infoSet
    clear hs3 hr3 b3 b4 hb3' hb3 b2 b1 b0 hb2' hb2 hb1 hb1' hB0 HC1
    go_cut [12, 13] from 30 to 39 (fun s12 s13 wx => s13 = .int .i64 (cntK (keyL (l ++ [q])) 256 : Nat) ∧ BoxN wx w2.heap.size 52 256 (numK (keyL l)) ∧ Below w.heap.size w wx)
    case first =>
      go_region_law (first
        | ((refine step_app2 _ (by rfl) _ _ 32 (by rfl) w3.heap.size 26 i0 _ 4 32 Try.underlying32 hi hi0 hi1 hi2 rfl (by decide) _ 0 0 [] (by rfl) (own_empty (by (repeat' (first | ((with_reducible refine has_new _ _ _ _ ?_); (first | (with_reducible rfl) | (simp; done) | (simp; omega))) | (with_reducible refine has_alloc _ ?_) | (with_reducible refine has_drew ?_) | (with_reducible refine has_below hb37 ?_) | (with_reducible refine has_grown' hg36 ?_ (by intro h; have h2 := Option.some.inj h; first | omega | (simp at hor33; omega))) | (with_reducible refine has_grown' hg33 ?_ (by first | (simp; done) | (simp; omega) | omega)))); done) (by first | (simp; done) | (simp; omega) | omega)) A L c (cellsS l) (by rfl) (by rw [cellsS_len, HL.out]) (fun e => by have := nilS HR3.out e; rw [HL.out] at this; exact this) (newsS (HR3.out.below (by (repeat' (first | (with_reducible assumption) | with_reducible exact Below.refl _ _ | with_reducible exact hB37 | with_reducible exact hB36 | with_reducible exact hB33 | (with_reducible refine Below.drew ?_) | (with_reducible refine Below.alloc ?_ ?_ _) | (simp; done) | (simp; omega) | (have := hB37.size; first | omega | (simp; omega)) | (have := hB36.size; first | omega | (simp; omega)) | (have := hB33.size; first | omega | (simp; omega)))); done))) (cellsS_one l) (by unfold maxLen; omega) (by omega) (by first | (simp; done) | (simp; omega) | omega) ?_; intro g33 cap33 w33 own33 hg33 hor33 hlt33; rw [List.nil_append, Nat.zero_add] at own33; have hB33 : Below w3.heap.size w3 w33 := Below.grown (by (repeat' (first | (with_reducible assumption) | with_reducible exact Below.refl _ _ | with_reducible exact hB37 | with_reducible exact hB36 | with_reducible exact hB33 | (with_reducible refine Below.drew ?_) | (with_reducible refine Below.alloc ?_ ?_ _) | (simp; done) | (simp; omega) | (have := hB37.size; first | omega | (simp; omega)) | (have := hB36.size; first | omega | (simp; omega)) | (have := hB33.size; first | omega | (simp; omega)))); done) hg33 (by first | (simp; done) | (simp; omega) | omega) (by intro j e; cases e; first | (simp; done) | (simp; omega) | omega); obtain ⟨t0, t1, t2, t3⟩ := (HB4.out.stays hB33).cell; have hw33 : w.heap.size < w33.heap.size := (by have := hB33.size; omega)))
        | ((refine step_app2 _ (by rfl) _ _ 32 (by rfl) w3.heap.size 26 i0 _ 4 32 Try.underlying32 hi hi0 hi1 hi2 rfl (by decide) g33 cap33 L (cellsS l) (by rfl) (by (repeat' (first | with_reducible exact own33 | (with_reducible refine own_drew ?_) | (with_reducible refine World.ownsRow.alloc ?_ _))); done) (some ⟨_, 0, none⟩) 1 1 [.int .u64 (word q 0), .int .u64 (word q 1), .int .u64 (word q 2), .int .u64 (word q 3)] (by rfl) (by rfl) (by intro h; cases h) (by intro ad h; cases h; exact news4 (by (repeat' (first | ((with_reducible refine has_new _ _ _ _ ?_); (first | (with_reducible rfl) | (simp; done) | (simp; omega))) | (with_reducible refine has_alloc _ ?_) | (with_reducible refine has_drew ?_) | (with_reducible refine has_below hb37 ?_) | (with_reducible refine has_grown' hg36 ?_ (by intro h; have h2 := Option.some.inj h; first | omega | (simp at hor33; omega))) | (with_reducible refine has_grown' hg33 ?_ (by first | (simp; done) | (simp; omega) | omega)))); done)) (one4 q) (by unfold maxLen; omega) (by omega) (by have := hB33.size; first | omega | (simp; omega)) ?_; intro g36 cap36 w36 own36 hg36 hor36 hlt36; rw [cellsS_snoc] at own36; have hB36 : Below w3.heap.size w3 w36 := Below.grown (by (repeat' (first | (with_reducible assumption) | with_reducible exact Below.refl _ _ | with_reducible exact hB37 | with_reducible exact hB36 | with_reducible exact hB33 | (with_reducible refine Below.drew ?_) | (with_reducible refine Below.alloc ?_ ?_ _) | (simp; done) | (simp; omega) | (have := hB37.size; first | omega | (simp; omega)) | (have := hB36.size; first | omega | (simp; omega)) | (have := hB33.size; first | omega | (simp; omega)))); done) hg36 (by have := hB33.size; first | omega | (simp; omega)) (by intro j e; cases e; exact (own33.lt _ rfl).1)))
        | (go_simp; go_at_call 17; (refine (HC2.out _ g36 cap36 _ (by rw [List.length_append, HL.out]; rfl) (rdS_own (base := w3.heap.size) (e := 26) (by first | with_reducible exact own36 | with_reducible exact World.ownsRow.alloc own36 _)) h40).mono ?_); (rintro e w37 ⟨rfl, hb37⟩); (have hB37 : Below w3.heap.size w3 w37 := Below.trans (by (repeat' (first | (with_reducible assumption) | with_reducible exact Below.refl _ _ | with_reducible exact hB37 | with_reducible exact hB36 | with_reducible exact hB33 | (with_reducible refine Below.drew ?_) | (with_reducible refine Below.alloc ?_ ?_ _) | (simp; done) | (simp; omega) | (have := hB37.size; first | omega | (simp; omega)) | (have := hB36.size; first | omega | (simp; omega)) | (have := hB33.size; first | omega | (simp; omega)))); done) (hb37.mono (by have := hB36.size; first | omega | (simp; omega)))); ((first | (have stA := storeCells256 (numK (keyL (l ++ [q]))) (has_below hb37 (has_new _ (arrV 256 fun _ => 0) 52 _ rfl)); (try simp only [World.size_alloc] at stA)) | (have stA := storeCells256 (numK (keyL (l ++ [q]))) (has_below hb37 (has_grown' hg36 (has_new _ (arrV 256 fun _ => 0) 52 _ rfl) (by intro h; have h2 := Option.some.inj h; (try simp only [World.size_alloc] at h2); first | omega | (simp at hor33; omega)))); (try simp only [World.size_alloc] at stA)) | (have stA := storeCells256 (numK (keyL (l ++ [q]))) (has_below hb37 (has_grown' hg36 (has_alloc _ (has_new _ (arrV 256 fun _ => 0) 52 _ rfl)) (by intro h; have h2 := Option.some.inj h; (try simp only [World.size_alloc] at h2); first | omega | (simp at hor33; omega)))); (try simp only [World.size_alloc] at stA)) | (have stA := storeCells256 (numK (keyL (l ++ [q]))) (has_below hb37 (has_grown' hg36 (has_grown' hg33 (has_drew (has_new _ (arrV 256 fun _ => 0) 52 _ rfl)) (by first | (simp; done) | (simp; omega) | omega)) (by intro h; have h2 := Option.some.inj h; (try simp only [World.size_alloc] at h2); first | omega | (simp at hor33; omega)))); (try simp only [World.size_alloc] at stA)) | (have stA := storeCells256 (numK (keyL (l ++ [q]))) (has_below hb37 (has_grown' hg36 (has_alloc _ (has_grown' hg33 (has_drew (has_new _ (arrV 256 fun _ => 0) 52 _ rfl)) (by first | (simp; done) | (simp; omega) | omega))) (by intro h; have h2 := Option.some.inj h; (try simp only [World.size_alloc] at h2); first | omega | (simp at hor33; omega)))); (try simp only [World.size_alloc] at stA)) | (have stA := storeCells256 (numK (keyL (l ++ [q]))) (has_below hb37 (has_grown' hg36 (has_grown' hg33 (has_drew (has_alloc _ (has_new _ (arrV 256 fun _ => 0) 52 _ rfl))) (by first | (simp; done) | (simp; omega) | omega)) (by intro h; have h2 := Option.some.inj h; (try simp only [World.size_alloc] at h2); first | omega | (simp at hor33; omega)))); (try simp only [World.size_alloc] at stA)) | (have stA := storeCells256 (numK (keyL (l ++ [q]))) (has_below hb37 (has_grown' hg36 (has_alloc _ (has_grown' hg33 (has_drew (has_alloc _ (has_new _ (arrV 256 fun _ => 0) 52 _ rfl))) (by first | (simp; done) | (simp; omega) | omega))) (by intro h; have h2 := Option.some.inj h; (try simp only [World.size_alloc] at h2); first | omega | (simp at hor33; omega)))); (try simp only [World.size_alloc] at stA)) | (have stA := storeCells256 (numK (keyL (l ++ [q]))) (has_below hb37 (has_grown' hg36 (has_grown' hg33 (has_drew (has_alloc _ (has_alloc _ (has_new _ (arrV 256 fun _ => 0) 52 _ rfl)))) (by first | (simp; done) | (simp; omega) | omega)) (by intro h; have h2 := Option.some.inj h; (try simp only [World.size_alloc] at h2); first | omega | (simp at hor33; omega)))); (try simp only [World.size_alloc] at stA)) | (have stA := storeCells256 (numK (keyL (l ++ [q]))) (has_below hb37 (has_grown' hg36 (has_alloc _ (has_grown' hg33 (has_drew (has_alloc _ (has_alloc _ (has_new _ (arrV 256 fun _ => 0) 52 _ rfl)))) (by first | (simp; done) | (simp; omega) | omega))) (by intro h; have h2 := Option.some.inj h; (try simp only [World.size_alloc] at h2); first | omega | (simp at hor33; omega)))); (try simp only [World.size_alloc] at stA)) | skip); (have stL := storeCells256 (numK (keyL (l ++ [q]))) (has_new w37 (arrV 256 fun _ => 0) 52 _ rfl))))
        | fail)
      all_goals
        go_wp2
        go_meet
        have e1 := hB33.size
        have e2 := hB36.size
        have e3 := hB37.size
        refine ⟨rfl, ?_, ?_⟩
        · first
            | with_reducible exact (HB3.out.stays hB37).row (by omega) _
            | with_reducible exact ((HB3.out.stays hB37).alloc _).row (by omega) _
        · first
            | with_reducible exact below_setRow (HBW.out.trans (hB37.mono (by omega))) (by omega) _
            | with_reducible exact below_setRow ((HBW.out.trans (hB37.mono (by omega))).alloc (by omega) _) (by omega) _
    case rest =>
      obtain ⟨rfl, bA, hWc⟩ := hcut
      obtain ⟨X, rfl⟩ : ∃ X : Nat, x = (X : Int) := ⟨x.toNat, by omega⟩
      obtain ⟨Y, rfl⟩ : ∃ Y : Nat, y = (Y : Int) := ⟨y.toNat, by omega⟩
      have hX : X < 256 := by omega
      have hY : Y < 256 := by omega
      have HA := Lib.hid bA
      have HW := Lib.hid hWc
      obtain ⟨f, hf⟩ : ∃ f, keyL l = f := ⟨_, rfl⟩
      obtain ⟨N, hN⟩ : ∃ N, cntK f 256 = N := ⟨_, rfl⟩
      obtain ⟨M, hM⟩ : ∃ M, cntK (keyL (l ++ [q])) 256 = M := ⟨_, rfl⟩
      have hNM : N ≤ M := by rw [← hN, ← hM, ← hf]; exact cntK_fine _ _ (fun a b => keyL_snoc l q a b) 256
      have hM256 : M ≤ 256 := by rw [← hM]; exact cntK_le _ _
      have hsame : sameB l X Y l.length = (f X == f Y) := by
        unfold sameB
        rw [List.take_length, hf]
      rw [HL.out] at hsame
      have HS := Lib.hid hsame
      rw [hf] at HA
      rw [hf, hN, hM]
      have HN := Lib.hid hN
      clear bA hWc hN hM HB3 HB4 HBW s0 s1 s2 s3 hi hi0 hi1 hi2 HC2 hz1 hsame HR3 hf
      go_wp2
      go_loopg [14, 15] L (fun m s i wr => ∃ k : Nat, i = .int .i64 (k : Int) ∧ k ≤ L ∧ m = L - k ∧ s = .bool (sameB l X Y k) ∧ BoxN wr w2.heap.size 52 256 (numK f) ∧ Below w.heap.size w wr)
      case atStart => exact ⟨0, rfl, Nat.zero_le _, rfl, by simp [sameB, keyL], HA.out, HW.out⟩
      case round =>
        obtain ⟨k, rfl, hk, hmk, rfl, bR, hW⟩ := hrel
        have HMK := Lib.hid hmk
        clear hmk
        by_cases hkl : k < L
        · have hkl' : k < l.length := by rw [HL.out]; exact hkl
          obtain ⟨g, off, rfl, hbB, hcl⟩ := HR.out k hkl'
          have hst := sameB_step l X Y k hkl'
          generalize l[k]'hkl' = p at *
          have c0 := (hW.cell (p := ⟨g, off + k * 4 + 0, none⟩) hbB).trans (hcl 0 (by omega))
          have c1 := (hW.cell (p := ⟨g, off + k * 4 + 1, none⟩) hbB).trans (hcl 1 (by omega))
          have c2 := (hW.cell (p := ⟨g, off + k * 4 + 2, none⟩) hbB).trans (hcl 2 (by omega))
          have c3 := (hW.cell (p := ⟨g, off + k * 4 + 3, none⟩) hbB).trans (hcl 3 (by omega))
          have k0 : (0 : Int) ≤ (k : Int) := by omega
          have k1 : (k : Int) < (L : Int) := by omega
          clear hcl
          rw [Nat.add_zero] at c0
          generalize sameB l X Y k = s at *
          obtain ⟨pb, hpb⟩ : ∃ pb, p X = pb := ⟨_, rfl⟩
          obtain ⟨pc, hpc⟩ : ∃ pc, p Y = pc := ⟨_, rfl⟩
          rw [hpb, hpc] at hst
          have HST := Lib.hid hst
          clear hst
          cases s <;> cases pb <;> cases pc
          all_goals
            go_wp2_with (first
              | (go_at_call 19; (with_reducible refine (has_p p (X : Int) _ (by omega) (by omega)).mono ?_); rintro e w4 ⟨rfl, hb1⟩; rw [Int.toNat_natCast, hpb]; have d0 := cell_stays c0 hb1; have d1 := cell_stays c1 hb1; have d2 := cell_stays c2 hb1; have d3 := cell_stays c3 hb1)
              | (go_at_call 19; (with_reducible refine (has_p p (Y : Int) _ (by omega) (by omega)).mono ?_); rintro e w5 ⟨rfl, hb2⟩; rw [Int.toNat_natCast, hpc]))
            go_roundg (L - (k + 1))
            case measure => have := HMK.out; omega
            case rel => exact ⟨k + 1, by go_num, by omega, rfl, by rw [HST.out]; rfl, (bR.stays hb1).stays hb2, gro (gro hW hb1) hb2⟩
        · have hkL : k = L := by omega
          subst hkL
          rw [HS.out]
          obtain ⟨sm, hsm⟩ : ∃ sm, (f X == f Y) = sm := ⟨_, rfl⟩
          rw [hsm]
          have HSM := Lib.hid hsm
          have HA2 := Lib.hid bR
          have HW2 := Lib.hid hW
          clear bR hW hsm HA HW HS
          go_wp2
          go_loopg [18, 19] 256 (fun m t b wr => ∃ j : Nat, ∃ tp : Int, b = .int .i64 (j : Int) ∧ j ≤ 256 ∧ m = 256 - j ∧ t = .int .i64 tp ∧ tp + 1 = (cntK f j : Nat) ∧ BoxN wr w2.heap.size 52 256 (numK f) ∧ Below w.heap.size w wr)
          case atStart => exact ⟨0, -1, rfl, Nat.zero_le _, rfl, rfl, rfl, HA2.out, HW2.out⟩
          case round =>
            obtain ⟨j, tp, rfl, hj, hmj, rfl, htp, bR, hW⟩ := hrel
            have HMJ := Lib.hid hmj
            clear hmj
            by_cases hj2 : j < 256
            · have hcell := bR.cell j hj2
              have hle := numK_le f j
              have hcs := cntK_step f j
              have hcl := cntK_le f j
              obtain ⟨cj, hcj⟩ : ∃ cj, numK f j = cj := ⟨_, rfl⟩
              obtain ⟨d, hd⟩ : ∃ d, cntK f j = d := ⟨_, rfl⟩
              rw [hcj, hd] at hcs
              rw [hcj, hd] at hle
              rw [hd] at hcl htp
              rw [hcj] at hcell
              have HCS := Lib.hid hcs
              clear hcs hcj hd
              have t0 : decide ((cj : Int) < 0) = false := decide_eq_false (by omega)
              have j0 : (0 : Int) ≤ (j : Int) := by omega
              have j1 : (j : Int) < 256 := by omega
              go_wp2
              all_goals first
                | (exfalso; omega)
                | skip
              all_goals
                go_roundg (256 - (j + 1))
                case measure => have := HMJ.out; omega
                case rel => exact ⟨j + 1, _, by go_num, by omega, rfl, rfl, by rw [HCS.out]; omega, bR, hW⟩
            · have hj3 : j = 256 := by omega
              subst hj3
              have cX := bR.cell X hX
              have cY := bR.cell Y hY
              rw [HN.out] at htp
              have x2 : (0 : Int) ≤ (X : Int) := by omega
              have x3 : (X : Int) < 256 := by omega
              have y2 : (0 : Int) ≤ (Y : Int) := by omega
              have y3 : (Y : Int) < 256 := by omega
              have hnn := numK_eq f X Y
              obtain ⟨nx, hnx⟩ : ∃ n, numK f X = n := ⟨_, rfl⟩
              obtain ⟨ny, hny⟩ : ∃ n, numK f Y = n := ⟨_, rfl⟩
              rw [hnx, hny] at hnn
              rw [hnx] at cX
              rw [hny] at cY
              have hsm := HSM.out
              have hNi : decide ((N : Int) = tp + 1) = true := decide_eq_true htp.symm
              have hge : decide ((N : Int) ≤ (M : Int)) = true := decide_eq_true (by omega)
              have hN256 : N ≤ 256 := by omega
              go_upto_region 20 with fail
              cases sm
              · have hne : nx ≠ ny := by intro e; have e2 : f X = f Y := hnn.1 e; rw [e2] at hsm; simp at hsm
                have hne1 : ((nx : Int) == (ny : Int)) = false := by simp; omega
                have hne2 : (nx == ny) = false := by simp; omega
                have hne3 : decide ((nx : Int) = (ny : Int)) = false := by simp; omega
                have hne4 : decide (nx = ny) = false := by simp; omega
                clear hnn hsm hnx hny hne
                go_quiet (fail)
                go_wp2
                go_ret
                exact ⟨rfl, below_drewN hW _⟩
              · have heq : nx = ny := hnn.2 (by simpa using hsm)
                subst heq
                go_quiet (fail)
                go_wp2
                go_ret
                exact ⟨rfl, below_drewN hW _⟩
  · go_enter Try.func5, Try.ntmps5
    go_wp2_with (go_at_call 16; (with_reducible refine (up5_p _).mono ?_); rintro e w1 ⟨rfl, hb1⟩)
    go_ret
    exact ⟨rfl, gro hB0 hb1⟩
end Go.Proofs.Ytammicfijnffaaa
