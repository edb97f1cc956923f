/-
  Several texts of this proof in one file: Follow, FolMem2, Flat, FlatRep, AddTo, Sorted. No statement of its own.
-/
import Derived.Test.YtfgppmipaahleaaMn16
import Derived.Test.YtfgppmipaahleaaMn17
import Derived.Test.YtfgppmipaahleaaMn6
import Derived.BigRegion
import Derived.Test.YtfgppmipaahleaaMn12
import Derived.StillTailTactics
import Derived.Deep.CutRange
import Derived.Test.YtfgppmipaahleaaMn4
import Derived.Test.YtfgppmipaahleaaMn1
import Derived.Maps.AppendAt
import Derived.Deep.LoopGhost
set_option linter.unusedVariables false
set_option linter.unusedSimpArgs false

/-
  The document's own follow. Contracts for other texts; no statement of its own.
-/
namespace Go.Proofs.Ytfgppmipaahleaa
open Go Go.RowKit
attribute [local go_sem ↓] Go.wp_at_zero Go.wp_at_succ
attribute [local go_sem ↓] run_appE

/-- What follow leaves. -/
def RetFol (w : World) (C ga gs gf k : Nat) (vl : Value) (e : Bool) (s : Lay) (Q : Nat → Prop) (en : Ending) (w' : World) : Prop :=
  en = .returned (.tuple #[]) ∧ ∃ Q', NfaD w' C ga gs gf k vl e s Q' ∧ Kept Q w w' ∧ ∀ b, Q' b → Q b ∨ w.heap.size ≤ b
def FollowF (N : Nat) : Prop := ∀ (t : T) (w : World) (ok : Nat → Prop) (kv : Value) (a C ga gs gf k : Nat) (vl : Value) (e : Bool) (s : Lay) (Q : Nat → Prop), SizeOf.sizeOf t ≤ N → FT t → Tree w ok t kv → (∀ b, ok b → ¬ Q b) → a + plT t ≤ k → k ≤ 256 →
    NfaD w C ga gs gf k vl e s Q → C ≤ w.heap.size → (∀ q, (s.follow.getD q []).length + plT t * plT t ≤ 70000) →
    Calls Try.prog 30 #[.pointer (some ⟨ga, 0, none⟩), nodeP t kv, .int .i64 (a : Int)] w (RetFol w C ga gs gf k vl e (folL t a s) Q)

theorem tree_okF {w : World} {ok : Nat → Prop} {t : T} {g n c : Nat} (h : Tree w ok t (.slice (some ⟨g, 0, none⟩) n c)) : ok g := by
  cases h
  assumption
theorem tree_keptF {w w' : World} {ok : Nat → Prop} {Q : Nat → Prop} {t : T} {k : Value} (h : Tree w ok t k) (hk : Kept Q w w') (hq : ∀ b, ok b → ¬ Q b) : Tree w' (fun b => ok b ∧ b < w.heap.size) t k :=
  h.mono fun b h1 h2 _ => ⟨hk.block b h2 (hq b h1), h1, h2⟩
/-- A list that lies away from Q's blocks. -/
structure Away (w : World) (v : Value) (l : List Nat) (Q : Nat → Prop) : Prop where
  ints : Ints w 0 v (ns l)
  out : ∀ b, v.ownBlock = some b → ¬ Q b
/-- What follow finds on its way. -/
structure FolIn (w : World) (C ga gs gf k : Nat) (vl : Value) (e : Bool) (Q : Nat → Prop) (t : T) (kv beg : Value) (bl : List Nat) (s : Lay) (Qj : Nat → Prop) (wr : World) : Prop where
  box : Box8 wr w.heap.size t kv
  begA : Away wr beg bl Qj
  begB : ∀ b, beg.ownBlock = some b → w.heap.size + 1 ≤ b
  D : NfaD wr C ga gs gf k vl e s Qj
  kept : Kept Q w wr
  q : ∀ b, Qj b → Q b ∨ w.heap.size + 1 ≤ b
  ge : ∀ b, Q b → b < w.heap.size
section
variable {w wr w2 : World} {C ga gs gf k : Nat} {vl : Value} {e : Bool} {Q Qj Q2 : Nat → Prop} {t : T} {kv beg beg2 v v' vp : Value} {bl l : List Nat} {s s2 : Lay}
theorem Away.stays (h : Away wr v l Qj) (hb : Below wr.heap.size wr w2) : Away w2 v l Qj := ⟨h.ints.stays hb, h.out⟩
theorem Away.off (h : Away wr v l Qj) (hk : Kept Qj wr w2) (hq : ∀ b, Q2 b → Qj b ∨ wr.heap.size ≤ b) : Away w2 v l Q2 :=
  ⟨h.ints.off hk h.out, fun b e q => (hq b q).elim (h.out b e) fun h2 => by have := (h.ints.in e).2; omega⟩
theorem Away.ret {B : Nat} (h : Ints w2 B v (ns l)) (hB : wr.heap.size ≤ B) (hq : ∀ b, Qj b → b < wr.heap.size) : Away w2 v l Qj :=
  ⟨h.low (Nat.zero_le _), fun b e q => by have := (h.in e).1; have := hq b q; omega⟩
theorem FolIn.boxQ (h : FolIn w C ga gs gf k vl e Q t kv beg bl s Qj wr) : ¬ Qj w.heap.size := fun q => (h.q _ q).elim (fun q' => by have := h.ge _ q'; omega) (fun q' => by omega)
theorem FolIn.stays (h : FolIn w C ga gs gf k vl e Q t kv beg bl s Qj wr) (hb : Below wr.heap.size wr w2) : FolIn w C ga gs gf k vl e Q t kv beg bl s Qj w2 :=
  ⟨h.box.stays hb, h.begA.stays hb, h.begB, h.D.stays hb, h.kept.trans (Kept.of_below (fun _ => False) hb) fun b f => f.elim, h.q, h.ge⟩
/-- Behind a call that changes Qj's blocks. -/
theorem FolIn.call (h : FolIn w C ga gs gf k vl e Q t kv beg bl s Qj wr) (hD : NfaD w2 C ga gs gf k vl e s2 Q2) (hk : Kept Qj wr w2) (hq : ∀ b, Q2 b → Qj b ∨ wr.heap.size ≤ b) : FolIn w C ga gs gf k vl e Q t kv beg bl s2 Q2 w2 := by
  have hs := h.box.lt
  refine ⟨(hk.block _ hs h.boxQ).trans h.box, h.begA.off hk hq, h.begB, hD, h.kept.trans hk fun b q => ?_, fun b q => (hq b q).elim (h.q b) fun q' => .inr (by omega), h.ge⟩
  exact (h.q b q).imp id fun q' => by omega
/-- One place more where a kid begins. -/
theorem FolIn.grow (h : FolIn w C ga gs gf k vl e Q t kv beg bl s Qj wr) {o : Obj} {x : Nat} (hi : Ints w2 0 beg2 (ns (bl ++ [x]))) (hg : (wr.alloc o).grownBy w2 beg.ownBlock) (hor : beg2.ownBlock = beg.ownBlock ∨ beg2.ownBlock = some (wr.alloc o).heap.size) :
    FolIn w C ga gs gf k vl e Q t kv beg2 (bl ++ [x]) s Qj w2 := by
  have hs := h.box.lt
  have hg2 : wr.grownBy w2 beg.ownBlock := (World.grownBy_alloc wr _ _).trans hg
  refine ⟨h.box.grown hg2 fun e => by have := h.begB _ e.symm; omega, ⟨hi, fun b e q => ?_⟩, fun b e => ?_, h.D.block hg2.size fun b q => hg2.block b (h.D.ge b q).2 fun e => h.begA.out b e.symm q, h.kept.grown hg2 fun b e => .inr (by have := h.begB b e; omega), h.q, h.ge⟩
  · rcases hor with h' | h'
    · exact h.begA.out b (h'.symm.trans e) q
    · rw [e] at h'
      injection h' with h'
      have := (h.D.ge b q).2
      rw [World.size_alloc] at h'
      omega
  · rcases hor with h' | h'
    · exact h.begB b (h'.symm.trans e)
    · rw [e] at h'
      injection h' with h'
      rw [World.size_alloc] at h'
      omega
end

set_option maxRecDepth 20000 in
set_option maxHeartbeats 4000000 in
theorem follow_one {t : T} {w : World} {kv : Value} {a C ga gs gf k : Nat} {vl : Value} {e : Bool} {s : Lay} {Q : Nat → Prop} (ha : a + plT t ≤ k) (hk : k ≤ 256) (hD : NfaD w C ga gs gf k vl e s Q) (hC : C ≤ w.heap.size) (h1 : t.op = 1) :
    Calls Try.prog 30 #[.pointer (some ⟨ga, 0, none⟩), nodeP t kv, .int .i64 (a : Int)] w (RetFol w C ga gs gf k vl e (folL t a s) Q) := by
  have hpl : 1 ≤ plT t := by cases t; simp only [T.op] at h1; subst h1; simp [plT]
  have hak : a < k := by omega
  have hfl : folL t a s = ⟨s.sets.set a t.set, s.follow⟩ := by cases t; simp only [T.op] at h1; subst h1; simp [folL, T.set]
  rw [hfl]
  have b1 := Box8.new w t kv
  have hB : Below w.heap.size w (w.alloc (.cells #[.int .i64 t.op, .int .u64 (word t.set 0), .int .u64 (word t.set 1), .int .u64 (word t.set 2), .int .u64 (word t.set 3), .int .i64 t.lo, .int .i64 t.hi, kv] 29)) := (Below.refl _ _).alloc (Nat.le_refl _) _
  have hD1 := hD.stays hB
  obtain ⟨c0, c1, c2, c3, c4, c5, c6, c7⟩ := b1.cell
  obtain ⟨d0, d3⟩ := hD1.cell
  obtain ⟨e0, e3⟩ := hD.cell
  have s0 := hD.rows.sets
  rw [hD.ns] at s0
  have z0 : w.frozen? ⟨gs, a * 4, none⟩ = false := World.ownsRow.frozenAt s0 _
  have z1 : w.frozen? ⟨gs, a * 4 + 1, none⟩ = false := World.ownsRow.frozenAt s0 _
  have z2 : w.frozen? ⟨gs, a * 4 + 2, none⟩ = false := World.ownsRow.frozenAt s0 _
  have z3 : w.frozen? ⟨gs, a * 4 + 3, none⟩ = false := World.ownsRow.frozenAt s0 _
  have hc : ∀ q, q < 4 → ∃ v, w.cell? ⟨gs, a * 4 + q, none⟩ = some v := fun q hq => by
    rw [World.ownsRow.cellAt s0 (a * 4 + q) (by omega), setsC_get s.sets a q (by rw [hD.ns]; exact hak) hq]
    exact ⟨_, rfl⟩
  obtain ⟨u0, y0⟩ := hc 0 (by decide)
  obtain ⟨u1, y1⟩ := hc 1 (by decide)
  obtain ⟨u2, y2⟩ := hc 2 (by decide)
  obtain ⟨u3, y3⟩ := hc 3 (by decide)
  rw [Nat.add_zero] at y0
  have hb1 : (t.op == 1) = true := by simp [h1]
  have p0 : (0 : Int) ≤ (a : Int) := by omega
  have p1 : (a : Int) < (k : Int) := by omega
  have hset := hD.setS a hak t.set
  have hga := (hD.ge _ hD.aQ).2
  have hgs := (hD.ge _ hD.sQ).2
  have hsQ := hD.sQ
  have HSET := Lib.hid hset
  have HD := Lib.hid hD
  have HQ := Lib.hid hsQ
  unfold nodeP
  clear hc s0 hset hD1 hD hfl hpl ha h1 b1 hB hsQ
  go_enter Try.func30, Try.ntmps30
  go_wp2
  go_region
  all_goals (try go_wp2)
  all_goals
    refine bodyPost_ret (v := .tuple #[]) (by simp [results, Try.results30]) rfl ⟨rfl, Q, ((HSET.out.alloc _).block (Nat.le_refl _) (fun _ _ => rfl)), ?_, fun b h => .inl h⟩
    exact ((((((Kept.refl Q w).setCell (a := ⟨gs, a * 4, none⟩) (.inl HQ.out) _).setCell (a := ⟨gs, a * 4 + 1, none⟩) (.inl HQ.out) _).setCell (a := ⟨gs, a * 4 + 2, none⟩) (.inl HQ.out) _).setCell (a := ⟨gs, a * 4 + 3, none⟩) (.inl HQ.out) _).alloc _).drew
theorem ints_lit (w : World) (x : Int) : Ints (w.alloc (.cells #[.int .i64 x] 3)) w.heap.size (.slice (some ⟨w.heap.size, 0, none⟩) 1 1) [x] :=
  World.ownsRow_lit (base := w.heap.size) (e := 3) (size := 1) w #[.int .i64 x] 1 (Nat.le_refl _) (by decide) rfl

set_option maxRecDepth 20000 in
set_option maxHeartbeats 4000000 in
theorem follow_n {N : Nat} (ih : FollowF N) {t : T} {w : World} {ok : Nat → Prop} {kv : Value} {a C ga gs gf k : Nat} {vl : Value} {e : Bool} {s : Lay} {Q : Nat → Prop} (hN : SizeOf.sizeOf t ≤ N + 1) (hft : FT t) (ht : Tree w ok t kv) (hokQ : ∀ b, ok b → ¬ Q b)
    (ha : a + plT t ≤ k) (hk : k ≤ 256) (hD : NfaD w C ga gs gf k vl e s Q) (hC : C ≤ w.heap.size) (hlen70 : ∀ q, (s.follow.getD q []).length + plT t * plT t ≤ 70000) (h1 : t.op ≠ 1) :
    Calls Try.prog 30 #[.pointer (some ⟨ga, 0, none⟩), nodeP t kv, .int .i64 (a : Int)] w (RetFol w C ga gs gf k vl e (folL t a s) Q) := by
  obtain ⟨A, n', c, rfl⟩ := ht.form
  obtain ⟨hn, hm⟩ := ht.bound
  have hlen := hft.len
  rw [← hn] at hlen
  unfold maxLen at hm
  have hpl : plTL t.kids = plT t := by cases t; simp only [T.op] at h1; simp [plT, T.kids, h1]
  have hsc := sq_cr t.kids
  rw [hpl] at hsc
  have b1 := Box8.new w t (.slice A n' c)
  have hB : Below w.heap.size w (w.alloc (.cells #[.int .i64 t.op, .int .u64 (word t.set 0), .int .u64 (word t.set 1), .int .u64 (word t.set 2), .int .u64 (word t.set 3), .int .i64 t.lo, .int .i64 t.hi, .slice A n' c] 29)) := (Below.refl _ _).alloc (Nat.le_refl _) _
  obtain ⟨c0, c1, c2, c3, c4, c5, c6, c7⟩ := b1.cell
  have hF0 : FolIn w C ga gs gf k vl e Q t (.slice A n' c) (.slice none 0 0) [] s Q (w.alloc (.cells #[.int .i64 t.op, .int .u64 (word t.set 0), .int .u64 (word t.set 1), .int .u64 (word t.set 2), .int .u64 (word t.set 3), .int .i64 t.lo, .int .i64 t.hi, .slice A n' c] 29)) :=
    ⟨b1, ⟨Ints.nil _ _, fun b e => (by cases e)⟩, fun b e => (by cases e), hD.stays hB, Kept.of_below _ hB, fun b q => .inl q, fun b q => (hD.ge b q).2⟩
  have hb1 : (t.op == 1) = false := by simp [h1]
  unfold nodeP
  have HN := Lib.hid hn
  have HT := Lib.hid ht
  have HFT := Lib.hid hft
  have IH := Lib.hid ih
  have HF0 := Lib.hid hF0
  have HSZ := Lib.hid hN
  have HPL := Lib.hid hpl
  have HSC := Lib.hid hsc
  have HM := Lib.hid hm
  have H1 := Lib.hid h1
  have HOK := Lib.hid hokQ
  have HC := Lib.hid hC
  have HL := Lib.hid hlen70
  clear hn ih hft b1 hB ht hN hpl hm h1 hD hF0 hokQ hC hlen70 hsc
  go_enter Try.func30, Try.ntmps30
  go_wp2
  go_loopg [2, 6, 7] n' (fun m at_ beg i wr => ∃ (j : Nat) (Qj : Nat → Prop), i = .int .i64 (j : Int) ∧ j ≤ n' ∧ m = n' - j ∧ at_ = .int .i64 ((a + plTL (t.kids.take j) : Nat) : Int) ∧ FolIn w C ga gs gf k vl e Q t (.slice A n' c) beg (begL t.kids a j) (kidsL (t.kids.take j) a s) Qj wr)
  case atStart => exact ⟨0, Q, rfl, Nat.zero_le _, rfl, rfl, by simpa [begL, kidsL] using HF0.out⟩
  case round =>
    clear c0 c1 c2 c3 c4 c5 c6 c7
    obtain ⟨j, Qj, rfl, hj, hmj, rfl, hF⟩ := hrel
    have HMJ := Lib.hid hmj
    obtain ⟨Ab, cb, hfb⟩ := hF.begA.ints.form
    rw [ns_len, begL_len] at hfb
    subst hfb
    obtain ⟨c0, c1, c2, c3, c4, c5, c6, c7⟩ := hF.box.cell
    have hg0 : w.heap.size < wr.heap.size := hF.box.lt
    have HF := Lib.hid hF
    clear hmj hF
    by_cases hlt : j < n'
    · have hlt' : j < t.kids.length := by rw [← HN.out]; exact hlt
      obtain ⟨g, B, m1, m2, e1, hg1, htk, hcells⟩ := kid8 HT.out j (List.getElem?_eq_getElem hlt')
      subst e1
      have hokg : ¬ Q g := HOK.out g (tree_okF HT.out)
      have hwk := HFT.out.at j hlt'
      have hks := kid_size t j hlt'
      have hst := plTL_take t.kids j hlt'
      have hsl := plTL_le t.kids (j + 1)
      have hpn := plN_flat hwk
      have hbs := begL_succ t.kids a j
      have hkt := kidsL_take t.kids j hlt' a s
      have hsq := sq_take t.kids j hlt'
      have hsq2 := sq_take_le t.kids (j + 1)
      have hgr := kidsL_gr (t.kids.take j) a s
      generalize t.kids[j] = u at *
      have hpb : a + plTL (t.kids.take j) + plT u ≤ k := by have := HPL.out; omega
      have hpu : plN u = plT u := by omega
      have hl70 : ∀ q, ((kidsL (t.kids.take j) a s).follow.getD q []).length + plT u * plT u ≤ 70000 := fun q => by
        have := HL.out q
        have := hgr q
        have := HSC.out
        omega
      have hforall : ∀ w', Kept Q w w' → w'.cell? ⟨g, j * 8, none⟩ = some (.int .i64 u.op) ∧ w'.cell? ⟨g, j * 8 + 1, none⟩ = some (.int .u64 (word u.set 0)) ∧ w'.cell? ⟨g, j * 8 + 2, none⟩ = some (.int .u64 (word u.set 1)) ∧ w'.cell? ⟨g, j * 8 + 3, none⟩ = some (.int .u64 (word u.set 2)) ∧ w'.cell? ⟨g, j * 8 + 4, none⟩ = some (.int .u64 (word u.set 3)) ∧ w'.cell? ⟨g, j * 8 + 5, none⟩ = some (.int .i64 u.lo) ∧ w'.cell? ⟨g, j * 8 + 6, none⟩ = some (.int .i64 u.hi) ∧ w'.cell? ⟨g, j * 8 + 7, none⟩ = some (.slice B m1 m2) := fun w' hb => by
        have HCk : ∀ q v, (nodeC u (.slice B m1 m2))[q]? = some v → w'.cell? ⟨g, j * 8 + q, none⟩ = some v := fun q v h => by rw [Nat.mul_comm j 8]; exact hb.cell (hcells q v h) hokg
        exact ⟨HCk 0 _ rfl, HCk 1 _ rfl, HCk 2 _ rfl, HCk 3 _ rfl, HCk 4 _ rfl, HCk 5 _ rfl, HCk 6 _ rfl, HCk 7 _ rfl⟩
      have HCA := Lib.hid hforall
      have HTK := Lib.hid htk
      have HWK := Lib.hid hwk
      have HST := Lib.hid hst
      have HBS := Lib.hid hbs
      have HPU := Lib.hid hpu
      have HPB := Lib.hid hpb
      have HKT := Lib.hid hkt
      have HL7 := Lib.hid hl70
      have HKS := Lib.hid hks
      have HKP := Lib.hid (fun (w' : World) (hb : Kept Q w w') => places_ft (w := w') hwk (tree_keptF htk hb HOK.out))
      have hb13 : a + plTL (t.kids.take j) + plT u ≤ k := hpb
      have HK := Lib.hid (fun (w' : World) (beg : Value) (bl : List Nat) (hF' : FolIn w C ga gs gf k vl e Q t (.slice (some ⟨g, 0, none⟩) n' c) beg bl (kidsL (t.kids.take j) a s) Qj w') =>
        IH.out u w' _ (.slice B m1 m2) (a + plTL (t.kids.take j)) C ga gs gf k vl e _ Qj (by have := HSZ.out; omega) hwk (tree_keptF htk hF'.kept HOK.out) (fun b hb q => (hF'.q b q).elim (HOK.out b hb.1) fun q' => by omega) hb13 hk hF'.D (Nat.le_trans HC.out hF'.kept.size) hl70)
      have hpb2 : plTL (t.kids.take j) ≤ 256 := by omega
      clear hforall hcells htk hwk hst hbs hpu hpn hsl hkt hl70 hks hpb hsq hsq2 hgr
      generalize plTL (t.kids.take j) = S at *
      unfold nodeP RetFol at HK
      unfold nodeP RetInt at HKP
      simp only [Int.natCast_add] at HK
      go_wp2_with (first
        | (at_builtin; refine wpList_ints rfl _ _ (by rfl) (by rfl) (by rfl) (HF.out.begA.ints.alloc _) (ints_lit wr ((a + S : Nat) : Int)) (by rw [ns_len, begL_len]; simp; omega) (Nat.zero_le _) ?_; intro v6 w6 i6 g6 o6; have hF6 := HF.out.grow (x := a + S) (by rw [ns_app]; exact i6) g6 o6; have HF6 := Lib.hid hF6; clear i6 g6 o6; obtain ⟨d0, d1, d2, d3, d4, d5, d6, d7⟩ := hF6.box.cell; obtain ⟨k0, k1, k2, k3, k4, k5, k6, k7⟩ := HCA.out w6 hF6.kept; clear hF6)
        | (go_at_call 30; (with_reducible refine (HK.out _ _ _ HF6.out).mono ?_); rintro e7 w7 ⟨rfl, Q7, D7, K7, q7⟩; have hF7 := HF6.out.call D7 K7 q7; have HF7 := Lib.hid hF7; clear D7 K7 q7; obtain ⟨x0, x1, x2, x3, x4, x5, x6, x7⟩ := hF7.box.cell; obtain ⟨y0, y1, y2, y3, y4, y5, y6, y7⟩ := HCA.out w7 hF7.kept; clear hF7)
        | (go_at_call 12; (with_reducible refine (HKP.out _ HF7.out.kept).mono ?_); rintro e8 w8 ⟨rfl, hb8⟩; rw [HPU.out]; have HF8 := Lib.hid (HF7.out.stays hb8); clear hb8)
        | fail)
      go_roundg (n' - (j + 1))
      case measure => have := HMJ.out; omega
      case rel => exact ⟨j + 1, Q7, by go_num, by omega, rfl, by rw [HST.out]; go_num, by rw [HBS.out, HKT.out]; exact HF8.out⟩
    · have hjn : j = n' := by omega
      subst hjn
      have htk : t.kids.take j = t.kids := by rw [HN.out]; exact List.take_length
      rw [htk] at HF
      cases hb2 : (t.op == 2)
      · have hfl : folL t a s = kidsL t.kids a s := by
          have h2 : t.op ≠ 2 := by simpa using hb2
          have h1 := H1.out
          cases t
          simp only [T.op] at h1 h2
          simp [folL, T.kids, h1, h2]
        have HFL := Lib.hid hfl
        have hb2' : (t.op != 2) = true := by simp [bne, hb2]
        have HFF := Lib.hid HF.out
        clear hfl htk hb2
        go_wp2
        refine bodyPost_ret (v := .tuple #[]) (by simp [results, Try.results30]) rfl ⟨rfl, Qj, by rw [HFL.out]; exact HFF.out.D, HFF.out.kept, fun b h => (HFF.out.q b h).imp id fun h => by omega⟩
      · have hfl : folL t a s = ⟨(kidsL t.kids a s).sets, crossF t.kids a (kidsL t.kids a s).follow⟩ := by
          have h2 : t.op = 2 := by simpa using hb2
          cases t
          simp only [T.op] at h2
          subst h2
          simp [folL, T.kids]
        have hb2' : (t.op != 2) = false := by simp [bne, hb2]
        have hgr : ∀ q, (((kidsL t.kids a s).follow).getD q []).length + cr t.kids ≤ 70000 := fun q => by
          have := kidsL_gr t.kids a s q
          have := HL.out q
          have := HSC.out
          omega
        have HGR := Lib.hid hgr
        generalize hTG : crossF t.kids a (kidsL t.kids a s).follow = TG at *
        have HTG := Lib.hid hTG
        generalize kidsL t.kids a s = s1 at *
        have HFL := Lib.hid hfl
        clear hfl htk hb2 hlt hj hgr hTG
        go_wp2
        go_loopg [8] j (fun m i wr => ∃ (q : Nat) (Qi : Nat → Prop) (F : List (List Nat)), i = .int .i64 (q : Int) ∧ q ≤ j ∧ m = j - q ∧ FolIn w C ga gs gf k vl e Q t (.slice A j c) (.slice Ab j cb) (begL t.kids a j) ⟨s1.sets, F⟩ Qi wr ∧
          crossF (t.kids.drop q) (a + plTL (t.kids.take q)) F = TG ∧ ∀ x, (F.getD x []).length + cr (t.kids.drop q) ≤ 70000)
        case atStart => exact ⟨0, Qj, s1.follow, rfl, Nat.zero_le _, rfl, HF.out, by simpa [plTL] using HTG.out, by simpa using HGR.out⟩
        case round =>
          obtain ⟨q, Qi, F, rfl, hq, hmq, hF2, hcr, hbd⟩ := hrel
          have HMQ := Lib.hid hmq
          have HF2 := Lib.hid hF2
          have HCR := Lib.hid hcr
          have HBD := Lib.hid hbd
          obtain ⟨c0, c1, c2, c3, c4, c5, c6, c7⟩ := hF2.box.cell
          have hz0 : w.heap.size < wr.heap.size := hF2.box.lt
          clear hmq hF2 hcr hbd
          by_cases hqj : q < j
          · have hqt : q < t.kids.length := by rw [← HN.out]; exact hqj
            obtain ⟨g, B, m1, m2, e1, hg1, htk, hcells⟩ := kid8 HT.out q (List.getElem?_eq_getElem hqt)
            subst e1
            have hokg : ¬ Q g := HOK.out g (tree_okF HT.out)
            obtain ⟨gb, cb', e2, hgb0, hgb1, hgb2⟩ := HF2.out.begA.ints.at q (by rw [ns_len, begL_len]; exact hqj)
            rw [ns_len, begL_len] at e2
            injection e2 with f1 f2 f3
            subst f1 f3
            clear f2
            have hbv : (ns (begL t.kids a j))[q]'(by rw [ns_len, begL_len]; exact hqj) = ((a + plTL (t.kids.take q) : Nat) : Int) := by simp [ns, begL]
            rw [hbv] at hgb2
            have hwk := HFT.out.at q hqt
            have hst := plTL_take t.kids q hqt
            have hsl := plTL_le t.kids (q + 1)
            have hcd := crossF_drop t.kids q hqt (a + plTL (t.kids.take q)) F
            have hcrd := cr_drop t.kids q hqt
            have hcr := HCR.out
            have hbd := HBD.out
            rw [hcd] at hcr
            simp only [hcrd] at hbd
            generalize t.kids[q] = u at *
            have hpb : a + plTL (t.kids.take q) + plT u ≤ k := by have := HPL.out; omega
            have hforall : ∀ w', Kept Q w w' → w'.cell? ⟨g, q * 8, none⟩ = some (.int .i64 u.op) ∧ w'.cell? ⟨g, q * 8 + 1, none⟩ = some (.int .u64 (word u.set 0)) ∧ w'.cell? ⟨g, q * 8 + 2, none⟩ = some (.int .u64 (word u.set 1)) ∧ w'.cell? ⟨g, q * 8 + 3, none⟩ = some (.int .u64 (word u.set 2)) ∧ w'.cell? ⟨g, q * 8 + 4, none⟩ = some (.int .u64 (word u.set 3)) ∧ w'.cell? ⟨g, q * 8 + 5, none⟩ = some (.int .i64 u.lo) ∧ w'.cell? ⟨g, q * 8 + 6, none⟩ = some (.int .i64 u.hi) ∧ w'.cell? ⟨g, q * 8 + 7, none⟩ = some (.slice B m1 m2) := fun w' hb => by
              have HCk : ∀ p v, (nodeC u (.slice B m1 m2))[p]? = some v → w'.cell? ⟨g, q * 8 + p, none⟩ = some v := fun p v h => by rw [Nat.mul_comm q 8]; exact hb.cell (hcells p v h) hokg
              exact ⟨HCk 0 _ rfl, HCk 1 _ rfl, HCk 2 _ rfl, HCk 3 _ rfl, HCk 4 _ rfl, HCk 5 _ rfl, HCk 6 _ rfl, HCk 7 _ rfl⟩
            obtain ⟨k0, k1, k2, k3, k4, k5, k6, k7⟩ := hforall wr HF2.out.kept
            have HK := Lib.hid (fun (w' : World) (hb : Kept Q w w') => endsF_p (b := true) hwk (tree_keptF htk hb HOK.out) (show a + plTL (t.kids.take q) + plT u ≤ 256 by omega))
            have hll := lst_len u (a + plTL (t.kids.take q))
            have hlin := lst_in u (a + plTL (t.kids.take q))
            unfold nodeP RetEndF lasts at HK
            simp only [Int.natCast_add, if_true] at HK
            have hb3 : a + plTL (t.kids.take (q + 1)) = a + plTL (t.kids.take q) + plT u := by omega
            have hpt : a + plTL (t.kids.take q) ≤ 256 := by omega
            obtain ⟨S, hS⟩ : ∃ S, plTL (t.kids.take q) = S := ⟨_, rfl⟩
            rw [hS] at hpt hb3 hlin hll HK hpb hcr hgb2 hst
            obtain ⟨ps, hps⟩ : ∃ ps, lstT u (a + S) = ps := ⟨_, rfl⟩
            rw [hps] at hlin hll HK hcr
            have HST := Lib.hid hst
            have HB3 := Lib.hid hb3
            have HLL := Lib.hid hll
            have HLIN := Lib.hid hlin
            have HPB := Lib.hid hpb
            have HCR2 := Lib.hid hcr
            have HBD2 := Lib.hid hbd
            clear hforall hcells htk hwk hst hsl hcd hcrd hcr hbd hb3 hll hlin hpb HCR HBD hS hps hbv
            go_upto_region 14 with fail
            go_still_tail 9, (by kernel_rfl)
            change wpList _ _ _ _ _ (World.drew _)
            go_wp2_with (first
              | (go_at_call 32; (refine (HK.out wr.drew HF2.out.kept.drew).mono ?_); rintro e5 w5 ⟨v5, rfl, i5, b5⟩; have hF5 := HF2.out.stays (undrew b5); have HA5 := Lib.hid (Away.ret (Qj := Qi) i5 (Nat.le_refl _) (fun b q => (HF2.out.D.ge b q).2)); have HF5 := Lib.hid hF5; obtain ⟨A5, n5, m5, hf5⟩ := i5.form3; subst hf5; clear hF5 i5 b5)
              | fail)
            focus
              go_loopg [10] (j - (q + 1)) (fun m i wr => ∃ (p : Nat) (Qj : Nat → Prop) (F : List (List Nat)), i = .int .i64 (p : Int) ∧ q + 1 ≤ p ∧ p ≤ j ∧ m = j - p ∧ FolIn w C ga gs gf k vl e Q t (.slice (some ⟨g, 0, none⟩) j c) (.slice (some ⟨gb, 0, none⟩) j cb) (begL t.kids a j) ⟨s1.sets, F⟩ Qj wr ∧ Away wr (.slice A5 n5 m5) ps Qj ∧
                crossF (t.kids.drop (q + 1)) (a + S + plT u) (linkTo (t.kids.drop p) ps (a + plTL (t.kids.take p)) F) = TG ∧ ∀ x, (F.getD x []).length + ps.length * plTL (t.kids.drop p) + cr (t.kids.drop (q + 1)) ≤ 70000)
              case atStart =>
                refine ⟨q + 1, Qi, F, by go_num, Nat.le_refl _, by omega, rfl, HF5.out, HA5.out, by rw [HB3.out]; exact HCR2.out, fun x => ?_⟩
                have h1 := HBD2.out x
                have h2 := Nat.mul_le_mul_right (plTL (t.kids.drop (q + 1))) HLL.out
                omega
              case round =>
                obtain ⟨p, Qj, Fj, rfl, hqp, hp, hmp, hF3, hA3, hcr3, hbd3⟩ := hrel
                have HMP := Lib.hid hmp
                have HF3 := Lib.hid hF3
                have HA3 := Lib.hid hA3
                have HCR3 := Lib.hid hcr3
                have HBD3 := Lib.hid hbd3
                obtain ⟨c0, c1, c2, c3, c4, c5, c6, c7⟩ := hF3.box.cell
                have hz0 : w.heap.size < wr.heap.size := hF3.box.lt
                clear hmp hF3 hA3 hcr3 hbd3
                by_cases hpj : p < j
                · have hpt' : p < t.kids.length := by rw [← HN.out]; exact hpj
                  obtain ⟨g', B', m1', m2', e1, hg1', htk, hcells⟩ := kid8 HT.out p (List.getElem?_eq_getElem hpt')
                  obtain rfl : g = g' := by simpa using e1
                  clear e1
                  obtain ⟨gb', cb'', e2, hgb0, hgb1, hgb2⟩ := HF3.out.begA.ints.at p (by rw [ns_len, begL_len]; exact hpj)
                  obtain rfl : gb = gb' := by simp at e2; exact e2.1
                  clear e2
                  have hbv : (ns (begL t.kids a j))[p]'(by rw [ns_len, begL_len]; exact hpj) = ((a + plTL (t.kids.take p) : Nat) : Int) := by simp [ns, begL]
                  rw [hbv] at hgb2
                  have hwk := HFT.out.at p hpt'
                  have hst := plTL_take t.kids p hpt'
                  have hsl := plTL_le t.kids (p + 1)
                  have hld := linkTo_drop t.kids p hpt' ps (a + plTL (t.kids.take p)) Fj
                  have hpd := plTL_drop t.kids p hpt'
                  have hcr := HCR3.out
                  have hbd := HBD3.out
                  rw [hld] at hcr
                  simp only [hpd] at hbd
                  generalize t.kids[p] = v at *
                  have hpb : a + plTL (t.kids.take p) + plT v ≤ k := by have := HPL.out; omega
                  have hforall : ∀ w', Kept Q w w' → w'.cell? ⟨g, p * 8, none⟩ = some (.int .i64 v.op) ∧ w'.cell? ⟨g, p * 8 + 1, none⟩ = some (.int .u64 (word v.set 0)) ∧ w'.cell? ⟨g, p * 8 + 2, none⟩ = some (.int .u64 (word v.set 1)) ∧ w'.cell? ⟨g, p * 8 + 3, none⟩ = some (.int .u64 (word v.set 2)) ∧ w'.cell? ⟨g, p * 8 + 4, none⟩ = some (.int .u64 (word v.set 3)) ∧ w'.cell? ⟨g, p * 8 + 5, none⟩ = some (.int .i64 v.lo) ∧ w'.cell? ⟨g, p * 8 + 6, none⟩ = some (.int .i64 v.hi) ∧ w'.cell? ⟨g, p * 8 + 7, none⟩ = some (.slice B' m1' m2') := fun w' hb => by
                    have HCk : ∀ x y, (nodeC v (.slice B' m1' m2'))[x]? = some y → w'.cell? ⟨g, p * 8 + x, none⟩ = some y := fun x y h => by rw [Nat.mul_comm p 8]; exact hb.cell (hcells x y h) hokg
                    exact ⟨HCk 0 _ rfl, HCk 1 _ rfl, HCk 2 _ rfl, HCk 3 _ rfl, HCk 4 _ rfl, HCk 5 _ rfl, HCk 6 _ rfl, HCk 7 _ rfl⟩
                  have HCA := Lib.hid hforall
                  obtain ⟨k0, k1, k2, k3, k4, k5, k6, k7⟩ := hforall wr HF3.out.kept
                  have HK2 := Lib.hid (fun (w' : World) (hb : Kept Q w w') => endsF_p (b := false) hwk (tree_keptF htk hb HOK.out) (show a + plTL (t.kids.take p) + plT v ≤ 256 by omega))
                  have HKE := Lib.hid (fun (w' : World) (hb : Kept Q w w') => empty_p (w := w') hwk (tree_keptF htk hb HOK.out))
                  have hfl := fst_len v (a + plTL (t.kids.take p))
                  unfold nodeP RetEndF lasts at HK2
                  unfold nodeP at HKE
                  simp only [Int.natCast_add, Bool.false_eq_true, if_false] at HK2
                  have hb4 : a + plTL (t.kids.take (p + 1)) = a + plTL (t.kids.take p) + plT v := by omega
                  have hpt2 : a + plTL (t.kids.take p) ≤ 256 := by omega
                  obtain ⟨S', hS'⟩ : ∃ S', plTL (t.kids.take p) = S' := ⟨_, rfl⟩
                  rw [hS'] at hpt2 hb4 hfl HK2 hcr hgb2
                  obtain ⟨ys, hys⟩ : ∃ ys, fstT v (a + S') = ys := ⟨_, rfl⟩
                  rw [hys] at hfl HK2 hcr
                  have HB4 := Lib.hid hb4
                  have HFL2 := Lib.hid hfl
                  have HCR4 := Lib.hid hcr
                  have HBD4 := Lib.hid hbd
                  clear hforall hcells htk hwk hst hsl hld hpd hcr hbd hb4 hfl hpb HCR3 HBD3 hS' hys hbv
                  go_upto_region 18 with fail
                  go_still_tail 9, (by kernel_rfl)
                  change wpList _ _ _ _ _ (World.drew _)
                  go_wp2_with (first
                    | (go_at_call 32; (refine (HK2.out wr.drew HF3.out.kept.drew).mono ?_); rintro e6 w6 ⟨v6, rfl, i6, b6⟩; have hF6 := HF3.out.stays (undrew b6); have hA6 := HA3.out.stays (undrew b6); have HY6 := Lib.hid (Away.ret (Qj := Qj) i6 (Nat.le_refl _) (fun b q => (HF3.out.D.ge b q).2)); have HF6 := Lib.hid hF6; have HA6 := Lib.hid hA6; obtain ⟨A6, n6, m6, hf6⟩ := i6.form3; subst hf6; obtain ⟨AL, cL, hAL⟩ := HA6.out.ints.form; rw [ns_len] at hAL; injection hAL with g1 g2 g3; subst g1 g2 g3; clear hF6 i6 b6 hA6)
                    | fail)
                  focus
                    go_loopg [12] ps.length (fun m i wr => ∃ (z : Nat) (Qz : Nat → Prop) (F : List (List Nat)), i = .int .i64 (z : Int) ∧ z ≤ ps.length ∧ m = ps.length - z ∧ FolIn w C ga gs gf k vl e Q t (.slice (some ⟨g, 0, none⟩) j c) (.slice (some ⟨gb, 0, none⟩) j cb) (begL t.kids a j) ⟨s1.sets, F⟩ Qz wr ∧ Away wr (.slice A5 ps.length m5) ps Qz ∧ Away wr (.slice A6 n6 m6) ys Qz ∧
                      linkAll F (ps.drop z) ys = linkAll Fj ps ys ∧ ∀ x, (F.getD x []).length + (ps.length - z) * ys.length + (ps.length * plTL (t.kids.drop (p + 1)) + cr (t.kids.drop (q + 1))) ≤ 70000)
                    case atStart =>
                      refine ⟨0, Qj, Fj, by go_num, Nat.zero_le _, by omega, HF6.out, HA6.out, HY6.out, by simp, fun x => ?_⟩
                      have h1 := HBD4.out x
                      have h2 := Nat.mul_le_mul_left ps.length HFL2.out
                      rw [Nat.mul_add] at h1
                      rw [Nat.sub_zero]
                      omega
                    case round =>
                      obtain ⟨z, Qz, Fz, rfl, hz, hmz, hFz, hAz, hYz, hcz, hbz⟩ := hrel
                      have HMZ := Lib.hid hmz
                      have HFZ := Lib.hid hFz
                      have HAZ := Lib.hid hAz
                      have HYZ := Lib.hid hYz
                      have HCZ := Lib.hid hcz
                      have HBZ := Lib.hid hbz
                      clear hmz hFz hAz hYz hcz hbz
                      by_cases hzL : z < ps.length
                      · obtain ⟨gl, cl', e3, hgl0, hgl1, hgl2⟩ := HAZ.out.ints.at z (by rw [ns_len]; exact hzL)
                        rw [ns_len] at e3
                        injection e3 with f1 f2 f3
                        subst f1 f3
                        clear f2
                        have hxk := (HLIN.out _ (List.getElem_mem hzL)).2
                        have hdz := List.drop_eq_getElem_cons hzL
                        have hce : (ns ps)[z]'(by rw [ns_len]; exact hzL) = ((ps[z]'hzL : Nat) : Int) := by simp [ns]
                        rw [hce] at hgl2
                        have hpb := HPB.out
                        obtain ⟨x, hx⟩ : ∃ x, ps[z]'hzL = x := ⟨_, rfl⟩
                        rw [hx] at hxk hdz hgl2
                        have hxk' : x < k := by omega
                        obtain ⟨vp, cgf, fgf, hlist, hvp, hclose⟩ := HFZ.out.D.open x hxk'
                        have cga := HFZ.out.D.cell.2
                        have hbx := HBZ.out
                        have HZL := Lib.hid hzL
                        have hzb : z < 256 := by have := HLL.out; omega
                        have hLz : ps.length - z = ps.length - (z + 1) + 1 := by omega
                        rw [hLz, Nat.succ_mul] at hbx
                        have hbx2 := hbx x
                        have x0 : (0 : Int) ≤ (x : Int) := by omega
                        have x1 : (x : Int) < (k : Int) := by omega
                        have z0 : (0 : Int) ≤ (z : Int) := by omega
                        obtain ⟨L, hL⟩ : ∃ L, ps.length = L := ⟨_, rfl⟩
                        have z1 : (z : Int) < (ps.length : Int) := by omega
                        have hsum : (ns (Fz.getD x [])).length + (ns ys).length ≤ 100000 := by rw [ns_len, ns_len]; omega
                        have hCw : C ≤ wr.heap.size := Nat.le_trans HC.out HFZ.out.kept.size
                        have HLIST := Lib.hid hlist
                        have HCL := Lib.hid hclose
                        have HVP := Lib.hid hvp
                        have HDZ := Lib.hid hdz
                        have HBX := Lib.hid hbx
                        have hglQ := HAZ.out.out gl rfl
                        have hgal := (HFZ.out.D.ge _ HFZ.out.D.aQ).2
                        have hgfl := (HFZ.out.D.ge _ HFZ.out.D.fQ).2
                        clear hlist hclose hvp hdz hbx hce hxk hx hL
                        obtain ⟨v4, w4, hr, i4, g4, o4⟩ := run_ints (w := wr.drew) (B := C) 33 HLIST.out HYZ.out.ints hsum hCw
                        obtain ⟨A4, n4, c4, hf4⟩ := i4.form3
                        subst hf4
                        obtain ⟨a1, a2, a3⟩ := app_is hr
                        have cga4 : w4.cell? ⟨ga, 3, none⟩ = some (.slice (some ⟨gf, 0, none⟩) k k) := (World.cell?_of_block (g4.block ga hgal (fun e => (HVP.out ga e.symm).2.2.1 rfl))).trans cga
                        have cgf4 : w4.cell? ⟨gf, x, none⟩ = some vp := (World.cell?_of_block (g4.block gf hgfl (fun e => (HVP.out gf e.symm).2.1 rfl))).trans cgf
                        have fgf4 : w4.frozen? ⟨gf, x, none⟩ = false := (World.frozen?_of_block (g4.block gf hgfl (fun e => (HVP.out gf e.symm).2.1 rfl))).trans fgf
                        have cl4 : w4.cell? ⟨gl, z, none⟩ = some (.int .i64 (x : Int)) := (World.cell?_of_block (g4.block gl hgl1 (fun e => hglQ (HVP.out gl e.symm).1))).trans hgl2
                        have I4 := Lib.hid i4
                        have G4 := Lib.hid g4
                        have O4 := Lib.hid o4
                        clear hr i4 g4 o4
                        go_upto_region 22 with fail
                        go_region
                        all_goals
                          go_wp2
                          go_roundg (ps.length - (z + 1))
                          case measure => have := HMZ.out; omega
                          case rel =>
                            have hg : wr.grownBy w4 vp.ownBlock := ⟨G4.out.os, G4.out.tape, G4.out.output, G4.out.size, G4.out.block⟩
                            have hnew := HCL.out ys w4 _ (by rw [ns_app]; exact I4.out) hg O4.out
                            have hk4 := ((Kept.refl Qz wr).grown hg fun b e => .inl (HVP.out b e).1).setCell (a := ⟨gf, x, none⟩) (.inl HFZ.out.D.fQ) (.slice A4 n4 c4)
                            have hq4 : ∀ b, Qz b ∨ (Value.slice A4 n4 c4).ownBlock = some b → Qz b ∨ wr.heap.size ≤ b := by
                              rintro b (e | e)
                              · exact .inl e
                              · rcases O4.out with e2 | e2
                                · exact .inl (HVP.out b (e2.symm.trans e)).1
                                · rw [e] at e2
                                  injection e2 with e2
                                  exact .inr (Nat.le_of_eq e2.symm)
                            have hgr4 := linkAt_gr Fz x ys
                            refine ⟨z + 1, _, linkAt Fz x ys, by go_num, HZL.out, rfl, HFZ.out.call hnew hk4 hq4, HAZ.out.off hk4 hq4, HYZ.out.off hk4 hq4, ?_, fun y => ?_⟩
                            · have h := HCZ.out
                              rw [HDZ.out, linkAll] at h
                              exact h
                            · have h1 := hgr4 y
                              have h2 := HBX.out y
                              omega
                      · have hzz : z = ps.length := by omega
                        subst hzz
                        have hFz : Fz = linkAll Fj ps ys := by have h := HCZ.out; rwa [List.drop_length, linkAll] at h
                        have hbz : ∀ x, (Fz.getD x []).length + (ps.length * plTL (t.kids.drop (p + 1)) + cr (t.kids.drop (q + 1))) ≤ 70000 := fun x => by
                          have := HBZ.out x
                          omega
                        have HFE := Lib.hid hFz
                        have HBE := Lib.hid hbz
                        obtain ⟨c0, c1, c2, c3, c4, c5, c6, c7⟩ := HFZ.out.box.cell
                        have hz0 : w.heap.size < wr.heap.size := HFZ.out.box.lt
                        obtain ⟨k0, k1, k2, k3, k4, k5, k6, k7⟩ := HCA.out wr HFZ.out.kept
                        obtain ⟨ev, hev⟩ : ∃ ev, emptyT v = ev := ⟨_, rfl⟩
                        rw [hev] at HKE HCR4
                        clear hFz hbz hev HCZ HBZ
                        cases ev
                        all_goals
                          go_wp2_with (first
                            | (go_at_call 29; (with_reducible refine (HKE.out _ HFZ.out.kept).mono ?_); rintro e8 w8 ⟨rfl, b8⟩; have HF8 := Lib.hid (HFZ.out.stays b8); have HA8 := Lib.hid (HAZ.out.stays b8); clear b8)
                            | fail)
                        · go_roundg (j - (q + 1))
                          case measure => have := HMQ.out; omega
                          case rel =>
                            refine ⟨q + 1, Qz, Fz, by go_num, by omega, rfl, HF8.out, ?_, fun x => by have := HBE.out x; omega⟩
                            have h := HCR4.out
                            simp only [Bool.false_eq_true, if_false] at h
                            rw [← HFE.out] at h
                            rw [HB3.out]
                            exact h
                        · go_roundg (j - (p + 1))
                          case measure => have := HMP.out; omega
                          case rel =>
                            refine ⟨p + 1, Qz, Fz, by go_num, by omega, by omega, rfl, HF8.out, HA8.out, ?_, fun x => by have := HBE.out x; omega⟩
                            have h := HCR4.out
                            simp only [if_true] at h
                            rw [← HFE.out] at h
                            rw [HB4.out]
                            exact h
                · have hpj' : p = j := by omega
                  subst hpj'
                  have hdn : t.kids.drop p = [] := by rw [HN.out]; exact List.drop_length
                  have hcr := HCR3.out
                  have hbd := HBD3.out
                  rw [hdn] at hcr
                  simp only [linkTo] at hcr
                  have HCR5 := Lib.hid hcr
                  have HBD5 := Lib.hid hbd
                  clear hcr hbd hdn
                  go_wp2
                  go_roundg (p - (q + 1))
                  case measure => have := HMQ.out; omega
                  case rel => exact ⟨q + 1, Qj, Fj, by go_num, by omega, rfl, HF3.out, by rw [HB3.out]; exact HCR5.out, fun x => by have := HBD5.out x; omega⟩
          · have hqj' : q = j := by omega
            subst hqj'
            have hdn : t.kids.drop q = [] := by rw [HN.out]; exact List.drop_length
            have hcr := HCR.out
            rw [hdn] at hcr
            simp only [crossF] at hcr
            have HCR5 := Lib.hid hcr
            clear hcr hdn
            go_wp2
            refine ⟨rfl, .tuple #[], by simp [results, Try.results30], rfl, Qi, ?_, HF2.out.kept, fun b h => (HF2.out.q b h).imp id fun h => by omega⟩
            rw [HFL.out, ← HCR5.out]
            exact HF2.out.D
theorem follow_all : ∀ N, FollowF N := by
  intro N
  induction N with
  | zero => intro t w ok kv a C ga gs gf k vl e s Q h; obtain ⟨op, p, lo, hi, l⟩ := t; simp at h
  | succ N ih =>
    intro t w ok kv a C ga gs gf k vl e s Q hN hft ht hok ha hk hD hC hl
    by_cases h1 : t.op = 1
    · exact follow_one ha hk hD hC h1
    · exact follow_n ih hN hft ht hok ha hk hD hC hl h1
theorem follow_p {t : T} {w : World} {ok : Nat → Prop} {kv : Value} {a C ga gs gf k : Nat} {vl : Value} {e : Bool} {s : Lay} {Q : Nat → Prop} (hft : FT t) (ht : Tree w ok t kv) (hok : ∀ b, ok b → ¬ Q b) (ha : a + plT t ≤ k) (hk : k ≤ 256)
    (hD : NfaD w C ga gs gf k vl e s Q) (hC : C ≤ w.heap.size) (hl : ∀ q, (s.follow.getD q []).length + plT t * plT t ≤ 70000) :
    Calls Try.prog 30 #[.pointer (some ⟨ga, 0, none⟩), nodeP t kv, .int .i64 (a : Int)] w (RetFol w C ga gs gf k vl e (folL t a s) Q) :=
  follow_all _ t w ok kv a C ga gs gf k vl e s Q (Nat.le_refl _) hft ht hok ha hk hD hC hl
end Go.Proofs.Ytfgppmipaahleaa

/-
  The document's own places in memory: one place's list stored anew. Laws for other texts; no statement of its own.
-/
namespace Go.Proofs.Ytfgppmipaahleaa
open Go Go.RowKit

section
variable {w : World} {B C ga gs gf k : Nat} {vl v' : Value} {e : Bool} {s : Lay} {Q : Nat → Prop} {fs : List Value} {ls : List (List Nat)} {l' : List Nat}
theorem FolAt.set (h : FolAt w B fs ls Q) (p : Nat) (hp : p < ls.length) (hv : Ints w B v' (ns l')) (hn : ∀ b, v'.ownBlock = some b → ¬ Q b) : FolAt w B (fs.set p v') (ls.set p l') (fun b => Q b ∨ v'.ownBlock = some b) := by
  have hpf : p < fs.length := by rw [h.len]; exact hp
  have hset : ∀ i, (fs.set p v')[i]? = if i = p then some v' else fs[i]? := fun i => by
    rw [List.getElem?_set]
    by_cases e : p = i
    · subst e; simp [hpf]
    · have e' : ¬ i = p := fun x => e x.symm
      simp [e, e']
  have hls : ∀ i, (ls.set p l')[i]? = if i = p then some l' else ls[i]? := fun i => by
    rw [List.getElem?_set]
    by_cases e : p = i
    · subst e; simp [hp]
    · have e' : ¬ i = p := fun x => e x.symm
      simp [e, e']
  refine ⟨by simp [h.len], fun i v l h1 h2 => ?_, fun i v b h1 h2 => ?_, fun i j v v'' b h1 h2 h3 h4 => ?_⟩
  · rw [hset] at h1
    rw [hls] at h2
    by_cases e : i = p
    · rw [if_pos e] at h1 h2
      injection h1 with h1
      injection h2 with h2
      subst h1 h2
      exact hv
    · rw [if_neg e] at h1 h2
      exact h.get i v l h1 h2
  · rw [hset] at h1
    by_cases e : i = p
    · rw [if_pos e] at h1
      injection h1 with h1
      subst h1
      exact .inr h2
    · rw [if_neg e] at h1
      exact .inl (h.inQ i v b h1 h2)
  · rw [hset] at h1 h2
    by_cases e : i = p
    · by_cases e2 : j = p
      · rw [e, e2]
      · rw [if_pos e] at h1
        rw [if_neg e2] at h2
        injection h1 with h1
        subst h1
        exact absurd (h.inQ j v'' b h2 h4) (hn b h3)
    · rw [if_neg e] at h1
      by_cases e2 : j = p
      · rw [if_pos e2] at h2
        injection h2 with h2
        subst h2
        exact absurd (h.inQ i v b h1 h3) (hn b h4)
      · rw [if_neg e2] at h2
        exact h.apart i j v v'' b h1 h2 h3 h4
theorem NfaD.setF (h : NfaD w C ga gs gf k vl e s Q) (p : Nat) (hp : p < k) (hv : Ints w C v' (Go.Proofs.Ytfgppmipaahleaa.ns l')) (hn : ∀ b, v'.ownBlock = some b → ¬ Q b) :
    NfaD (w.setCell ⟨gf, p, none⟩ v') C ga gs gf k vl e ⟨s.sets, s.follow.set p l'⟩ (fun b => Q b ∨ v'.ownBlock = some b) := by
  obtain ⟨⟨c1, k1⟩, ⟨c2, k2⟩⟩ := h.kinds
  have n1 : ga ≠ gf := kind_apart h.box k2 (by decide)
  have n2 : gs ≠ gf := kind_apart k1 k2 (by decide)
  obtain ⟨fs, h3, h4⟩ := h.rows.fols
  have hput := h4.set p (by rw [h.nf]; exact hp) hv hn
  have hset : ∀ b, b ≠ gf → (w.setCell ⟨gf, p, none⟩ v').heap[b]? = w.heap[b]? := fun b hb => Below.heap_setCell _ _ _ _ hb
  rw [h.nf] at h3
  refine ⟨fun b e => ?_, .inl h.aQ, (hset ga n1).trans h.box, ⟨own_block h.rows.sets fun b e hb => ?_, fun b e => .inl (h.rows.setsQ b e), ⟨fs.set p v', ?_, ?_⟩, fun b e => .inl (h.rows.folsQ b e)⟩, h.ns, by simpa using h.nf⟩
  · rcases e with e | e
    · have := h.ge b e
      exact ⟨this.1, by simp only [World.setCell, Array.size_modify]; omega⟩
    · have := hv.in e
      exact ⟨this.1, by simp only [World.setCell, Array.size_modify]; exact this.2⟩
  · have e3 : gs = b := by simpa [Value.ownBlock] using e
    rw [← e3]
    exact hset _ n2
  · have := (World.ownsRow.stored h3 p v').1
    rw [show (⟨s.sets, s.follow.set p l'⟩ : Lay).follow.length = k from (List.length_set ..).trans h.nf]
    exact this
  · refine ⟨hput.len, fun i v l e1 e2 => (hput.get i v l e1 e2).block fun b e hb => hset b ?_, hput.inQ, hput.apart⟩
    obtain ⟨cur', hc⟩ := (hput.get i v l e1 e2).kind e
    exact kind_apart hc k2 (by decide)
end
end Go.Proofs.Ytfgppmipaahleaa

/-
  The document's own Flat: of what is no repetition. Contracts for other texts; no statement of its own.
-/
namespace Go.Proofs.Ytfgppmipaahleaa
open Go Go.RowKit
attribute [local go_sem ↓] Go.wp_at_zero Go.wp_at_succ

theorem rowF_lt {w : World} {B : Nat} {v : Value} {l : List T} (h : Row w B v l) : ∀ b, v.ownBlock = some b → B ≤ b ∧ b < w.heap.size := by
  obtain ⟨ks, h1, h2, h3⟩ := h
  exact h2.lt
theorem rowF_form {w : World} {B : Nat} {v : Value} {l : List T} (h : Row w B v l) : ∃ A n c, v = .slice A n c := by
  obtain ⟨ks, h1, h2, h3⟩ := h
  rcases h2.2 with ⟨rfl, _⟩ | ⟨g, cap, cur, rfl, _⟩ <;> exact ⟨_, _, _, rfl⟩
theorem rowF_nil (w : World) (B : Nat) : Row w B (.slice none 0 0) [] := ⟨[], rfl, World.ownsRow_nil w B _ 8, fun i t' k' e _ => by simp at e⟩
theorem kidF_cells (w : World) (t : T) (k : Value) : ∀ (j : Nat) u, (nodeC t k)[j]? = some u → (w.alloc (.cells #[.int .i64 t.op, .int .u64 (word t.set 0), .int .u64 (word t.set 1), .int .u64 (word t.set 2), .int .u64 (word t.set 3), .int .i64 t.lo, .int .i64 t.hi, k] 29)).cell? ((⟨w.heap.size, 0, none⟩ : Addr).add j) = some u := by
  intro j u hu
  have hj : j < 8 := by
    have := List.getElem?_eq_some_iff.1 hu
    simpa [nodeC] using this.1
  have hadd : (⟨w.heap.size, 0, none⟩ : Addr).add j = ⟨w.heap.size, j, none⟩ := by unfold Addr.add; split <;> simp_all
  rw [hadd, cell_of_row _ _ j _ 29 (0, 0) (heap_alloc_new w _), ← hu]
  simp [nodeC]
theorem kidF_tree {w wx : World} {B : Nat} {v : Value} {l : List T} {t : T} {k : Value} (hrow : Row wx B v l) (hB : B ≤ wx.heap.size) (ht : Tree w (fun b => wx.heap.size ≤ b) t k) : Tree w (fun b => B ≤ b ∧ some b ≠ v.ownBlock) t k :=
  ht.weak fun b hb _ => ⟨by omega, fun e => by have := rowF_lt hrow b e.symm; omega⟩
/-- What Flat tells. -/
def RetFlat (w : World) (u : T) (e : Ending) (w' : World) : Prop := ∃ k', e = .returned (nodeP u k') ∧ Tree w' (fun b => w.heap.size ≤ b) u k' ∧ Below w.heap.size w w'
def FlatF (N : Nat) : Prop := ∀ (t : T) (w : World) (ok : Nat → Prop) (k : Value), SizeOf.sizeOf t ≤ N → WF t → Tree w ok t k → Calls Try.prog 28 #[nodeP t k] w (RetFlat w (flatT t))

set_option maxRecDepth 20000 in
set_option maxHeartbeats 4000000 in
theorem flat_row {N : Nat} (ih : FlatF N) {t : T} {w : World} {ok : Nat → Prop} {k : Value} (hN : SizeOf.sizeOf t ≤ N + 1) (hwf : WF t) (ht : Tree w ok t k) (h4 : t.op ≠ 4) :
    Calls Try.prog 28 #[nodeP t k] w (RetFlat w (flatT t)) := by
  have hflat : flatT t = .mk t.op t.set 0 0 (t.kids.map flatT) := by
    cases t with
    | mk op p lo hi l =>
      have e : op ≠ 4 := h4
      rw [flatT, if_neg e, flatL_map]
      rfl
  rw [hflat]
  obtain ⟨A, n', c, rfl⟩ := ht.form
  obtain ⟨hn, hm⟩ := ht.bound
  have hlen := hwf.len
  rw [← hn] at hlen
  unfold maxLen at hm
  have b1 := Box8.new w t (.slice A n' c)
  have hB : Below w.heap.size w (w.alloc (.cells #[.int .i64 t.op, .int .u64 (word t.set 0), .int .u64 (word t.set 1), .int .u64 (word t.set 2), .int .u64 (word t.set 3), .int .i64 t.lo, .int .i64 t.hi, .slice A n' c] 29)) := (Below.refl _ _).alloc (Nat.le_refl _) _
  obtain ⟨c0, c1, c2, c3, c4, c5, c6, c7⟩ := b1.cell
  have hb4 : (t.op == 4) = false := by simp [h4]
  unfold nodeP
  have HN := Lib.hid hn
  have HT := Lib.hid ht
  have HWF := Lib.hid hwf
  have IH := Lib.hid ih
  have HB1 := Lib.hid b1
  have HHB := Lib.hid hB
  have HSZ := Lib.hid hN
  have HM := Lib.hid hm
  clear hn ih hwf b1 hB ht hN hm h4 hflat
  go_enter Try.func28, Try.ntmps28
  go_wp2
  have hd : (t.op != 4) = true := by simp [bne, hb4]
  rw [hd]
  clear hd
  go_loopg [3, 4] n' (fun m v i wr => ∃ j : Nat, i = .int .i64 (j : Int) ∧ j ≤ n' ∧ m = n' - j ∧ Row wr (w.heap.size + 2) v ((t.kids.take j).map flatT) ∧ (j = 0 → v = .slice none 0 0) ∧ Box8 wr w.heap.size t (.slice A n' c) ∧ Box8 wr (w.heap.size + 1) T.zero (.slice none 0 0) ∧ Below w.heap.size w wr)
  case atStart => exact ⟨0, rfl, Nat.zero_le _, rfl, rowF_nil _ _, fun _ => rfl, HB1.out.alloc _, by have h := Box8.new0 (w.alloc (.cells #[.int .i64 t.op, .int .u64 (word t.set 0), .int .u64 (word t.set 1), .int .u64 (word t.set 2), .int .u64 (word t.set 3), .int .i64 t.lo, .int .i64 t.hi, .slice A n' c] 29)); rw [World.size_alloc] at h; exact h, HHB.out.alloc HHB.out.size _⟩
  case round =>
    clear c0 c1 c2 c3 c4 c5 c6 c7
    obtain ⟨j, rfl, hj, hmj, hrow, h0, x1, z1, hW⟩ := hrel
    have HMJ := Lib.hid hmj
    obtain ⟨c0, c1, c2, c3, c4, c5, c6, c7⟩ := x1.cell
    clear hmj
    have hg0 : w.heap.size + 1 < wr.heap.size := z1.lt
    have HZ := Lib.hid z1
    clear z1
    have HX := Lib.hid x1
    have HROW := Lib.hid hrow
    have HW := Lib.hid hW
    have H0 := Lib.hid h0
    clear hrow x1 hW h0
    by_cases hlt : j < n'
    · have hlt' : j < t.kids.length := by rw [← HN.out]; exact hlt
      obtain ⟨g, B, m1, m2, e1, hg1, htk, hcells⟩ := kid8 HT.out j (List.getElem?_eq_getElem hlt')
      subst e1
      have hwk := HWF.out.kid (List.getElem_mem hlt')
      have hks := kid_size t j hlt'
      have htake : (t.kids.take (j + 1)).map flatT = (t.kids.take j).map flatT ++ [flatT (t.kids[j]'hlt')] := by
        rw [List.take_succ_eq_append_getElem hlt', List.map_append]
        rfl
      generalize t.kids[j] = u at *
      have HC : ∀ q v, (nodeC u (.slice B m1 m2))[q]? = some v → wr.cell? ⟨g, j * 8 + q, none⟩ = some v := fun q v h => by rw [Nat.mul_comm j 8]; exact (HW.out.cell (p := ⟨g, 8 * j + q, none⟩) hg1).trans (hcells q v h)
      have k0 : wr.cell? ⟨g, j * 8, none⟩ = _ := HC 0 _ rfl
      have k1 := HC 1 _ rfl
      have k2 := HC 2 _ rfl
      have k3 := HC 3 _ rfl
      have k4 := HC 4 _ rfl
      have k5 := HC 5 _ rfl
      have k6 := HC 6 _ rfl
      have k7 := HC 7 _ rfl
      have hk0 := (fun w' (hb : Below wr.heap.size wr w') => IH.out u w' ok (.slice B m1 m2) (by have := HSZ.out; omega) hwk ((htk.stays HW.out).stays hb))
      have hll : ((t.kids.take j).map flatT).length ≤ 100000 := by simp; omega
      generalize flatT u = fu at *
      generalize (t.kids.take j).map flatT = ll at *
      have HK := Lib.hid hk0
      have HTAKE := Lib.hid htake
      clear HC hcells htk hks hwk hk0 htake
      unfold RetFlat nodeP at HK
      go_wp2_with (first
        | (go_at_call 28; (with_reducible refine (HK.out _ (Below.refl _ _)).mono ?_); rintro e w4 ⟨k4, rfl, ht4, hb4⟩; obtain ⟨A4, n4, c4', rfl⟩ := ht4.form; have row4 := HROW.out.stays hb4; have ht5 := kidF_tree (B := w.heap.size + 2) HROW.out (by omega) ht4; have hs4 := hb4.size)
        | (at_builtin; refine wpList_push (by rfl) _ _ (by rfl) (by rfl) (row4.alloc _) (by simp; omega) hll fu (.slice A4 n4 c4') (ht5.alloc _) ⟨w4.heap.size, 0, none⟩ 1 (by rfl) (kidF_cells w4 fu (.slice A4 n4 c4')) ?_; intro v6 w6 row6 o6 hB6)
        | fail)
      have hrow4 := rowF_lt row4
      have hg6 : w4.grownBy w6 _ := (World.grownBy_alloc w4 _ _).trans o6
      have hW6 := (gro HW.out hb4).grown hg6 (Nat.le_trans HW.out.size hs4) (fun q e => by have := (hrow4 q e).1; omega)
      have hx6 := (HX.out.stays hb4).grown hg6 (fun e => by have := (hrow4 _ e.symm).1; omega)
      have hz6 := (HZ.out.stays hb4).grown hg6 (fun e => by have := (hrow4 _ e.symm).1; omega)
      go_roundg (n' - (j + 1))
      case measure => have := HMJ.out; omega
      case rel => exact ⟨j + 1, by go_num, by omega, rfl, by rw [HTAKE.out]; exact row6, fun h => by omega, hx6, hz6, hW6⟩
    · have hjn : j = t.kids.length := by rw [← HN.out]; omega
      have hr := HROW.out
      rw [hjn, List.take_length] at hr
      have HR := Lib.hid hr
      obtain ⟨z0, z1, z2, z3, z4, z5, z6, z7⟩ := HZ.out.cell
      obtain ⟨f0, f1, f2, f3, f4, f5, f6, f7⟩ := HZ.out.frozen
      have HKN := Lib.hid hjn
      obtain ⟨Ar, nr, cr, hf⟩ := rowF_form HROW.out
      subst hf
      clear hr hjn
      go_wp2
      have hz8 := HZ.out.put (t' := T.zero) (k' := .slice none 0 0) (.mk t.op t.set 0 0 (t.kids.map flatT)) (.slice Ar nr cr)
      have htree : Tree (put8 wr (w.heap.size + 1) (.mk t.op t.set 0 0 (t.kids.map flatT)) (.slice Ar nr cr)) (fun b => w.heap.size ≤ b) (.mk t.op t.set 0 0 (t.kids.map flatT)) (.slice Ar nr cr) := by
        by_cases h0 : t.kids.length = 0
        · rw [H0.out (by rw [HKN.out]; exact h0)]
          exact .nil _ (by rw [List.eq_nil_of_length_eq_zero h0]; rfl)
        · have htr := HR.out.tree (by simpa using Nat.pos_of_ne_zero h0) t.op t.set 0 0
          exact (htr.put8 (fun b hb => by omega)).weak fun b hb _ => by omega
      have hbel := below_put8 HW.out (g := w.heap.size + 1) (by omega) (.mk t.op t.set 0 0 (t.kids.map flatT)) (.slice Ar nr cr)
      obtain ⟨y0, y1, y2, y3, y4, y5, y6, y7⟩ := hz8.cell
      refine bodyPost_ret (v := nodeP (T.mk t.op t.set 0 0 (t.kids.map flatT)) (.slice Ar nr cr)) ?_ rfl ⟨_, rfl, htree, hbel⟩
      unfold put8 at y0 y1 y2 y3 y4 y5 y6 y7
      simp only [T.op, T.set, T.lo, T.hi] at y0 y1 y2 y3 y4 y5 y6 y7
      simp [nodeP, T.op, T.set, T.lo, T.hi, results, Try.results28, go_sem, y0, y1, y2, y3, y4, y5, y6, y7]
/-- A row of two, laid at once, is a node's kids. -/
theorem pairF (w : World) (B : Nat) (t u : T) (k k' : Value) (hB : B ≤ w.heap.size) (ht : Tree w (fun b => B ≤ b) t k) (hu : Tree w (fun b => B ≤ b) u k') (op : Int) (p : Nat → Bool) (lo hi : Int) :
    Tree (w.alloc (.cells (nodeC t k ++ nodeC u k').toArray 29)) (fun b => B ≤ b) (.mk op p lo hi [t, u]) (.slice (some ⟨w.heap.size, 0, none⟩) 2 2) := by
  refine .row (.mk op p lo hi [t, u]) w.heap.size 2 (nodeC t k ++ nodeC u k').toArray [k, k'] (heap_alloc_new w _) hB rfl (by simp) (Nat.le_refl _) (by decide) rfl ?_ fun i t' k'' e1 e2 => ?_
  · simp [T.kids, cellsOf, nodeC]
  · match i, e1, e2 with
    | 0, e1, e2 =>
      simp [T.kids] at e1 e2
      subst e1 e2
      exact ht.alloc _
    | 1, e1, e2 =>
      simp [T.kids] at e1 e2
      subst e1 e2
      exact hu.alloc _
theorem oneF (w : World) (B : Nat) (t : T) (k : Value) (hB : B ≤ w.heap.size) (ht : Tree w (fun b => B ≤ b) t k) (op : Int) (p : Nat → Bool) (lo hi : Int) :
    Tree (w.alloc (.cells (nodeC t k).toArray 29)) (fun b => B ≤ b) (.mk op p lo hi [t]) (.slice (some ⟨w.heap.size, 0, none⟩) 1 1) := by
  refine .row (.mk op p lo hi [t]) w.heap.size 1 (nodeC t k).toArray [k] (heap_alloc_new w _) hB rfl (by simp) (Nat.le_refl _) (by decide) rfl ?_ fun i t' k'' e1 e2 => ?_
  · simp [T.kids, cellsOf, nodeC]
  · match i, e1, e2 with
    | 0, e1, e2 =>
      simp [T.kids] at e1 e2
      subst e1 e2
      exact ht.alloc _
end Go.Proofs.Ytfgppmipaahleaa

/-
  The document's own Flat: of a repetition, and of any pattern. Contracts for other texts; no statement of its own.
-/
namespace Go.Proofs.Ytfgppmipaahleaa
open Go Go.RowKit
attribute [local go_sem ↓] Go.wp_at_zero Go.wp_at_succ

theorem pairG (w : World) (ok : Nat → Prop) (t u : T) (k k' : Value) (hB : ok w.heap.size) (ht : Tree w ok t k) (hu : Tree w ok u k') (op : Int) (p : Nat → Bool) (lo hi : Int) :
    Tree (w.alloc (.cells (nodeC t k ++ nodeC u k').toArray 29)) ok (.mk op p lo hi [t, u]) (.slice (some ⟨w.heap.size, 0, none⟩) 2 2) := by
  refine .row (.mk op p lo hi [t, u]) w.heap.size 2 (nodeC t k ++ nodeC u k').toArray [k, k'] (heap_alloc_new w _) hB rfl (by simp) (Nat.le_refl _) (by decide) rfl ?_ fun i t' k'' e1 e2 => ?_
  · simp [T.kids, cellsOf, nodeC]
  · match i, e1, e2 with
    | 0, e1, e2 =>
      simp [T.kids] at e1 e2
      subst e1 e2
      exact ht.alloc _
    | 1, e1, e2 =>
      simp [T.kids] at e1 e2
      subst e1 e2
      exact hu.alloc _
theorem oneG (w : World) (ok : Nat → Prop) (t : T) (k : Value) (hB : ok w.heap.size) (ht : Tree w ok t k) (op : Int) (p : Nat → Bool) (lo hi : Int) :
    Tree (w.alloc (.cells (nodeC t k).toArray 29)) ok (.mk op p lo hi [t]) (.slice (some ⟨w.heap.size, 0, none⟩) 1 1) := by
  refine .row (.mk op p lo hi [t]) w.heap.size 1 (nodeC t k).toArray [k] (heap_alloc_new w _) hB rfl (by simp) (Nat.le_refl _) (by decide) rfl ?_ fun i t' k'' e1 e2 => ?_
  · simp [T.kids, cellsOf, nodeC]
  · match i, e1, e2 with
    | 0, e1, e2 =>
      simp [T.kids] at e1 e2
      subst e1 e2
      exact ht.alloc _

/-- A row of kids that grows, its kids' blocks being ok. -/
def RowK (w : World) (ok : Nat → Prop) (B : Nat) (v : Value) (l : List T) : Prop :=
  ∃ ks, ks.length = l.length ∧ w.ownsRow B 29 8 v l.length (cellsOf l ks) ∧ ∀ (i : Nat) t' k', l[i]? = some t' → ks[i]? = some k' → Tree w (fun b => ok b ∧ some b ≠ v.ownBlock) t' k'
section
variable {w w' : World} {ok : Nat → Prop} {B : Nat} {v : Value} {l : List T}
theorem RowK.nil (w : World) (ok : Nat → Prop) (B : Nat) : RowK w ok B (.slice none 0 0) [] := ⟨[], rfl, World.ownsRow_nil w B _ 8, fun i t' k' e _ => by simp at e⟩
theorem RowK.stays (h : RowK w ok B v l) (hb : Below w.heap.size w w') : RowK w' ok B v l := by
  obtain ⟨ks, h1, h2, h3⟩ := h
  exact ⟨ks, h1, own_stays h2 hb, fun i t' k' e1 e2 => (h3 i t' k' e1 e2).stays hb⟩
theorem RowK.alloc (h : RowK w ok B v l) (o : Obj) : RowK (w.alloc o) ok B v l := h.stays ((Below.refl _ _).alloc (Nat.le_refl _) _)
theorem RowK.lt (h : RowK w ok B v l) : ∀ b, v.ownBlock = some b → B ≤ b ∧ b < w.heap.size := by
  obtain ⟨ks, h1, h2, h3⟩ := h
  exact h2.lt
theorem RowK.form (h : RowK w ok B v l) : ∃ A n c, v = .slice A n c := by
  obtain ⟨ks, h1, h2, h3⟩ := h
  rcases h2.2 with ⟨rfl, _⟩ | ⟨g, cap, cur, rfl, _⟩ <;> exact ⟨_, _, _, rfl⟩
theorem RowK.tree (h : RowK w ok B v l) (hok : ∀ b, B ≤ b → ok b) (h0 : 0 < l.length) (op : Int) (p : Nat → Bool) (lo hi : Int) : Tree w ok (.mk op p lo hi l) v := by
  obtain ⟨ks, h1, h2, h3⟩ := h
  rcases h2.2 with ⟨rfl, h⟩ | ⟨g, cap, cur, rfl, hB, hh, hc, hm, hs, ht⟩
  · omega
  · exact .row (.mk op p lo hi l) g cap cur ks hh (hok _ hB) h1 (by omega) hc hm hs ht fun i t' k' e1 e2 => (h3 i t' k' e1 e2).weak fun b hb _ => hb.1
theorem rowK_push (h : RowK w ok B v l) (hB : B ≤ w.heap.size) (hl : l.length ≤ 100000) (t : T) (k : Value) (ht : Tree w (fun b => ok b ∧ some b ≠ v.ownBlock) t k)
    (ty : TypeId) (ad : Addr) (c : Nat) (hc : ∀ (j : Nat) u, (nodeC t k)[j]? = some u → w.cell? (ad.add j) = some u) :
    ∃ v' w', (Builtin.append_ #[27, 27] ty #[v, .slice (some ad) 1 c]).run Try.prog w = .ok v' w' ∧ RowK w' ok B v' (l ++ [t]) ∧ w.grownBy w' v.ownBlock ∧ B ≤ w'.heap.size := by
  obtain ⟨ks, h1, h2, h3⟩ := h
  obtain ⟨i0, hi, hz0, hz1, hz2⟩ := info_parts Try.infoNode
  obtain ⟨v', w', hr, h4, h5, _, h6⟩ := run_append_own_at (P := Try.prog) w B 27 ty 29 i0 _ 8 80 Try.underlying27 hi hz0 hz1 hz2 rfl (by decide) v l.length (cellsOf l ks) h2 ad 1 c (nodeC t k) rfl hc
    (by
      intro u hu
      simp [nodeC] at hu
      rcases hu with rfl | rfl | rfl | rfl | rfl | rfl | rfl | rfl
      all_goals first | rfl | exact ht.one) (by unfold maxLen; omega) (by omega) hB
  refine ⟨v', w', hr, ⟨ks ++ [k], by simp [h1], ?_, fun i t' k' e1 e2 => ?_⟩, h5, Nat.le_trans hB h5.size⟩
  · rw [cellsOf_app l ks t k h1]
    simpa using h4
  · have hkeep : ∀ t' k', Tree w (fun b => ok b ∧ some b ≠ v.ownBlock) t' k' → Tree w' (fun b => ok b ∧ some b ≠ v'.ownBlock) t' k' := by
      intro t' k' h
      refine h.mono fun b hb hlt _ => ⟨h5.block b hlt hb.2, hb.1, ?_⟩
      rcases h6 with h6 | h6
      · rw [h6]; exact hb.2
      · rw [h6]; simp; omega
    by_cases hi : i < l.length
    · rw [List.getElem?_append_left hi] at e1
      rw [List.getElem?_append_left (by omega)] at e2
      exact hkeep _ _ (h3 i t' k' e1 e2)
    · rw [List.getElem?_append_right (by omega)] at e1
      rw [List.getElem?_append_right (by omega)] at e2
      have hi' : i = l.length := by
        have := List.getElem?_eq_some_iff.1 e1
        simp at this
        omega
      subst hi'
      simp [h1] at e1 e2
      subst e1 e2
      exact hkeep _ _ ht
theorem wpList_pushK {ops : Array Oper} {rest : List Oper} {o : Oper} {a : Act} {Q : Exit → Act → World → Prop} (hgd : o.guard = none) (s x : Operand)
    (ho : o.op = .call { callee := .builtin .append, args := #[s, x], argTypes := #[27, 27] })
    (hs : a.eval s = v) (h : RowK w ok B v l) (hB : B ≤ w.heap.size) (hl : l.length ≤ 100000) (t : T) (k : Value) (ht : Tree w (fun b => ok b ∧ some b ≠ v.ownBlock) t k)
    (ad : Addr) (c : Nat) (hx : a.eval x = .slice (some ad) 1 c) (hc : ∀ (j : Nat) u, (nodeC t k)[j]? = some u → w.cell? (ad.add j) = some u)
    (hk : ∀ v' w', RowK w' ok B v' (l ++ [t]) → w.grownBy w' v.ownBlock → B ≤ w'.heap.size → wpList Try.prog ops Q rest (a.put o.dst v') w') : wpList Try.prog ops Q (o :: rest) a w := by
  obtain ⟨v', w', hr, h2, h3, h4⟩ := rowK_push h hB hl t k ht o.type ad c hc
  refine wpList_plain hgd fun _ hK => ?_
  unfold Oper.wp execOp
  simp only [ho, resolve, invoke, builtin, Sem.run_bind, Sem.run_pure, Result.andThen_ok, List.map_toArray, List.map_cons, List.map_nil, hs, hx, hr]
  exact hK _ _ (hk v' w' h2 h3 h4)
end
/-- What a round finds: n's box, the result's, k's, rest's. -/
structure RepIn (w : World) (g4 : Nat) (t fu r : T) (ka kf kr : Value) (wr : World) : Prop where
  n : Box8 wr w.heap.size t ka
  res : Box8 wr (w.heap.size + 1) T.zero (.slice none 0 0)
  k : Box8 wr g4 fu kf
  rest : Box8 wr (g4 + 1) r kr
  kt : Tree wr (fun b => w.heap.size + 2 ≤ b ∧ b < g4) fu kf
  rt : Tree wr (fun b => w.heap.size + 2 ≤ b ∧ b ≠ g4 ∧ b ≠ g4 + 1) r kr
  g : w.heap.size + 2 ≤ g4
  out : Below w.heap.size w wr
theorem sizeF (w : World) (g : Nat) (t : T) (k : Value) : (put8 w g t k).heap.size = w.heap.size := by simp [put8, World.setCell]
/-- One copy more that may be left out. -/
theorem RepIn.more {w wr : World} {g4 : Nat} {t fu r : T} {ka kf kr : Value} (h : RepIn w g4 t fu r ka kf kr wr) :
    RepIn w g4 t fu (.mk 5 noneP 0 0 [.mk 2 noneP 0 0 [fu, r]]) ka kf (.slice (some ⟨wr.heap.size + 1, 0, none⟩) 1 1)
      (((put8 wr (g4 + 1) (.mk 5 noneP 0 0 [.mk 2 noneP 0 0 [fu, r]]) (.slice (some ⟨wr.heap.size + 1, 0, none⟩) 1 1)).alloc (.cells (nodeC fu kf ++ nodeC r kr).toArray 29)).alloc
        (.cells (nodeC (.mk 2 noneP 0 0 [fu, r]) (.slice (some ⟨wr.heap.size, 0, none⟩) 2 2)).toArray 29)) := by
  have hg := h.g
  have hl := h.rest.lt
  have hk : Tree wr (fun b => w.heap.size + 2 ≤ b ∧ b ≠ g4 ∧ b ≠ g4 + 1) fu kf := h.kt.weak fun b hb _ => by omega
  obtain ⟨W, hW⟩ : ∃ W, put8 wr (g4 + 1) (.mk 5 noneP 0 0 [.mk 2 noneP 0 0 [fu, r]]) (.slice (some ⟨wr.heap.size + 1, 0, none⟩) 1 1) = W := ⟨_, rfl⟩
  have hs : W.heap.size = wr.heap.size := by rw [← hW]; exact sizeF _ _ _ _
  have n1 : Box8 W w.heap.size t ka := by rw [← hW]; exact h.n.putFar (by omega)
  have n2 : Box8 W (w.heap.size + 1) T.zero (.slice none 0 0) := by rw [← hW]; exact h.res.putFar (by omega)
  have n3 : Box8 W g4 fu kf := by rw [← hW]; exact h.k.putFar (by omega)
  have n4 : Box8 W (g4 + 1) (.mk 5 noneP 0 0 [.mk 2 noneP 0 0 [fu, r]]) (.slice (some ⟨wr.heap.size + 1, 0, none⟩) 1 1) := by rw [← hW]; exact h.rest.put (t' := T.zero) (k' := .slice none 0 0) _ _
  have n5 : Tree W (fun b => w.heap.size + 2 ≤ b ∧ b < g4) fu kf := by rw [← hW]; exact h.kt.put8 (fun b hb => by omega)
  have n6 : Tree W (fun b => w.heap.size + 2 ≤ b ∧ b ≠ g4 ∧ b ≠ g4 + 1) fu kf := by rw [← hW]; exact hk.put8 (fun b hb => by omega)
  have n7 : Tree W (fun b => w.heap.size + 2 ≤ b ∧ b ≠ g4 ∧ b ≠ g4 + 1) r kr := by rw [← hW]; exact h.rt.put8 (fun b hb => by omega)
  have n8 : Below w.heap.size w W := by rw [← hW]; exact below_put8 h.out (by omega) _ _
  rw [hW]
  have h1 := pairG W _ fu r kf kr (show _ by omega) n6 n7 2 noneP 0 0
  have h2 := oneG _ _ (.mk 2 noneP 0 0 [fu, r]) _ (show _ by simp only [World.size_alloc]; omega) h1 5 noneP 0 0
  rw [World.size_alloc, hs] at h2
  exact ⟨(n1.alloc _).alloc _, (n2.alloc _).alloc _, (n3.alloc _).alloc _, (n4.alloc _).alloc _, (n5.alloc _).alloc _, h2, hg,
    (n8.alloc n8.size _).alloc (by simp; exact Nat.le_succ_of_le n8.size) _⟩

/-- What a round of the second loop finds, besides: the row so far; its own block lies at G or behind. -/
structure RepJn (w : World) (G g4 : Nat) (t fu r : T) (ka kf kr v : Value) (l : List T) (wr : World) : Prop where
  n : Box8 wr w.heap.size t ka
  res : Box8 wr (w.heap.size + 1) T.zero (.slice none 0 0)
  k : Box8 wr g4 fu kf
  rest : Box8 wr (g4 + 1) r kr
  kt : Tree wr (fun b => w.heap.size + 2 ≤ b ∧ b < G) fu kf
  rt : Tree wr (fun b => w.heap.size + 2 ≤ b ∧ b < G) r kr
  g : w.heap.size + 2 ≤ g4 ∧ g4 + 2 ≤ G
  row : RowK wr (fun b => w.heap.size + 2 ≤ b) G v l
  gw : G ≤ wr.heap.size
  out : Below w.heap.size w wr
theorem RepIn.jn {w wr : World} {g4 : Nat} {t fu r : T} {ka kf kr : Value} (h : RepIn w g4 t fu r ka kf kr wr) : RepJn w wr.heap.size g4 t fu r ka kf kr (.slice none 0 0) [] wr := by
  have hg := h.g
  have hl := h.rest.lt
  exact ⟨h.n, h.res, h.k, h.rest, h.kt.weak fun b hb _ => by omega, h.rt.weak fun b hb hb2 => by omega, ⟨hg, by omega⟩, .nil _ _ _, Nat.le_refl _, h.out⟩
theorem RepJn.push {w wr w6 : World} {G g4 : Nat} {t fu r : T} {ka kf kr v v6 : Value} {l l6 : List T} {o : Obj} (h : RepJn w G g4 t fu r ka kf kr v l wr)
    (hrow : RowK w6 (fun b => w.heap.size + 2 ≤ b) G v6 l6) (h6 : (wr.alloc o).grownBy w6 v.ownBlock) : RepJn w G g4 t fu r ka kf kr v6 l6 w6 := by
  have hg := h.g
  have hgw := h.gw
  have hl := h.row.lt
  have ho : ∀ b, v.ownBlock = some b → G ≤ b := fun b e => (hl b e).1
  have hne : ∀ b, b < G → some b ≠ v.ownBlock := fun b hb e => by have := ho b e.symm; omega
  refine ⟨(h.n.alloc o).grown h6 (hne _ (by omega)), (h.res.alloc o).grown h6 (hne _ (by omega)), (h.k.alloc o).grown h6 (hne _ (by omega)), (h.rest.alloc o).grown h6 (hne _ (by omega)),
    (h.kt.alloc o).grown h6 (fun b hb => hne b hb.2), (h.rt.alloc o).grown h6 (fun b hb => hne b hb.2), hg, hrow, ?_, ?_⟩
  · have := h6.size
    rw [World.size_alloc] at this
    omega
  · exact (h.out.alloc h.out.size o).grown h6 (by rw [World.size_alloc]; exact Nat.le_succ_of_le h.out.size) (fun q e => by have := ho q e; omega)

set_option maxRecDepth 20000 in
set_option maxHeartbeats 4000000 in
theorem flat_rep {N : Nat} (ih : FlatF N) {t u : T} {w : World} {ok : Nat → Prop} {k : Value} (hN : SizeOf.sizeOf t ≤ N + 1) (hwk : WF u) (ht : Tree w ok t k) (h4 : t.op = 4) (hku : t.kids = [u]) (hlo : 0 ≤ t.lo) (hlh : t.lo ≤ t.hi) (hhi : t.hi ≤ 32) :
    Calls Try.prog 28 #[nodeP t k] w (RetFlat w (.mk 2 noneP 0 0 (List.replicate t.lo.toNat (flatT u) ++ [restT (flatT u) (t.hi - t.lo).toNat]))) := by
  obtain ⟨A, n', c, rfl⟩ := ht.form
  have b1 := Box8.new w t (.slice A n' c)
  have hB : Below w.heap.size w (w.alloc (.cells #[.int .i64 t.op, .int .u64 (word t.set 0), .int .u64 (word t.set 1), .int .u64 (word t.set 2), .int .u64 (word t.set 3), .int .i64 t.lo, .int .i64 t.hi, .slice A n' c] 29)) := (Below.refl _ _).alloc (Nat.le_refl _) _
  have b2 := Box8.new0 (w.alloc (.cells #[.int .i64 t.op, .int .u64 (word t.set 0), .int .u64 (word t.set 1), .int .u64 (word t.set 2), .int .u64 (word t.set 3), .int .i64 t.lo, .int .i64 t.hi, .slice A n' c] 29))
  have b3 := b1.alloc (.cells #[.int .i64 0, .int .u64 0, .int .u64 0, .int .u64 0, .int .u64 0, .int .i64 0, .int .i64 0, .slice none 0 0] 29)
  have hB2 := hB.alloc hB.size (.cells #[.int .i64 0, .int .u64 0, .int .u64 0, .int .u64 0, .int .u64 0, .int .i64 0, .int .i64 0, .slice none 0 0] 29)
  obtain ⟨hn, hm⟩ := ht.bound
  have hn1 : n' = 1 := by rw [hn, hku]; rfl
  obtain ⟨g, B, m1, m2, e1, hg1, htk, hcells⟩ := kid8 ht 0 (u := u) (by rw [hku]; rfl)
  subst e1 hn1
  have hks : SizeOf.sizeOf u < SizeOf.sizeOf t := by have h := kid_size t 0 (by rw [hku]; simp); simpa [hku] using h
  obtain ⟨c0, c1, c2, c3, c4, c5, c6, c7⟩ := b3.cell
  have hb4 : (t.op == 4) = true := by simp [h4]
  have hd4 : (t.op != 4) = false := by simp [h4]
  have HC : ∀ q v, (nodeC u (.slice B m1 m2))[q]? = some v → ((w.alloc (.cells #[.int .i64 t.op, .int .u64 (word t.set 0), .int .u64 (word t.set 1), .int .u64 (word t.set 2), .int .u64 (word t.set 3), .int .i64 t.lo, .int .i64 t.hi, .slice (some ⟨g, 0, none⟩) 1 c] 29)).alloc (.cells #[.int .i64 0, .int .u64 0, .int .u64 0, .int .u64 0, .int .u64 0, .int .i64 0, .int .i64 0, .slice none 0 0] 29)).cell? ⟨g, q, none⟩ = some v := fun q v h => by
    have := (hB2.cell (p := ⟨g, 8 * 0 + q, none⟩) hg1).trans (hcells q v h)
    simpa using this
  have k0 : ((w.alloc (.cells #[.int .i64 t.op, .int .u64 (word t.set 0), .int .u64 (word t.set 1), .int .u64 (word t.set 2), .int .u64 (word t.set 3), .int .i64 t.lo, .int .i64 t.hi, .slice (some ⟨g, 0, none⟩) 1 c] 29)).alloc (.cells #[.int .i64 0, .int .u64 0, .int .u64 0, .int .u64 0, .int .u64 0, .int .i64 0, .int .i64 0, .slice none 0 0] 29)).cell? ⟨g, 0, none⟩ = _ := HC 0 _ rfl
  have k1 := HC 1 _ rfl
  have k2 := HC 2 _ rfl
  have k3 := HC 3 _ rfl
  have k4 := HC 4 _ rfl
  have k5 := HC 5 _ rfl
  have k6 := HC 6 _ rfl
  have k7 := HC 7 _ rfl
  have HK := Lib.hid (ih u ((w.alloc (.cells #[.int .i64 t.op, .int .u64 (word t.set 0), .int .u64 (word t.set 1), .int .u64 (word t.set 2), .int .u64 (word t.set 3), .int .i64 t.lo, .int .i64 t.hi, .slice (some ⟨g, 0, none⟩) 1 c] 29)).alloc (.cells #[.int .i64 0, .int .u64 0, .int .u64 0, .int .u64 0, .int .u64 0, .int .i64 0, .int .i64 0, .slice none 0 0] 29)) ok (.slice B m1 m2) (by omega) hwk (htk.stays hB2))
  have HX := Lib.hid b3
  have HZ := Lib.hid b2
  have HB2 := Lib.hid hB2
  generalize flatT u = fu at *
  unfold RetFlat nodeP at HK
  have H4 := Lib.hid h4
  clear HC hcells htk hwk b1 b2 b3 hB hB2 ht hN hm hn ih h4
  unfold nodeP
  go_enter Try.func28, Try.ntmps28
  go_wp2_with (first
    | (go_at_call 28; (with_reducible refine HK.out.mono ?_); rintro e w4 ⟨kf, rfl, htf, hb4'⟩; obtain ⟨Ak, nk, ck, rfl⟩ := htf.form; have hx4 := HX.out.stays hb4'; have hz4 := HZ.out.stays hb4'; obtain ⟨d0, d1, d2, d3, d4, d5, d6, d7⟩ := hx4.cell; have hs4 := hb4'.size; have lx4 : w.heap.size < w4.heap.size := hx4.lt; have lz4 : w.heap.size + 1 < w4.heap.size := by simpa using hz4.lt)
    | fail)
  have hs4' : w.heap.size + 2 ≤ w4.heap.size := by omega
  have HX4 := Lib.hid hx4
  have HZ4 := Lib.hid hz4
  have HTF := Lib.hid (htf.weak (ok' := fun b => w.heap.size + 2 ≤ b ∧ b < w4.heap.size) fun b hb hl => by simp at hb; omega)
  have HB4 := Lib.hid (gro HB2.out hb4')
  have hd2 : ((t.hi - t.lo).toNat : Int) = t.hi - t.lo := by omega
  generalize (t.hi - t.lo).toNat = d at *
  obtain ⟨L, hL⟩ : ∃ L : Nat, t.lo = L := ⟨t.lo.toNat, by omega⟩
  have hH : t.hi = ((L + d : Nat) : Int) := by omega
  have HL := Lib.hid hL
  have HH := Lib.hid hH
  have hLd : L + d ≤ 32 := by omega
  have hLn : t.lo.toNat = L := by omega
  have HLN := Lib.hid hLn
  clear hx4 hz4 htf hb4' HX HZ HB2 HK hd2 hhi hlo hlh hL hH hLn c0 c1 c2 c3 c4 c5 c6 c7 k0 k1 k2 k3 k4 k5 k6 k7 d0 d1 d2 d3 d4 d5 d6 d7 hb4 hd4
  go_loopg [7] d (fun m i wr => ∃ j A3 n3 c3, i = .int .i64 ((L + j : Nat) : Int) ∧ j ≤ d ∧ m = d - j ∧ RepIn w w4.heap.size t fu (restT fu j) (.slice (some ⟨g, 0, none⟩) 1 c) (.slice Ak nk ck) (.slice A3 n3 c3) wr)
  case atStart =>
    have h1 := Box8.new w4 fu (.slice Ak nk ck)
    have h2 := Box8.new (w4.alloc (.cells #[.int .i64 fu.op, .int .u64 (word fu.set 0), .int .u64 (word fu.set 1), .int .u64 (word fu.set 2), .int .u64 (word fu.set 3), .int .i64 fu.lo, .int .i64 fu.hi, .slice Ak nk ck] 29)) (.mk 2 noneP 0 0 []) (.slice none 0 0)
    simp only [T.op, T.set, T.lo, T.hi, word_none, World.size_alloc] at h2
    exact ⟨0, none, 0, 0, by first | rfl | simp [HL.out], Nat.zero_le _, rfl, (HX4.out.alloc _).alloc _, by simpa using (HZ4.out.alloc _).alloc _, h1.alloc _, h2, (HTF.out.alloc _).alloc _, .nil _ rfl, hs4', (HB4.out.alloc HB4.out.size _).alloc (by simp; exact Nat.le_succ_of_le HB4.out.size) _⟩
  case round =>
    obtain ⟨j, A3, n3, c3, rfl, hj, hmj, hin⟩ := hrel
    have HMJ := Lib.hid hmj
    obtain ⟨c0, c1, c2, c3', c4, c5, c6, c7⟩ := hin.n.cell
    rw [HH.out] at c6
    clear hmj c0 c1 c2 c3' c4 c5 c7
    have HIN := Lib.hid hin
    have hk4 : w4.heap.size < wr.heap.size := hin.k.lt
    have hr4 : w4.heap.size + 1 < wr.heap.size := hin.rest.lt
    by_cases hlt : j < d
    · obtain ⟨k0, k1, k2, k3, k4, k5, k6, k7⟩ := hin.k.cell
      obtain ⟨r0, r1, r2, r3, r4, r5, r6, r7⟩ := hin.rest.cell
      obtain ⟨f0, f1, f2, f3, f4, f5, f6, f7⟩ := hin.rest.frozen
      have hmore := hin.more
      have e : (.mk 5 noneP 0 0 [.mk 2 noneP 0 0 [fu, restT fu j]] : T) = restT fu (j + 1) := rfl
      have hne : w4.heap.size ≠ w4.heap.size + 1 := by omega
      generalize hr : restT fu j = r at *
      have HM := Lib.hid hmore
      have HE := Lib.hid e
      clear hin hmore e hr
      go_wp2
      go_roundg (d - (j + 1))
      case measure => have := HMJ.out; omega
      case rel =>
        have h := HM.out
        unfold put8 nodeC at h
        simp only [T.op, T.set, T.lo, T.hi, word_none] at h
        exact ⟨j + 1, some ⟨wr.heap.size + 1, 0, none⟩, 1, 1, by go_num, by omega, rfl, by rw [← HE.out]; exact h⟩
    · have hjd : j = d := by omega
      subst hjd
      have hjn := hin.jn
      have HJ := Lib.hid hjn
      obtain ⟨G, hG⟩ : ∃ G, wr.heap.size = G := ⟨_, rfl⟩
      rw [hG] at HJ
      generalize hr : restT fu j = r at *
      have HR := Lib.hid hr
      clear hin hjn HMJ HX4 HZ4 HTF HB4 HIN hr hG hlt hj
      go_wp2
      go_loopg [3, 8] L (fun m v i wr => ∃ q : Nat, i = .int .i64 (q : Int) ∧ q ≤ L ∧ m = L - q ∧ RepJn w G w4.heap.size t fu r (.slice (some ⟨g, 0, none⟩) 1 c) (.slice Ak nk ck) (.slice A3 n3 c3) v (List.replicate q fu) wr)
      case atStart => exact ⟨0, rfl, Nat.zero_le _, rfl, HJ.out⟩
      case round =>
        obtain ⟨q, rfl, hq, hmq, hjn⟩ := hrel
        have HMQ := Lib.hid hmq
        obtain ⟨A5, n5, m5, hf⟩ := hjn.row.form
        subst hf
        obtain ⟨c0, c1, c2, c3', c4, c5, c6, c7⟩ := hjn.n.cell
        rw [HL.out] at c5
        clear hmq c0 c1 c2 c3' c4 c6 c7
        have hk4 : w4.heap.size < wr.heap.size := hjn.k.lt
        have hr4 : w4.heap.size + 1 < wr.heap.size := hjn.rest.lt
        have hz1 : w.heap.size + 1 < wr.heap.size := hjn.res.lt
        have hgw := hjn.gw
        have hg2 := hjn.g.1
        have hg3 := hjn.g.2
        have hw1 := hjn.row.lt
        have hkt : Tree wr (fun b => w.heap.size + 2 ≤ b ∧ some b ≠ (Value.slice A5 n5 m5).ownBlock) fu (.slice Ak nk ck) := hjn.kt.weak fun b hb _ => ⟨hb.1, fun e => by have := hw1 b e.symm; omega⟩
        have hrt : Tree wr (fun b => w.heap.size + 2 ≤ b ∧ some b ≠ (Value.slice A5 n5 m5).ownBlock) r (.slice A3 n3 c3) := hjn.rt.weak fun b hb _ => ⟨hb.1, fun e => by have := hw1 b e.symm; omega⟩
        have HJ2 := Lib.hid hjn
        have HKT := Lib.hid hkt
        have HRT := Lib.hid hrt
        obtain ⟨k0, k1, k2, k3, k4, k5, k6, k7⟩ := hjn.k.cell
        obtain ⟨r0, r1, r2, r3, r4, r5, r6, r7⟩ := hjn.rest.cell
        clear hjn hkt hrt hw1 hg2 hg3 hgw
        by_cases hlt : q < L
        · clear r0 r1 r2 r3 r4 r5 r6 r7
          go_wp2_with (first
            | (at_builtin; refine wpList_pushK (by rfl) _ _ (by rfl) (by rfl) (HJ2.out.row.alloc _) (by have := HJ2.out.gw; simp; omega) (by simp; omega) fu (.slice Ak nk ck) (HKT.out.alloc _) ⟨wr.heap.size, 0, none⟩ 1 (by rfl) (kidF_cells wr fu (.slice Ak nk ck)) ?_; intro v6 w6 row6 o6 hB6)
            | fail)
          have hp := HJ2.out.push row6 o6
          go_roundg (L - (q + 1))
          case measure => have := HMQ.out; omega
          case rel => exact ⟨q + 1, by go_num, by omega, rfl, by rw [List.replicate_succ']; exact hp⟩
        · have hqL : q = L := by omega
          subst hqL
          clear k0 k1 k2 k3 k4 k5 k6 k7
          go_wp2_with (first
            | (at_builtin; refine wpList_pushK (by rfl) _ _ (by rfl) (by rfl) (HJ2.out.row.alloc _) (by have := HJ2.out.gw; simp; omega) (by simp; omega) r (.slice A3 n3 c3) (HRT.out.alloc _) ⟨wr.heap.size, 0, none⟩ 1 (by rfl) (kidF_cells wr r (.slice A3 n3 c3)) ?_; intro v6 w6 row6 o6 hB6; obtain ⟨A6, n6, m6, hf6⟩ := row6.form; subst hf6; have hp := HJ2.out.push row6 o6; have HP := Lib.hid hp; obtain ⟨z0, z1, z2, z3, z4, z5, z6, z7⟩ := hp.res.cell; obtain ⟨f0, f1, f2, f3, f4, f5, f6, f7⟩ := hp.res.frozen; have hz6 := hp.res.lt; clear hp)
            | fail)
          have hp := HP.out
          have hz8 := hp.res.put (t' := T.zero) (k' := .slice none 0 0) (.mk 2 noneP 0 0 (List.replicate q fu ++ [r])) (.slice A6 n6 m6)
          have htr := hp.row.tree (fun b hb => by have := hp.g; omega) (by simp) 2 noneP 0 0
          have htree : Tree (put8 w6 (w.heap.size + 1) (.mk 2 noneP 0 0 (List.replicate q fu ++ [r])) (.slice A6 n6 m6)) (fun b => w.heap.size ≤ b) (.mk 2 noneP 0 0 (List.replicate q fu ++ [r])) (.slice A6 n6 m6) := (htr.put8 (fun b hb => by omega)).weak fun b hb _ => by omega
          have hbel := below_put8 hp.out (g := w.heap.size + 1) (by omega) (.mk 2 noneP 0 0 (List.replicate q fu ++ [r])) (.slice A6 n6 m6)
          obtain ⟨y0, y1, y2, y3, y4, y5, y6, y7⟩ := hz8.cell
          unfold put8 at htree hbel y0 y1 y2 y3 y4 y5 y6 y7
          simp only [T.op, T.set, T.lo, T.hi, word_none] at htree hbel y0 y1 y2 y3 y4 y5 y6 y7
          rw [← HLN.out] at htree
          refine bodyPost_ret (v := nodeP (T.mk 2 noneP 0 0 (List.replicate q fu ++ [r])) (.slice A6 n6 m6)) ?_ rfl ⟨_, rfl, htree, ?_⟩
          · simp [nodeP, T.op, T.set, T.lo, T.hi, word_none, results, Try.results28, go_sem, y0, y1, y2, y3, y4, y5, y6, y7]
          · exact hbel
theorem flat_all : ∀ N, FlatF N := by
  intro N
  induction N with
  | zero => intro t w ok k h; obtain ⟨op, p, lo, hi, l⟩ := t; simp at h
  | succ N ih =>
    intro t w ok k hN hwf ht
    by_cases h4 : t.op = 4
    · cases hwf with
      | one p => cases h4
      | cat l h2 hNl h => cases h4
      | alt l h2 hNl h => cases h4
      | rep m n u h0 h1 h2 h3 hu =>
        have e : flatT (.mk 4 noneP m n [u]) = .mk 2 noneP 0 0 (List.replicate m.toNat (flatT u) ++ [restT (flatT u) (n - m).toNat]) := by simp [flatT, flatHead]
        rw [e]
        exact flat_rep (t := .mk 4 noneP m n [u]) (u := u) ih hN hu ht rfl rfl (by simp only [T.lo]; omega) (by simp only [T.lo, T.hi]; omega) (by simp only [T.hi]; omega)
    · exact flat_row ih hN hwf ht h4
theorem flat_p {t : T} {w : World} {ok : Nat → Prop} {k : Value} (hwf : WF t) (ht : Tree w ok t k) : Calls Try.prog 28 #[nodeP t k] w (RetFlat w (flatT t)) :=
  flat_all _ t w ok k (Nat.le_refl _) hwf ht
end Go.Proofs.Ytfgppmipaahleaa

/-
  The document's own lists of numbers that grow: add. Contracts for other texts; no statement of its own.
-/
namespace Go.Proofs.Ytfgppmipaahleaa
open Go Go.RowKit
attribute [local go_sem ↓] Go.wp_at_zero Go.wp_at_succ

def addL (l : List Int) (n : Int) : List Int := if l.contains n then l else l ++ [n]
theorem addL_mem (l : List Int) (n x : Int) : x ∈ addL l n ↔ x ∈ l ∨ x = n := by
  unfold addL
  split
  · rename_i h
    have h' : n ∈ l := by simpa using h
    exact ⟨.inl, fun k => k.elim id fun e => e ▸ h'⟩
  · simp
theorem addL_nodup (l : List Int) (n : Int) (h : l.Nodup) : (addL l n).Nodup := by
  unfold addL
  split
  · exact h
  · rename_i hn
    have hn' : n ∉ l := by simpa using hn
    rw [List.nodup_append]
    refine ⟨h, by simp, ?_⟩
    intro a ha b hb e
    simp at hb
    subst hb e
    exact hn' ha
theorem addL_len (l : List Int) (n : Int) : (addL l n).length ≤ l.length + 1 := by unfold addL; split <;> simp

/-- What add tells. -/
def RetAdd (w : World) (B : Nat) (v : Value) (l : List Int) (n : Int) (e : Ending) (w' : World) : Prop :=
  ∃ v', e = .returned v' ∧ Ints w' B v' (addL l n) ∧ w.grownBy w' v.ownBlock ∧ (v'.ownBlock = v.ownBlock ∨ ∃ g, v'.ownBlock = some g ∧ w.heap.size ≤ g)

set_option maxRecDepth 20000 in
set_option maxHeartbeats 2000000 in
theorem add_p (w : World) (B : Nat) (v : Value) (l : List Int) (n : Int) (h : Ints w B v l) (hB : B ≤ w.heap.size) (hl : l.length ≤ 1000000) :
    Calls Try.prog 56 #[v, .int .i64 n] w (RetAdd w B v l n) := by
  obtain ⟨i0, hi, hz0, hz1, hz2⟩ := info_parts Try.infoInt
  obtain ⟨A, c, rfl⟩ := h.form
  generalize hlen : l.length = L at *
  have HLEN := Lib.hid hlen
  have HH := Lib.hid h
  clear h hlen
  go_enter Try.func56, Try.ntmps56
  go_wp2
  go_loopg [5] L (fun m i wr => ∃ j : Nat, i = .int .i64 (j : Int) ∧ j ≤ L ∧ m = L - j ∧ (∀ k, k < j → ∀ x, l[k]? = some x → x ≠ n) ∧ wr = w)
  case atStart => exact ⟨0, rfl, Nat.zero_le _, rfl, fun k hk => by omega, rfl⟩
  case round =>
    obtain ⟨j, rfl, hj, hmj, hne, rfl⟩ := hrel
    have HMJ := Lib.hid hmj
    have HNE := Lib.hid hne
    clear hmj hne
    by_cases hlt : j < L
    · have hlt' : j < l.length := by rw [HLEN.out]; exact hlt
      obtain ⟨g, c', e1, _, _, hc⟩ := HH.out.at j hlt'
      injection e1 with e1 e2 e3
      subst e1 e3
      clear e2
      have hx : ∃ x, l[j]'hlt' = x := ⟨_, rfl⟩
      obtain ⟨x, hx⟩ := hx
      rw [hx] at hc
      have HX := Lib.hid hx
      clear hx
      cases hxn : (x == n)
      · go_wp2
        go_roundg (L - (j + 1))
        case measure => have := HMJ.out; omega
        case rel =>
          refine ⟨j + 1, by go_num, by omega, rfl, fun k hk y hy => ?_, rfl⟩
          by_cases hkj : k = j
          · subst hkj
            rw [List.getElem?_eq_getElem hlt', HX.out] at hy
            injection hy with hy
            subst hy
            simpa using hxn
          · exact HNE.out k (by omega) y hy
      · go_wp2
        go_ret
        have hm : n ∈ l := by
          have e : x = n := by simpa using hxn
          rw [← e, ← HX.out]
          exact List.getElem_mem hlt'
        have ea : addL l n = l := by unfold addL; rw [if_pos (by simpa using hm)]
        exact ⟨_, rfl, by rw [ea]; exact HH.out, ⟨rfl, rfl, rfl, Nat.le_refl _, fun _ _ _ => rfl⟩, .inl rfl⟩
    · have hn : n ∉ l := by
        intro hm
        obtain ⟨k, hk, e⟩ := List.getElem_of_mem hm
        exact HNE.out k (by rw [HLEN.out] at hk; omega) n (by rw [List.getElem?_eq_getElem hk, e]) rfl
      have ea : addL l n = l ++ [n] := by unfold addL; rw [if_neg (by simpa using hn)]
      have HEA := Lib.hid ea
      have hown := HH.out
      unfold Ints at hown
      rw [HLEN.out] at hown
      have HO := Lib.hid hown
      clear hn ea hown
      go_wp2_with (at_builtin; refine wpList_append_own_at _ rfl _ _ 33 rfl B 3 i0 (.int .i64 0) 1 8 Try.underlying33 hi hz0 hz1 hz2 rfl (by decide) _ _ _ rfl (own_stays HO.out ((Below.refl _ _).alloc (Nat.le_refl _) _)) ⟨wr.heap.size, 0, none⟩ 1 1 [.int .i64 n] rfl rfl (cell_one_new _ _ _) ?c2 ?c3 ?c4 ?c5 ?_)
      case c2 => intro u hu; simp at hu; subst hu; rfl
      case c3 => unfold maxLen; omega
      case c4 => omega
      case c5 => simp; omega
      · intro v' w2 hown' hgrow _ hat
        go_wp2
        go_ret
        have ho := hown'
        have hgB : wr.grownBy w2 (Value.ownBlock (.slice A L c)) := (World.grownBy_alloc wr _ _).trans hgrow
        refine ⟨v', rfl, ?_, hgB, ?_⟩
        · rw [HEA.out]
          unfold Ints
          rw [List.length_append, HLEN.out, List.map_append]
          exact ho
        · rcases hat with hat | hat
          · exact .inl hat
          · exact .inr ⟨_, hat, by simp⟩

end Go.Proofs.Ytfgppmipaahleaa

/-
  The document's own Sorted. Contracts for other texts; no statement of its own.
-/
namespace Go.Proofs.Ytfgppmipaahleaa
open Go Go.RowKit
attribute [local go_sem ↓] Go.wp_at_zero Go.wp_at_succ

/-- Of l, what is below n, rising, each once. -/
def sortN (l : List Nat) (n : Nat) : List Nat := (List.range n).filter fun x => l.contains x
theorem sortN_lt (l : List Nat) (n x : Nat) (h : x ∈ sortN l n) : x < n := by
  unfold sortN at h
  simp at h
  exact h.1
theorem sortN_mem (l : List Nat) (n x : Nat) : x ∈ sortN l n ↔ x < n ∧ x ∈ l := by simp [sortN]
theorem sortN_len (l : List Nat) (n : Nat) : (sortN l n).length ≤ n := by
  have := List.length_filter_le (fun x => l.contains x) (List.range n)
  simpa [sortN] using this
theorem sortN_succ (l : List Nat) (n : Nat) : sortN l (n + 1) = sortN l n ++ (if l.contains n then [n] else []) := by
  simp only [sortN, List.range_succ, List.filter_append]
  cases hc : l.contains n
  · rw [List.filter_cons_of_neg (by rw [hc]; decide)]; simp
  · rw [List.filter_cons_of_pos hc]; simp
theorem sortN_add (l : List Nat) (n : Nat) (c : Bool) : addL (ns (sortN l n ++ (if c = true then [n] else []))) (n : Int) = ns (sortN l n ++ [n]) := by
  unfold addL
  cases c
  · have hn : ¬ (n : Int) ∈ ns (sortN l n) := by
      intro h
      simp only [ns, List.mem_map] at h
      obtain ⟨x, hx, e⟩ := h
      have := sortN_lt l n x hx
      have e' : (x : Int) = (n : Int) := e
      omega
    simp only [Bool.false_eq_true, if_false, List.append_nil, List.contains_iff_mem]
    rw [if_neg hn]
    simp [ns]
  · simp only [if_true, List.contains_iff_mem]
    rw [if_pos]
    simp [ns]
theorem has_take (l : List Nat) (i n : Nat) (h : i < l.length) : (l.take (i + 1)).contains n = ((l.take i).contains n || l[i]'h == n) := by
  rw [List.take_succ_eq_append_getElem h, Bool.eq_iff_iff]
  simp only [List.contains_iff_mem, List.mem_append, List.mem_singleton, Bool.or_eq_true, beq_iff_eq]
  exact or_congr Iff.rfl ⟨fun e => e.symm, fun e => e.symm⟩

set_option maxRecDepth 20000 in
set_option maxHeartbeats 4000000 in
theorem sorted_p {w : World} {B : Nat} {v : Value} {l : List Nat} (h : Ints w B v (ns l)) (hl : l.length ≤ 100000) :
    Calls Try.prog 31 #[v] w (RetEndF w (sortN l 300)) := by
  obtain ⟨A, c, rfl⟩ := h.form
  have hA : ∀ (j : Nat) (hj : j < l.length), ∃ g, A = some ⟨g, 0, none⟩ ∧ g < w.heap.size ∧ w.cell? ⟨g, j, none⟩ = some (.int .i64 ((l[j] : Nat) : Int)) := by
    intro j hj
    obtain ⟨g, c', e, _, hg, hc⟩ := h.at j (by rw [ns_len]; exact hj)
    injection e with e
    exact ⟨g, e, hg, by rw [hc]; simp [ns]⟩
  generalize hlen : (ns l).length = L at *
  have hlL : l.length = L := by rw [← hlen, ns_len]
  rw [hlL] at hl
  have HL := Lib.hid hlL
  have HA := Lib.hid hA
  clear h hA hlen hlL
  go_enter Try.func31, Try.ntmps31
  go_wp2
  go_loopg [3, 4] 300 (fun m out n wr => ∃ q : Nat, n = .int .i64 (q : Int) ∧ q ≤ 300 ∧ m = 300 - q ∧ Ints wr w.heap.size out (ns (sortN l q)) ∧ Below w.heap.size w wr)
  case atStart => exact ⟨0, rfl, by omega, rfl, Ints.nil _ _, Below.refl _ _⟩
  case round =>
    obtain ⟨q, rfl, hq, hmq, hout, hW⟩ := hrel
    have HMQ := Lib.hid hmq
    have HOUT := Lib.hid hout
    have HW := Lib.hid hW
    clear hmq hout hW
    by_cases hqt : q < 300
    · go_wp2
      have hd : decide ((q : Int) < 300) = true := by simp; omega
      rw [hd]
      clear hd
      go_loopg [3, 5] L (fun m out i wq => ∃ j : Nat, i = .int .i64 (j : Int) ∧ j ≤ L ∧ m = L - j ∧ Ints wq w.heap.size out (ns (sortN l q ++ (if (l.take j).contains q = true then [q] else []))) ∧ Below w.heap.size w wq)
      case atStart => exact ⟨0, rfl, by omega, rfl, by simpa using HOUT.out, HW.out⟩
      case round =>
        obtain ⟨j, rfl, hj, hmj, hout2, hW2⟩ := hrel
        have HMJ := Lib.hid hmj
        have HOUT2 := Lib.hid hout2
        have HW2 := Lib.hid hW2
        clear hmj hout2 hW2
        by_cases hjt : j < L
        · have hjt' : j < l.length := by rw [HL.out]; exact hjt
          obtain ⟨g, e1, hg, hc⟩ := HA.out j hjt'
          subst e1
          have hht := has_take l j q hjt'
          generalize l[j]'hjt' = x at *
          have hcell : wr.cell? ⟨g, j, none⟩ = some (.int .i64 (x : Int)) := (HW2.out.cell (p := ⟨g, j, none⟩) hg).trans hc
          have hbl : (ns (sortN l q ++ (if (l.take j).contains q = true then [q] else []))).length ≤ 1000000 := by
            have := sortN_len l q
            rw [ns_len, List.length_append]
            split <;> simp <;> omega
          have HADD := Lib.hid (add_p wr w.heap.size _ (ns (sortN l q ++ (if (l.take j).contains q = true then [q] else []))) (q : Int) HOUT2.out HW2.out.size hbl)
          have hadd := sortN_add l q ((l.take j).contains q)
          have HHT := Lib.hid hht
          unfold RetAdd at HADD
          rw [hadd] at HADD
          clear hht hadd hbl hc
          cases hxq : ((x : Int) == (q : Int))
          · go_wp2
            go_roundg (L - (j + 1))
            case measure => have := HMJ.out; omega
            case rel =>
              have e : (x == q) = false := by
                have : ¬ (x : Int) = (q : Int) := by simpa using hxq
                simp
                omega
              exact ⟨j + 1, by go_num, by omega, rfl, by rw [HHT.out, e, Bool.or_false]; exact HOUT2.out, HW2.out⟩
          · go_wp2_with (first
              | (go_at_call 56; (with_reducible refine HADD.out.mono ?_); rintro e w6 ⟨v6, rfl, hi6, hg6, hv6⟩)
              | fail)
            go_roundg (L - (j + 1))
            case measure => have := HMJ.out; omega
            case rel =>
              have e : (x == q) = true := by
                have : (x : Int) = (q : Int) := by simpa using hxq
                simp
                omega
              exact ⟨j + 1, by go_num, by omega, rfl, by rw [HHT.out, e, Bool.or_true]; exact hi6, HW2.out.grown hg6 HW2.out.size (own_at HOUT2.out)⟩
        · have hjn : l.take j = l := List.take_of_length_le (by rw [HL.out]; omega)
          rw [hjn, ← sortN_succ] at HOUT2
          clear hjn
          go_wp2
          go_roundg (300 - (q + 1))
          case measure => have := HMQ.out; omega
          case rel => exact ⟨q + 1, by go_num, by omega, rfl, HOUT2.out, HW2.out⟩
    · have hqn : q = 300 := by omega
      subst hqn
      go_wp2
      go_ret
      exact ⟨_, rfl, HOUT.out, HW.out⟩
end Go.Proofs.Ytfgppmipaahleaa
