/-
  Several texts of this proof in one file: Least, LangHas, AnyRef, SetOr, LangAny, Ends3. No statement of its own.
-/
import Derived.Test.YtlnanelejaddiaaDoorMa5
import Derived.Test.YtlnanelejaddiaaDoorMa7
import Derived.Deep.RegionLaw
import Derived.Test.YtlnanelejaddiaaDoorMa1
set_option linter.unusedVariables false
set_option linter.unusedSimpArgs false

/-
  lang.Least, lang.Most. Contracts for other texts; no statement of its own.
-/
namespace Go.Proofs.YtlnanelejaddiaaDoor
open Go Go.RowKit
attribute [local go_sem ↓] Go.wp_at_zero Go.wp_at_succ

theorem Box8.nodeAt {w : World} {g : Nat} {t : T} {k : Value} (h : Box8 w g t k) : NodeAt w g 0 t k := by
  obtain ⟨c0, c1, c2, c3, c4, c5, c6, c7⟩ := h.cell
  intro q v e
  rw [Nat.zero_add]
  match q, e with
  | 0, e => injection e with e; rw [← e]; exact c0
  | 1, e => injection e with e; rw [← e]; exact c1
  | 2, e => injection e with e; rw [← e]; exact c2
  | 3, e => injection e with e; rw [← e]; exact c3
  | 4, e => injection e with e; rw [← e]; exact c4
  | 5, e => injection e with e; rw [← e]; exact c5
  | 6, e => injection e with e; rw [← e]; exact c6
  | 7, e => injection e with e; rw [← e]; exact c7
  | q + 8, e => simp [nodeC] at e

set_option maxHeartbeats 1000000 in
theorem least_p {t : T} {k : Value} {ok : Nat → Prop} (w : World) (hwf : WF t) (ht : Tree w ok t k) : Calls Tryd.prog 10 #[nodeP t k] w (RetInt w (lenN false t)) := by
  obtain ⟨A, n', c, rfl⟩ := ht.form
  have hk := (span_p (w.alloc (.cells #[.int .i64 t.op, .int .u64 (word t.set 0), .int .u64 (word t.set 1), .int .u64 (word t.set 2), .int .u64 (word t.set 3), .int .i64 t.lo, .int .i64 t.hi, .slice A n' c] 29)) 1000 (by omega) (by omega) w.heap.size 0 hwf (ht.alloc _) (Box8.new w t (.slice A n' c)).nodeAt)
  rw [show ((1000 : Nat) : Int) = 1000 from rfl] at hk
  have hK := Lib.hid hk
  clear hk
  rw [lenN_eq false hwf]
  unfold RetTwo at hK
  unfold nodeP
  clear ht hwf
  go_enter Tryd.func10, Tryd.ntmps10
  go_wp2_with (go_at_call 22; (with_reducible refine hK.out.mono ?_); rintro e w5 ⟨rfl, hb5⟩)
  go_ret
  exact ⟨rfl, gro1 (Below.refl _ _) hb5⟩
set_option maxHeartbeats 1000000 in
theorem most_p {t : T} {k : Value} {ok : Nat → Prop} (w : World) (hwf : WF t) (ht : Tree w ok t k) : Calls Tryd.prog 12 #[nodeP t k] w (RetInt w (lenN true t)) := by
  obtain ⟨A, n', c, rfl⟩ := ht.form
  have hk := (span_p (w.alloc (.cells #[.int .i64 t.op, .int .u64 (word t.set 0), .int .u64 (word t.set 1), .int .u64 (word t.set 2), .int .u64 (word t.set 3), .int .i64 t.lo, .int .i64 t.hi, .slice A n' c] 29)) 1000 (by omega) (by omega) w.heap.size 0 hwf (ht.alloc _) (Box8.new w t (.slice A n' c)).nodeAt)
  rw [show ((1000 : Nat) : Int) = 1000 from rfl] at hk
  have hK := Lib.hid hk
  clear hk
  rw [lenN_eq true hwf]
  unfold RetTwo at hK
  unfold nodeP
  clear ht hwf
  go_enter Tryd.func12, Tryd.ntmps12
  go_wp2_with (go_at_call 22; (with_reducible refine hK.out.mono ?_); rintro e w5 ⟨rfl, hb5⟩)
  go_ret
  exact ⟨rfl, gro1 (Below.refl _ _) hb5⟩

end Go.Proofs.YtlnanelejaddiaaDoor

/-
  lang.Has, whatever the pattern and the word. Contracts for other texts; no statement of its own.
-/
namespace Go.Proofs.YtlnanelejaddiaaDoor
open Go Go.RowKit
attribute [local go_sem ↓] Go.wp_at_zero Go.wp_at_succ

/-- What Has tells. -/
def RetHas (w : World) (P : Prop) (e : Ending) (w' : World) : Prop := ∃ b : Bool, e = .returned (.bool b) ∧ (b = true ↔ P) ∧ Below w.heap.size w w'

/-- The ghost of one part alone. -/
def Ghost.single (g : Nat) (t : T) : Ghost := ⟨fun g' o' => if g' = g ∧ o' = 0 then some t else none, fun _ => none, fun _ => False⟩

theorem ask_single {w w5 : World} {xs : List Int} {A : Option Addr} {t : T} {kn : Value} {g0 : Nat} {cur : Array Value} (hB5 : Below w.heap.size w w5) (hg0 : w5.heap[g0]? = some (.cells cur 29 (0, 0))) (hn : NodeAt w5 g0 0 t kn) (ht : Tree w5 (fun _ => True) t kn) (hwf : WF t)
    (hrd : RdB w w.heap.size A xs) (hby : ∀ k, k < xs.length → 0 ≤ xs.getD k 0 ∧ xs.getD k 0 ≤ 255) (hlen : xs.length ≤ 100000) (htab : Tab w) :
    Ask (w5.alloc (.cells #[.pointer (some ⟨g0, 0, none⟩), .slice none 0 0, .int .i64 0, .slice none 0 0] 58)) w.heap.size xs A (Ghost.single w5.heap.size t) := by
  have hb : Below w5.heap.size w5 (w5.alloc (.cells #[.pointer (some ⟨g0, 0, none⟩), .slice none 0 0, .int .i64 0, .slice none 0 0] 58)) := (Below.refl _ _).alloc (Nat.le_refl _) _
  have hw := hB5.trans (hb.mono hB5.size)
  have hnew := World.alloc_heap_new w5 (.cells #[.pointer (some ⟨g0, 0, none⟩), .slice none 0 0, .int .i64 0, .slice none 0 0] 58)
  have hcell : ∀ (j : Nat) (u : Value), (#[Value.pointer (some ⟨g0, 0, none⟩), .slice none 0 0, .int .i64 0, .slice none 0 0] : Array Value)[j]? = some u → (w5.alloc (.cells #[.pointer (some ⟨g0, 0, none⟩), .slice none 0 0, .int .i64 0, .slice none 0 0] 58)).cell? ⟨w5.heap.size, j, none⟩ = some u := fun j u e => by
    rw [World.cell?_alloc_new]
    exact e
  have hg0l := lt_of_some hg0
  refine ⟨⟨⟨fun g o t' e => ?_, fun gf t' e => by cases e⟩, fun g e => e.elim⟩, hrd.below hw, hby, hlen, htab.below hw htab.1, htab.1, hw.size⟩
  unfold Ghost.single at e
  simp only at e
  by_cases hgo : g = w5.heap.size ∧ o = 0
  · rw [if_pos hgo] at e
    injection e with e
    obtain ⟨rfl, rfl⟩ := hgo
    subst e
    refine ⟨hB5.size, ⟨by omega, ⟨_, hnew⟩, hwf, ⟨g0, 0, kn, hcell 0 _ rfl, hn.block (hb.block g0 hg0l), ht.mono fun b _ hlt _ => ⟨hb.block b hlt, trivial⟩, cur, (hb.block g0 hg0l).trans hg0⟩, .inl (hcell 1 _ rfl), ⟨0, hcell 2 _ rfl, by omega⟩, .inl (hcell 3 _ rfl)⟩⟩
  · rw [if_neg hgo] at e
    cases e

set_option maxRecDepth 20000 in
set_option maxHeartbeats 2000000 in
theorem langhas_p {w : World} {c : Nat} {xs : List Int} {A : Option Addr} {t : T} {k : Value} {ok : Nat → Prop} (hwf : WF t) (ht : Tree w ok t k) (hrd : RdB w w.heap.size A xs) (hby : ∀ k, k < xs.length → 0 ≤ xs.getD k 0 ∧ xs.getD k 0 ≤ 255) (hlen : xs.length ≤ 100000) (htab : Tab w) :
    Calls Tryd.prog 8 #[nodeP t k, .slice A xs.length c] w (RetHas w (E xs t 0 xs.length)) := by
  obtain ⟨A', n', c', rfl⟩ := ht.form
  have hel : E xs t 0 xs.length → LenU false t ≤ xs.length ∧ xs.length ≤ LenU true t := fun hE => by
    have := E_len hwf 0 xs.length (Nat.zero_le _) hE
    omega
  have b8 := Box8.new w t (.slice A' n' c')
  have hB1 : Below w.heap.size w (w.alloc (.cells #[.int .i64 t.op, .int .u64 (word t.set 0), .int .u64 (word t.set 1), .int .u64 (word t.set 2), .int .u64 (word t.set 3), .int .i64 t.lo, .int .i64 t.hi, .slice A' n' c'] 29)) := (Below.refl _ _).alloc (Nat.le_refl _) _
  have hblk := World.alloc_heap_new w (.cells #[.int .i64 t.op, .int .u64 (word t.set 0), .int .u64 (word t.set 1), .int .u64 (word t.set 2), .int .u64 (word t.set 3), .int .i64 t.lo, .int .i64 t.hi, .slice A' n' c'] 29)
  have hsp := span_p (w.alloc (.cells #[.int .i64 t.op, .int .u64 (word t.set 0), .int .u64 (word t.set 1), .int .u64 (word t.set 2), .int .u64 (word t.set 3), .int .i64 t.lo, .int .i64 t.hi, .slice A' n' c'] 29)) (xs.length + 1) (by omega) (by omega) w.heap.size 0 hwf (ht.alloc _) b8.nodeAt
  rw [show ((xs.length + 1 : Nat) : Int) = (xs.length : Int) + 1 by omega] at hsp
  have ht1 : Tree (w.alloc (.cells #[.int .i64 t.op, .int .u64 (word t.set 0), .int .u64 (word t.set 1), .int .u64 (word t.set 2), .int .u64 (word t.set 3), .int .i64 t.lo, .int .i64 t.hi, .slice A' n' c'] 29)) (fun _ => True) t (.slice A' n' c') := (ht.alloc _).mono fun b _ _ _ => ⟨rfl, trivial⟩
  have hnode := b8.nodeAt
  have hs1 : (w.alloc (.cells #[.int .i64 t.op, .int .u64 (word t.set 0), .int .u64 (word t.set 1), .int .u64 (word t.set 2), .int .u64 (word t.set 3), .int .i64 t.lo, .int .i64 t.hi, .slice A' n' c'] 29)).heap.size = w.heap.size + 1 := by simp
  unfold RetTwo at hsp
  have HSP := Lib.hid hsp
  have HEL := Lib.hid hel
  have HB1 := Lib.hid hB1
  have HBLK := Lib.hid hblk
  have HT1 := Lib.hid ht1
  have HND := Lib.hid hnode
  have HRD := Lib.hid hrd
  have HBY := Lib.hid hby
  have HTB := Lib.hid htab
  have HWF := Lib.hid hwf
  have HS1 := Lib.hid hs1
  generalize hl0 : LenU false t = l0 at *
  generalize hl1 : LenU true t = l1 at *
  have HL := Lib.hid (fun _ : Unit => And.intro hl0 hl1)
  unfold nodeP
  clear hsp hel hB1 hblk ht1 hnode hrd hby htab hwf ht b8 hs1 hl0 hl1
  by_cases h1 : xs.length < l0
  · have hm0 : ((min l0 (xs.length + 1) : Nat) : Int) = (xs.length : Int) + 1 := by omega
    have hi1 : (xs.length : Int) < (xs.length : Int) + 1 := by omega
    rw [hm0] at HSP
    go_enter Tryd.func8, Tryd.ntmps8
    go_wp2_with (go_at_call 22; (with_reducible refine HSP.out.mono ?_); rintro e w5 ⟨rfl, hb5⟩; have HB5 := Lib.hid hb5; clear hb5)
    go_ret
    exact ⟨false, rfl, ⟨fun h => (by cases h), fun h => by have := HEL.out h; omega⟩, HB1.out.trans (HB5.out.mono HB1.out.size)⟩
  · have hm0 : min l0 (xs.length + 1) = l0 := by omega
    rw [hm0] at HSP
    have hi1 : ¬ ((xs.length : Int) < (l0 : Int)) := by omega
    by_cases h2 : l1 < xs.length
    · have hm1 : min l1 (xs.length + 1) = l1 := by omega
      rw [hm1] at HSP
      have hi2 : (l1 : Int) < (xs.length : Int) := by omega
      clear hm0 hm1
      go_enter Tryd.func8, Tryd.ntmps8
      go_wp2_with (go_at_call 22; (with_reducible refine HSP.out.mono ?_); rintro e w5 ⟨rfl, hb5⟩; have HB5 := Lib.hid hb5; clear hb5)
      go_ret
      exact ⟨false, rfl, ⟨fun h => (by cases h), fun h => by have := HEL.out h; omega⟩, HB1.out.trans (HB5.out.mono HB1.out.size)⟩
    · obtain ⟨d, hd⟩ : ∃ d : Nat, d = min l1 (xs.length + 1) := ⟨_, rfl⟩
      rw [← hd] at HSP
      have hi2 : ¬ ((d : Int) < (xs.length : Int)) := by omega
      have hon : ∀ W, Calls Tryd.prog 24 #[.int .i64 0, .int .i64 xs.length] W (RetPl W (xs.length / 64 + 1) (fun x => x == 0)) := fun W => only_p W 0 xs.length (by omega) (Nat.zero_le _)
      unfold RetPl at hon
      have HON := Lib.hid hon
      have hpe := pends_p t HWF.out
      unfold EndsP RetEndsP at hpe
      have HPE := Lib.hid hpe
      have hph := fun W v q (h : Pl W 0 v (xs.length / 64 + 1) q) => plhas_p W 0 (xs.length / 64 + 1) xs.length v q h (by omega) (by omega)
      have HPH := Lib.hid hph
      clear hm0 hd hon hpe hph
      go_enter Tryd.func8, Tryd.ntmps8
      go_wp2_with (first
        | (go_at_call 22; (with_reducible refine HSP.out.mono ?_); rintro e w5 ⟨rfl, hb5⟩; have HB5 := Lib.hid hb5; clear hb5; have HASK := Lib.hid (ask_single (w := w) (w5 := w5) (HB1.out.trans (HB5.out.mono HB1.out.size)) ((HB5.out.block w.heap.size (by rw [HS1.out]; omega)).trans HBLK.out) (HND.out.block (HB5.out.block w.heap.size (by rw [HS1.out]; omega))) (HT1.out.mono fun b _ hlt _ => ⟨HB5.out.block b hlt, trivial⟩) HWF.out HRD.out HBY.out hlen HTB.out))
        | (go_at_call 24; (with_reducible refine (HON.out _).mono ?_); rintro e2 w7 ⟨v2, rfl, hv2, hb7⟩; have HV2 := Lib.hid hv2; have HB7 := Lib.hid hb7; have HA7 := Lib.hid (HASK.out.stays hb7); have HI7 := Lib.hid (show InW w7 xs v2 (fun x => x == 0) from ⟨hv2.lower (Nat.zero_le _), fun x hx => by have : x = 0 := (by simpa using hx); omega⟩); clear hv2 hb7)
        | (go_at_call 23; (with_reducible refine (HPE.out _ _ _ _ _ _ _ _ _ _ HA7.out (by simp [Ghost.single]) HI7.out).mono ?_); rintro e3 w8 ⟨v3, q3, Γ3, rfl, hi3, hx3, hv3, hq3⟩; have HX3 := Lib.hid hx3; have HV3 := Lib.hid hv3; have HQ3 := Lib.hid hq3; clear hi3 hx3 hv3 hq3)
        | (go_at_call 25; (with_reducible refine (HPH.out _ _ _ HV3.out.pl).mono ?_); rintro e4 w9 ⟨rfl, rfl⟩))
      go_ret
      have hb5 := HB1.out.trans (HB5.out.mono HB1.out.size)
      have hb6 := hb5.alloc hb5.size (.cells #[.pointer (some ⟨w.heap.size, 0, none⟩), .slice none 0 0, .int .i64 0, .slice none 0 0] 58)
      refine ⟨q3 xs.length, rfl, ?_, (hb6.trans (HB7.out.mono hb6.size)).trans HX3.out.below⟩
      rw [HQ3.out xs.length]
      constructor
      · rintro ⟨i, hi, hE⟩
        have : i = 0 := by simpa using hi
        rwa [this] at hE
      · intro hE
        exact ⟨0, rfl, hE⟩

end Go.Proofs.YtlnanelejaddiaaDoor

/-
  The document's own Any: all bytes of all sets. Contracts for other texts; no statement of its own.
-/
namespace Go.Proofs.YtlnanelejaddiaaDoor
open Go Go.RowKit
attribute [local go_sem ↓] Go.wp_at_zero Go.wp_at_succ

mutual
def anyP : T → Nat → Bool
  | .mk op p lo hi l => fun x => p x || anyL l x
def anyL : List T → Nat → Bool
  | [] => fun _ => false
  | t :: ts => fun x => anyP t x || anyL ts x
end
theorem anyP_eq (t : T) : anyP t = orP t.set (anyL t.kids) := by cases t; rfl
theorem anyL_app (l l' : List T) (x : Nat) : anyL (l ++ l') x = (anyL l x || anyL l' x) := by
  induction l with
  | nil => rfl
  | cons t ts ih => simp [anyL, ih, Bool.or_assoc]
theorem anyL_take (l : List T) (j : Nat) (h : j < l.length) (x : Nat) : anyL (l.take (j + 1)) x = (anyL (l.take j) x || anyP (l[j]'h) x) := by
  rw [List.take_succ_eq_append_getElem h, anyL_app]
  simp [anyL]

def RetSetOf (w : World) (p : Nat → Bool) (e : Ending) (w' : World) : Prop := e = .returned (setV p) ∧ Below w.heap.size w w'
theorem Box8.put4 {w : World} {g g' : Nat} {t : T} {k : Value} (h : Box8 w g t k) (hg : g ≠ g') (q : Nat → Bool) : Box8 (Go.Proofs.YtlnanelejaddiaaDoor.put4 w g' q) g t k := by
  unfold Box8 Go.Proofs.YtlnanelejaddiaaDoor.put4 at *
  rw [Below.heap_setCell _ _ _ _ hg, Below.heap_setCell _ _ _ _ hg, Below.heap_setCell _ _ _ _ hg, Below.heap_setCell _ _ _ _ hg]
  exact h
set_option maxRecDepth 20000 in
set_option maxHeartbeats 4000000 in
theorem anyref_n : ∀ (N : Nat) (t : T) (w : World) (ok : Nat → Prop) (k : Value), SizeOf.sizeOf t ≤ N → WF t → Tree w ok t k →
    Calls Tryd.prog 14 #[nodeP t k] w (RetSetOf w (anyP t)) := by
  intro N
  induction N with
  | zero => intro t w ok k h; obtain ⟨op, p, lo, hi, l⟩ := t; simp at h
  | succ N ih =>
  intro t w ok k hN hwf ht
  obtain ⟨A, n', c, rfl⟩ := ht.form
  obtain ⟨hn, hm⟩ := ht.bound
  have hlen := hwf.len
  rw [← hn] at hlen
  unfold maxLen at hm
  have b1 := ((Box8.new w t (.slice A n' c)).alloc (.cells #[.int .u64 0, .int .u64 0, .int .u64 0, .int .u64 0] 26)).alloc (.cells #[.int .u64 (word t.set 0), .int .u64 (word t.set 1), .int .u64 (word t.set 2), .int .u64 (word t.set 3)] 26)
  have bR := (Box4.new0 (w.alloc (.cells #[.int .i64 t.op, .int .u64 (word t.set 0), .int .u64 (word t.set 1), .int .u64 (word t.set 2), .int .u64 (word t.set 3), .int .i64 t.lo, .int .i64 t.hi, .slice A n' c] 29))).alloc (.cells #[.int .u64 (word t.set 0), .int .u64 (word t.set 1), .int .u64 (word t.set 2), .int .u64 (word t.set 3)] 26)
  have bS := Box4.new ((w.alloc (.cells #[.int .i64 t.op, .int .u64 (word t.set 0), .int .u64 (word t.set 1), .int .u64 (word t.set 2), .int .u64 (word t.set 3), .int .i64 t.lo, .int .i64 t.hi, .slice A n' c] 29)).alloc (.cells #[.int .u64 0, .int .u64 0, .int .u64 0, .int .u64 0] 26)) t.set
  have hB : Below w.heap.size w (((w.alloc (.cells #[.int .i64 t.op, .int .u64 (word t.set 0), .int .u64 (word t.set 1), .int .u64 (word t.set 2), .int .u64 (word t.set 3), .int .i64 t.lo, .int .i64 t.hi, .slice A n' c] 29)).alloc (.cells #[.int .u64 0, .int .u64 0, .int .u64 0, .int .u64 0] 26)).alloc (.cells #[.int .u64 (word t.set 0), .int .u64 (word t.set 1), .int .u64 (word t.set 2), .int .u64 (word t.set 3)] 26)) := (((Below.refl _ _).alloc (Nat.le_refl _) _).alloc (by simp) _).alloc (by simp; omega) _
  rw [World.size_alloc] at bR bS
  rw [World.size_alloc] at bS
  have HN := Lib.hid hn
  have HT := Lib.hid ht
  have HWF := Lib.hid hwf
  have HB1 := Lib.hid b1
  have HBR := Lib.hid bR
  have HBS := Lib.hid bS
  have IH := Lib.hid ih
  clear hn ih hwf ht b1 bR bS
  unfold nodeP
  go_enter Tryd.func14, Tryd.ntmps14
  go_wp2
  go_loopg [4] n' (fun m i wr => ∃ j : Nat, i = .int .i64 (j : Int) ∧ j ≤ n' ∧ m = n' - j ∧ Box8 wr w.heap.size t (.slice A n' c) ∧ Box4 wr (w.heap.size + 1) noneP ∧ Box4 wr (w.heap.size + 1 + 1) (orP t.set (anyL (t.kids.take j))) ∧ Below w.heap.size w wr)
  case atStart => exact ⟨0, rfl, Nat.zero_le _, rfl, HB1.out, HBR.out, HBS.out.congr fun x _ => by simp [orP, anyL], hB⟩
  case round =>
    obtain ⟨j, rfl, hj, hmj, x1, xR, xS, hW⟩ := hrel
    have HMJ := Lib.hid hmj
    obtain ⟨c0, c1, c2, c3, c4, c5, c6, c7⟩ := x1.cell
    obtain ⟨s0, s1, s2, s3⟩ := xS.cell
    obtain ⟨f0, f1, f2, f3⟩ := xS.frozen
    clear hmj
    by_cases hlt : j < n'
    · have hlt' : j < t.kids.length := by rw [← HN.out]; exact hlt
      obtain ⟨g, B, m1, m2, e1, hg1, htk, hcells⟩ := kid8 HT.out j (List.getElem?_eq_getElem hlt')
      subst e1
      have hks := kid_size t j hlt'
      have hwk := HWF.out.at j hlt'
      have hst := anyL_take t.kids j hlt'
      generalize t.kids[j] = u at *
      have HC : ∀ q v, (nodeC u (.slice B m1 m2))[q]? = some v → wr.cell? ⟨g, j * 8 + q, none⟩ = some v := fun q v h => by rw [Nat.mul_comm j 8]; exact (hW.cell (p := ⟨g, 8 * j + q, none⟩) hg1).trans (hcells q v h)
      have k0 : wr.cell? ⟨g, j * 8, none⟩ = _ := HC 0 _ rfl
      have k1 := HC 1 _ rfl
      have k2 := HC 2 _ rfl
      have k3 := HC 3 _ rfl
      have k4 := HC 4 _ rfl
      have k5 := HC 5 _ rfl
      have k6 := HC 6 _ rfl
      have k7 := HC 7 _ rfl
      have HK := Lib.hid (fun w' (hb : Below wr.heap.size wr w') => IH.out u w' ok (.slice B m1 m2) (by omega) hwk ((htk.stays hW).stays hb))
      have HST := Lib.hid hst
      have j0 : (0 : Int) ≤ (j : Int) := by omega
      have j1 : (j : Int) < (n' : Int) := by omega
      clear HC hcells htk hks hwk hst
      unfold nodeP RetSetOf at HK
      generalize hq : orP t.set (anyL (t.kids.take j)) = q at *
      have HQ := Lib.hid hq
      clear hq
      go_wp2_with fail
      go_region_law (first
        | (go_simp; go_at_call 14; (with_reducible refine (HK.out _ (by first | exact (Below.refl _ _).drew | exact Below.refl _ _)).mono ?_); rintro e w5 ⟨rfl, hb5⟩; unfold setV; have hb5' := undrew hb5; obtain ⟨n0, n1, n2, n3⟩ := (xS.stays hb5').cell)
        | (go_simp; go_at_call 28; (with_reducible refine (ror_p q (anyP u) _).mono ?_); rintro e w6 ⟨rfl, hb6⟩; unfold setV; obtain ⟨z0, z1, z2, z3⟩ := ((xS.stays hb5').stays hb6).cell; obtain ⟨y0, y1, y2, y3⟩ := ((xS.stays hb5').stays hb6).frozen))
      all_goals
        go_wp2
        go_roundg (n' - (j + 1))
        case measure => have := HMJ.out; omega
        case rel =>
          have hz := hW.size
          refine ⟨j + 1, by go_num, by omega, rfl, ((x1.stays hb5').stays hb6).put4 (by omega) _, ((xR.stays hb5').stays hb6).putFar (by omega) _, (((xS.stays hb5').stays hb6).put (orP q (anyP u))).congr (fun x _ => ?_), below_put4 (gro (gro hW hb5') hb6) (by omega) _⟩
          rw [← HQ.out]
          simp [orP, HST.out x, Bool.or_assoc]
    · have hjn : j = t.kids.length := by rw [← HN.out]; omega
      have hwhole : t.kids.take j = t.kids := by rw [hjn]; exact List.take_length
      rw [hwhole, ← anyP_eq] at xS
      clear s0 s1 s2 s3 f0 f1 f2 f3
      obtain ⟨s0, s1, s2, s3⟩ := xS.cell
      obtain ⟨r0, r1, r2, r3⟩ := xR.frozen
      obtain ⟨r4, r5, r6, r7⟩ := xR.cell
      have hz := hW.size
      have hlr := xR.lt
      go_wp2
      have y := (xR.put (anyP t)).cell
      unfold put4 at y
      obtain ⟨y0, y1, y2, y3⟩ := y
      refine bodyPost_ret (v := setV (anyP t)) ?_ rfl ⟨rfl, below_put4 (g := w.heap.size + 1) hW (by omega) (anyP t)⟩
      unfold setV
      simp [results, Tryd.results14, go_sem, y0, y1, y2, y3]

theorem anyref_p {t : T} {k : Value} {ok : Nat → Prop} (w : World) (hwf : WF t) (ht : Tree w ok t k) : Calls Tryd.prog 14 #[nodeP t k] w (RetSetOf w (anyP t)) :=
  anyref_n _ t w ok k (Nat.le_refl _) hwf ht

end Go.Proofs.YtlnanelejaddiaaDoor

/-
  Package set: Or. Contracts for other texts; no statement of its own.
-/
namespace Go.Proofs.YtlnanelejaddiaaDoor
open Go Go.RowKit

set_option maxHeartbeats 400000 in
theorem or_p (p q : Nat → Bool) (w : World) :
    Calls Tryd.prog 27 #[.agg #[.int .u64 (word p 0), .int .u64 (word p 1), .int .u64 (word p 2), .int .u64 (word p 3)], .agg #[.int .u64 (word q 0), .int .u64 (word q 1), .int .u64 (word q 2), .int .u64 (word q 3)]] w fun e w' => e = .returned (setV (orP p q)) ∧ Below w.heap.size w w' := by
  generalize ha0 : word p 0 = a0
  generalize ha1 : word p 1 = a1
  generalize ha2 : word p 2 = a2
  generalize ha3 : word p 3 = a3
  generalize hb0 : word q 0 = b0
  generalize hb1 : word q 1 = b1
  generalize hb2 : word q 2 = b2
  generalize hb3 : word q 3 = b3
  have hv : setV (orP p q) = .agg #[.int .u64 (bits .or .u64 a0 b0), .int .u64 (bits .or .u64 a1 b1), .int .u64 (bits .or .u64 a2 b2), .int .u64 (bits .or .u64 a3 b3)] := by
    unfold setV
    rw [← or_words, ← or_words, ← or_words, ← or_words, ha0, ha1, ha2, ha3, hb0, hb1, hb2, hb3]
  rw [hv]
  clear hv ha0 ha1 ha2 ha3 hb0 hb1 hb2 hb3
  have i0 : ∀ w : World, (Instr.index 26 (.agg #[.int .u64 b0, .int .u64 b1, .int .u64 b2, .int .u64 b3]) (.int .i64 0)).run Tryd.prog w = .ok (.int .u64 b0) w := fun _ => by kernel_rfl
  have i1 : ∀ w : World, (Instr.index 26 (.agg #[.int .u64 b0, .int .u64 b1, .int .u64 b2, .int .u64 b3]) (.int .i64 1)).run Tryd.prog w = .ok (.int .u64 b1) w := fun _ => by kernel_rfl
  have i2 : ∀ w : World, (Instr.index 26 (.agg #[.int .u64 b0, .int .u64 b1, .int .u64 b2, .int .u64 b3]) (.int .i64 2)).run Tryd.prog w = .ok (.int .u64 b2) w := fun _ => by kernel_rfl
  have i3 : ∀ w : World, (Instr.index 26 (.agg #[.int .u64 b0, .int .u64 b1, .int .u64 b2, .int .u64 b3]) (.int .i64 3)).run Tryd.prog w = .ok (.int .u64 b3) w := fun _ => by kernel_rfl
  go_enter Tryd.func27, Tryd.ntmps27
  go_wp2
  refine wp_loop_rounds 5 ?_
  iterate 5 (rw [rounds_succ]; go_wp2)
  refine bodyPost_ret (v := .agg #[.int .u64 (bits .or .u64 a0 b0), .int .u64 (bits .or .u64 a1 b1), .int .u64 (bits .or .u64 a2 b2), .int .u64 (bits .or .u64 a3 b3)]) ?_ rfl ⟨rfl, ?_⟩
  · simp [results, Tryd.results27, go_sem]
  · exact ((((Below.refl _ _).alloc (Nat.le_refl _) _).alloc (by simp) _).alloc (by simp; omega) _)

end Go.Proofs.YtlnanelejaddiaaDoor

/-
  lang.Any: all bytes of all sets. Contracts for other texts; no statement of its own.
-/
namespace Go.Proofs.YtlnanelejaddiaaDoor
open Go Go.RowKit
attribute [local go_sem ↓] Go.wp_at_zero Go.wp_at_succ

set_option maxRecDepth 20000 in
set_option maxHeartbeats 4000000 in
theorem langany_n : ∀ (N : Nat) (t : T) (w : World) (ok : Nat → Prop) (k : Value), SizeOf.sizeOf t ≤ N → WF t → Tree w ok t k →
    Calls Tryd.prog 13 #[nodeP t k] w (RetSetOf w (anyP t)) := by
  intro N
  induction N with
  | zero => intro t w ok k h; obtain ⟨op, p, lo, hi, l⟩ := t; simp at h
  | succ N ih =>
  intro t w ok k hN hwf ht
  obtain ⟨A, n', c, rfl⟩ := ht.form
  obtain ⟨hn, hm⟩ := ht.bound
  have hlen := hwf.len
  rw [← hn] at hlen
  unfold maxLen at hm
  have b1 := ((Box8.new w t (.slice A n' c)).alloc (.cells #[.int .u64 0, .int .u64 0, .int .u64 0, .int .u64 0] 26)).alloc (.cells #[.int .u64 (word t.set 0), .int .u64 (word t.set 1), .int .u64 (word t.set 2), .int .u64 (word t.set 3)] 26)
  have bR := (Box4.new0 (w.alloc (.cells #[.int .i64 t.op, .int .u64 (word t.set 0), .int .u64 (word t.set 1), .int .u64 (word t.set 2), .int .u64 (word t.set 3), .int .i64 t.lo, .int .i64 t.hi, .slice A n' c] 29))).alloc (.cells #[.int .u64 (word t.set 0), .int .u64 (word t.set 1), .int .u64 (word t.set 2), .int .u64 (word t.set 3)] 26)
  have bS := Box4.new ((w.alloc (.cells #[.int .i64 t.op, .int .u64 (word t.set 0), .int .u64 (word t.set 1), .int .u64 (word t.set 2), .int .u64 (word t.set 3), .int .i64 t.lo, .int .i64 t.hi, .slice A n' c] 29)).alloc (.cells #[.int .u64 0, .int .u64 0, .int .u64 0, .int .u64 0] 26)) t.set
  have hB : Below w.heap.size w (((w.alloc (.cells #[.int .i64 t.op, .int .u64 (word t.set 0), .int .u64 (word t.set 1), .int .u64 (word t.set 2), .int .u64 (word t.set 3), .int .i64 t.lo, .int .i64 t.hi, .slice A n' c] 29)).alloc (.cells #[.int .u64 0, .int .u64 0, .int .u64 0, .int .u64 0] 26)).alloc (.cells #[.int .u64 (word t.set 0), .int .u64 (word t.set 1), .int .u64 (word t.set 2), .int .u64 (word t.set 3)] 26)) := (((Below.refl _ _).alloc (Nat.le_refl _) _).alloc (by simp) _).alloc (by simp; omega) _
  rw [World.size_alloc] at bR bS
  rw [World.size_alloc] at bS
  have HN := Lib.hid hn
  have HT := Lib.hid ht
  have HWF := Lib.hid hwf
  have HB1 := Lib.hid b1
  have HBR := Lib.hid bR
  have HBS := Lib.hid bS
  have IH := Lib.hid ih
  clear hn ih hwf ht b1 bR bS
  unfold nodeP
  go_enter Tryd.func13, Tryd.ntmps13
  go_wp2
  go_loopg [11] n' (fun m i wr => ∃ j : Nat, i = .int .i64 (j : Int) ∧ j ≤ n' ∧ m = n' - j ∧ Box8 wr w.heap.size t (.slice A n' c) ∧ Box4 wr (w.heap.size + 1) noneP ∧ Box4 wr (w.heap.size + 1 + 1) (orP t.set (anyL (t.kids.take j))) ∧ Below w.heap.size w wr)
  case atStart => exact ⟨0, rfl, Nat.zero_le _, rfl, HB1.out, HBR.out, HBS.out.congr fun x _ => by simp [orP, anyL], hB⟩
  case round =>
    obtain ⟨j, rfl, hj, hmj, x1, xR, xS, hW⟩ := hrel
    have HMJ := Lib.hid hmj
    obtain ⟨c0, c1, c2, c3, c4, c5, c6, c7⟩ := x1.cell
    obtain ⟨s0, s1, s2, s3⟩ := xS.cell
    obtain ⟨f0, f1, f2, f3⟩ := xS.frozen
    clear hmj
    by_cases hlt : j < n'
    · have hlt' : j < t.kids.length := by rw [← HN.out]; exact hlt
      obtain ⟨g, B, m1, m2, e1, hg1, htk, hcells⟩ := kid8 HT.out j (List.getElem?_eq_getElem hlt')
      subst e1
      have hks := kid_size t j hlt'
      have hwk := HWF.out.at j hlt'
      have hst := anyL_take t.kids j hlt'
      generalize t.kids[j] = u at *
      have HC : ∀ q v, (nodeC u (.slice B m1 m2))[q]? = some v → wr.cell? ⟨g, j * 8 + q, none⟩ = some v := fun q v h => by rw [Nat.mul_comm j 8]; exact (hW.cell (p := ⟨g, 8 * j + q, none⟩) hg1).trans (hcells q v h)
      have k0 : wr.cell? ⟨g, j * 8, none⟩ = _ := HC 0 _ rfl
      have k1 := HC 1 _ rfl
      have k2 := HC 2 _ rfl
      have k3 := HC 3 _ rfl
      have k4 := HC 4 _ rfl
      have k5 := HC 5 _ rfl
      have k6 := HC 6 _ rfl
      have k7 := HC 7 _ rfl
      have HK := Lib.hid (fun w' (hb : Below wr.heap.size wr w') => IH.out u w' ok (.slice B m1 m2) (by omega) hwk ((htk.stays hW).stays hb))
      have HST := Lib.hid hst
      have j0 : (0 : Int) ≤ (j : Int) := by omega
      have j1 : (j : Int) < (n' : Int) := by omega
      clear HC hcells htk hks hwk hst
      unfold nodeP RetSetOf at HK
      generalize hq : orP t.set (anyL (t.kids.take j)) = q at *
      have HQ := Lib.hid hq
      clear hq
      have hls := xS.lt
      go_wp2_with fail
      go_region_law (first
        | (go_simp; go_at_call 13; (with_reducible refine (HK.out _ (by first | exact ((Below.refl _ _).alloc (Nat.le_refl _) _).drew | exact (Below.refl _ _).alloc (Nat.le_refl _) _)).mono ?_); rintro e w5 ⟨rfl, hb5⟩; unfold setV; have hb5' := undrew hb5; obtain ⟨n0, n1, n2, n3⟩ := ((xS.alloc _).stays hb5').cell)
        | (go_simp; go_at_call 27; (with_reducible refine (or_p q (anyP u) _).mono ?_); rintro e w6 ⟨rfl, hb6⟩; unfold setV; obtain ⟨z0, z1, z2, z3⟩ := (((xS.alloc _).stays hb5').stays hb6).cell; obtain ⟨y0, y1, y2, y3⟩ := (((xS.alloc _).stays hb5').stays hb6).frozen))
      all_goals
        go_wp2
        go_roundg (n' - (j + 1))
        case measure => have := HMJ.out; omega
        case rel =>
          have hz := hW.size
          refine ⟨j + 1, by go_num, by omega, rfl, (((x1.alloc _).stays hb5').stays hb6).put4 (by omega) _, (((xR.alloc _).stays hb5').stays hb6).putFar (by omega) _, ((((xS.alloc _).stays hb5').stays hb6).put (orP q (anyP u))).congr (fun x _ => ?_), below_put4 (gro (gro1 hW hb5') hb6) (by omega) _⟩
          rw [← HQ.out]
          simp [orP, HST.out x, Bool.or_assoc]
    · have hjn : j = t.kids.length := by rw [← HN.out]; omega
      have hwhole : t.kids.take j = t.kids := by rw [hjn]; exact List.take_length
      rw [hwhole, ← anyP_eq] at xS
      clear s0 s1 s2 s3 f0 f1 f2 f3
      obtain ⟨s0, s1, s2, s3⟩ := xS.cell
      obtain ⟨r0, r1, r2, r3⟩ := xR.frozen
      obtain ⟨r4, r5, r6, r7⟩ := xR.cell
      have hz := hW.size
      have hlr := xR.lt
      go_wp2
      have y := (xR.put (anyP t)).cell
      unfold put4 at y
      obtain ⟨y0, y1, y2, y3⟩ := y
      refine bodyPost_ret (v := setV (anyP t)) ?_ rfl ⟨rfl, below_put4 (g := w.heap.size + 1) hW (by omega) (anyP t)⟩
      unfold setV
      simp [results, Tryd.results13, go_sem, y0, y1, y2, y3]

theorem langany_p {t : T} {k : Value} {ok : Nat → Prop} (w : World) (hwf : WF t) (ht : Tree w ok t k) : Calls Tryd.prog 13 #[nodeP t k] w (RetSetOf w (anyP t)) :=
  langany_n _ t w ok k (Nat.le_refl _) hwf ht

end Go.Proofs.YtlnanelejaddiaaDoor

/-
  The document's own Ends: of a kid many times. Contracts for other texts; no statement of its own.
-/
namespace Go.Proofs.YtlnanelejaddiaaDoor
open Go Go.RowKit
attribute [local go_sem ↓] Go.wp_at_zero Go.wp_at_succ

theorem Two.lo1 {w : World} {B C : Nat} {vo vl : Value} {lo l : List Int} (h : Two w B vo lo C vl l) {r : Nat} (hr : r < l.length) : C < w.heap.size := by
  obtain ⟨g, c, _, h1, h2, _⟩ := h.one.at r hr
  omega
/-- A repetition, found step by step: all times from the least on, below j. -/
def outP (Rl : Nat → Nat → Prop) (lo j i : Nat) : Nat → Prop := fun x => ∃ m, lo ≤ m ∧ m < j ∧ iter Rl m i x
theorem outP_succ (Rl : Nat → Nat → Prop) (lo j i : Nat) (h : lo ≤ j) (x : Nat) : outP Rl lo j i x ∨ iter Rl j i x ↔ outP Rl lo (j + 1) i x := by
  constructor
  · rintro (⟨m, h1, h2, h3⟩ | h3)
    · exact ⟨m, h1, by omega, h3⟩
    · exact ⟨j, h, by omega, h3⟩
  · rintro ⟨m, h1, h2, h3⟩
    by_cases e : m = j
    · subst e; exact .inr h3
    · exact .inl ⟨m, h1, by omega, h3⟩
theorem outP_none (Rl : Nat → Nat → Prop) (lo j i : Nat) (h : ¬ lo ≤ j) (x : Nat) : outP Rl lo j i x ↔ outP Rl lo (j + 1) i x := by
  constructor
  · rintro ⟨m, h1, h2, _⟩; omega
  · rintro ⟨m, h1, h2, _⟩; omega
/-- It stays, once it stays. -/
theorem iter_stay {Rl : Nat → Nat → Prop} {i j : Nat} (h : ∀ x, iter Rl (j + 1) i x ↔ iter Rl j i x) : ∀ (d x : Nat), iter Rl (j + d) i x ↔ iter Rl j i x
  | 0, x => Iff.rfl
  | d + 1, x => by
    rw [← h x]
    constructor
    · rintro ⟨y, h1, h2⟩; exact ⟨y, (iter_stay h d y).1 h1, h2⟩
    · rintro ⟨y, h1, h2⟩; exact ⟨y, (iter_stay h d y).2 h1, h2⟩
theorem outP_stop {Rl : Nat → Nat → Prop} {lo hi j i : Nat} (hj : j < hi) (hl : lo ≤ hi) (h : ∀ x, iter Rl (j + 1) i x ↔ iter Rl j i x) (x : Nat) :
    outP Rl lo (j + 1) i x ∨ iter Rl (j + 1) i x ↔ ∃ m, lo ≤ m ∧ m ≤ hi ∧ iter Rl m i x := by
  constructor
  · rintro (⟨m, h1, h2, h3⟩ | h3)
    · exact ⟨m, h1, by omega, h3⟩
    · by_cases hlj : lo ≤ j + 1
      · exact ⟨j + 1, hlj, by omega, h3⟩
      · refine ⟨lo, Nat.le_refl _, hl, ?_⟩
        rw [show lo = j + (lo - j) by omega, iter_stay h]
        exact (h x).1 h3
  · rintro ⟨m, h1, h2, h3⟩
    by_cases hm : m < j + 1
    · exact .inl ⟨m, h1, hm, h3⟩
    · right
      rw [show m = j + (m - j) by omega, iter_stay h] at h3
      exact (h x).2 h3
theorem outP_all (Rl : Nat → Nat → Prop) (lo hi i : Nat) (hl : lo ≤ hi) (x : Nat) : outP Rl lo hi i x ∨ iter Rl hi i x ↔ ∃ m, lo ≤ m ∧ m ≤ hi ∧ iter Rl m i x := by
  rw [outP_succ Rl lo hi i hl x]
  constructor
  · rintro ⟨m, h1, h2, h3⟩; exact ⟨m, h1, by omega, h3⟩
  · rintro ⟨m, h1, h2, h3⟩; exact ⟨m, h1, by omega, h3⟩

set_option maxRecDepth 20000 in
set_option maxHeartbeats 8000000 in
theorem ends_rep {N : Nat} (ih : EndsFor N) {w : World} {ok : Nat → Prop} {t : T} {k : Value} {xs : List Int} {A : Option Addr} {i c : Nat} (hN : SizeOf.sizeOf t ≤ N + 1) (h : EndsAsk w ok t k xs A i) (h4 : t.op = 4) :
    Calls Tryd.prog 26 #[nodeP t k, .slice A xs.length c, .int .i64 i] w (RetEnds w (E xs t i)) := by
  obtain ⟨u, hu⟩ : ∃ u, t.kids = [u] := by
    rcases h.wf.op_cases with h' | h' | h' | h'
    · omega
    · omega
    · omega
    · exact List.length_eq_one_iff.1 h'.2.1
  obtain ⟨lo, hi, hlo, hhi, hlh, hhi2, hhi1⟩ : ∃ lo hi : Nat, t.lo = lo ∧ t.hi = hi ∧ lo ≤ hi ∧ hi ≤ 32 ∧ 1 ≤ hi := by
    rcases h.wf.op_cases with h' | h' | h' | h'
    · omega
    · omega
    · omega
    · exact ⟨t.lo.toNat, t.hi.toNat, by omega, by omega, by omega, by omega, by omega⟩
  have hE : ∀ j, E xs t i j ↔ ∃ m, lo ≤ m ∧ m ≤ hi ∧ iter (E xs u) m i j := by
    intro j
    cases t with
    | mk op p lo' hi' l =>
      have e : op = 4 := h4
      have e1 : l = [u] := hu
      have e2 : lo' = lo := hlo
      have e3 : hi' = hi := hhi
      subst e e1 e2 e3
      rw [E_rep, EAny_one]
      constructor
      · rintro ⟨m, h1, h2, h3⟩; exact ⟨m, by omega, by omega, h3⟩
      · rintro ⟨m, h1, h2, h3⟩; exact ⟨m, by omega, by omega, h3⟩
  obtain ⟨A', n', c', rfl⟩ := h.tree.form
  obtain ⟨hn, hm⟩ := h.tree.bound
  rw [hu] at hn
  have hn1 : n' = 1 := hn
  subst hn1
  have hb1 : (t.op == 1) = false := by simp [h4]
  have hb2 : (t.op == 2) = false := by simp [h4]
  have hb3 : (t.op == 3) = false := by simp [h4]
  have hb4 : (t.op == 4) = true := by simp [h4]
  have hlen := h.len
  have hile := h.le
  have hum : u ∈ t.kids := by rw [hu]; simp
  have hwu := h.wf.kid hum
  have hpb : ∀ m x, iter (E xs u) m i x → x ≤ xs.length := fun m x hx => (iter_bd (E_bd hwu) m i x hile hx).2
  have b1 := Box8.new w t (.slice A' 1 c')
  have hB : Below w.heap.size w (w.alloc (.cells #[.int .i64 t.op, .int .u64 (word t.set 0), .int .u64 (word t.set 1), .int .u64 (word t.set 2), .int .u64 (word t.set 3), .int .i64 t.lo, .int .i64 t.hi, .slice A' 1 c'] 29)) := (Below.refl _ _).alloc (Nat.le_refl _) _
  obtain ⟨g0, B, m1, m2, e0, hg0, htk, hcells⟩ := kid8 h.tree 0 (u := u) (by rw [hu]; rfl)
  subst e0
  have hks : SizeOf.sizeOf u < SizeOf.sizeOf t := by
    have := kid_size t 0 (by rw [hu]; simp)
    simpa [hu] using this
  have hCz : ∀ q v, (nodeC u (.slice B m1 m2))[q]? = some v → w.cell? ⟨g0, q, none⟩ = some v := fun q v h => by
    have := hcells q v h
    rwa [Nat.mul_zero, Nat.zero_add] at this
  have HE := Lib.hid hE
  have HH := Lib.hid h
  have IH := Lib.hid ih
  have HB1 := Lib.hid b1
  have HPBm := Lib.hid hpb
  have HC0 := Lib.hid hCz
  have HTK := Lib.hid htk
  have HLO := Lib.hid hlo
  have HHI := Lib.hid hhi
  unfold EndsFor at IH
  clear hE h4 hn h ih b1 hpb hcells htk hCz hu hm
  generalize hL : xs.length = L at *
  have HL := Lib.hid hL
  clear hL
  rw [hlo, hhi] at HB1 hB
  unfold nodeP
  rw [hlo, hhi]
  clear hlo hhi
  go_enter Tryd.func26, Tryd.ntmps26
  go_wp2
  have hW0 : Below w.heap.size w ((w.alloc (.cells #[.int .i64 t.op, .int .u64 (word t.set 0), .int .u64 (word t.set 1), .int .u64 (word t.set 2), .int .u64 (word t.set 3), .int .i64 lo, .int .i64 hi, .slice (some ⟨g0, 0, none⟩) 1 c'] 29)).alloc (.cells #[.int .i64 i] 3)) := hB.alloc hB.size _
  have hI0 : Ints ((w.alloc (.cells #[.int .i64 t.op, .int .u64 (word t.set 0), .int .u64 (word t.set 1), .int .u64 (word t.set 2), .int .u64 (word t.set 3), .int .i64 lo, .int .i64 hi, .slice (some ⟨g0, 0, none⟩) 1 c'] 29)).alloc (.cells #[.int .i64 i] 3)) (w.heap.size + 1) (.slice (some ⟨w.heap.size + 1, 0, none⟩) 1 1) [(i : Int)] := by
    have h := World.ownsRow_lit (base := w.heap.size + 1) (e := 3) (size := 1) (w.alloc (.cells #[.int .i64 t.op, .int .u64 (word t.set 0), .int .u64 (word t.set 1), .int .u64 (word t.set 2), .int .u64 (word t.set 3), .int .i64 lo, .int .i64 hi, .slice (some ⟨g0, 0, none⟩) 1 c'] 29)) #[.int .i64 (i : Int)] 1 (by simp) (by decide) rfl
    rw [World.size_alloc] at h
    exact h
  go_loopg [12, 13, 15] hi (fun m o out i' wr => ∃ (j : Nat) (ln lx0 : List Int), i' = .int .i64 (j : Int) ∧ j ≤ hi ∧ m = hi - j ∧ Two wr (w.heap.size + 1) out lx0 (w.heap.size + 1) o ln ∧ Lists (outP (E xs u) lo j i) lx0 ∧ Lists (iter (E xs u) j i) ln ∧ Box8 wr w.heap.size t (.slice (some ⟨g0, 0, none⟩) 1 c') ∧ Below w.heap.size w wr)
  case atStart => exact ⟨0, [(i : Int)], [], rfl, Nat.zero_le _, rfl, ⟨Ints.nil _ _, hI0, fun g e => by cases e⟩, Lists.nil.congr fun x => ⟨fun h => h.elim, fun ⟨m, h1, h2, _⟩ => by omega⟩, (Lists.one i).congr fun j => eq_comm, HB1.out.alloc _, hW0⟩
  case round =>
    obtain ⟨j, ln, lo0, rfl, hj, hmj, htw0, hls0, hls, x1, hW⟩ := hrel
    have HMJ := Lib.hid hmj
    have HLS := Lib.hid hls
    have HLS0 := Lib.hid hls0
    have HTW0 := Lib.hid htw0
    have HPB := Lib.hid (HPBm.out j)
    have HPB1 := Lib.hid (HPBm.out (j + 1))
    have hnl : ln.length ≤ L + 1 := hls.len fun x hx => HPB.out x hx
    have hol : lo0.length ≤ L + 1 := hls0.len fun x hx => by
      obtain ⟨m, _, _, hm⟩ := hx
      exact HPBm.out m x hm
    obtain ⟨An, cn, hform⟩ := htw0.one.form
    subst hform
    obtain ⟨c0, c1, c2, c3, c4, c5, c6, c7⟩ := x1.cell
    rw [HLO.out] at c5
    rw [HHI.out] at c6
    have HX1 := Lib.hid x1
    clear hmj hls hls0 htw0 x1
    by_cases hlt : j < hi
    · have z0 := cell_stays (HC0.out 0 _ rfl) hW
      have z1 := cell_stays (HC0.out 1 _ rfl) hW
      have z2 := cell_stays (HC0.out 2 _ rfl) hW
      have z3 := cell_stays (HC0.out 3 _ rfl) hW
      have z4 := cell_stays (HC0.out 4 _ rfl) hW
      have z5 := cell_stays (HC0.out 5 _ rfl) hW
      have z6 := cell_stays (HC0.out 6 _ rfl) hW
      have z7 := cell_stays (HC0.out 7 _ rfl) hW
      have hg2 : g0 < wr.heap.size := Nat.lt_of_lt_of_le hg0 hW.size
      have hw2 : w.heap.size < wr.heap.size := HX1.out.lt
      generalize hln : ln.length = M at *
      have HLN := Lib.hid hln
      clear hln
      have bk := Box8.new wr u (.slice B m1 m2)
      have hb3' : Below wr.heap.size wr (wr.alloc (.cells #[.int .i64 u.op, .int .u64 (word u.set 0), .int .u64 (word u.set 1), .int .u64 (word u.set 2), .int .u64 (word u.set 3), .int .i64 u.lo, .int .i64 u.hi, .slice B m1 m2] 29)) := (Below.refl _ _).alloc (Nat.le_refl _) _
      go_upto_region 30 with fail
      clear z0 z1 z2 z3 z4 z5 z6 z7 c0 c1 c2 c3 c4 c5 c6 c7
      have hT3 : Two (wr.alloc (.cells #[.int .i64 u.op, .int .u64 (word u.set 0), .int .u64 (word u.set 1), .int .u64 (word u.set 2), .int .u64 (word u.set 3), .int .i64 u.lo, .int .i64 u.hi, .slice B m1 m2] 29)) (w.heap.size + 1) u13 lo0 (w.heap.size + 1) (.slice An M cn) ln := ⟨HTW0.out.out.stays hb3', HTW0.out.one.stays hb3', HTW0.out.apart⟩
      have hK3 : ∀ g, u13.ownBlock = some g → g ≠ wr.heap.size := fun g e => by have := (World.ownsRow.lt HTW0.out.out g e).2; omega
      have hW3 := gro hW hb3'
      have x3 := HX1.out.stays hb3'
      generalize wr.alloc (.cells #[.int .i64 u.op, .int .u64 (word u.set 0), .int .u64 (word u.set 1), .int .u64 (word u.set 2), .int .u64 (word u.set 3), .int .i64 u.lo, .int .i64 u.hi, .slice B m1 m2] 29) = w3 at *
      have BK := Lib.hid bk
      have HX3 := Lib.hid x3
      have HT3 := Lib.hid hT3
      have HK3 := Lib.hid hK3
      have hw3 : wr.heap.size < w3.heap.size := bk.lt
      obtain ⟨c0, c1, c2, c3, c4, c5, c6, c7⟩ := x3.cell
      rw [HLO.out] at c5
      rw [HHI.out] at c6
      clear bk x3 hT3 hK3 HTW0 HX1 hb3' hW hg2
      generalize wr.heap.size = Kb at *
      go_cut [109] from 84 to 176 (fun s109 wx => s109 = .bool (decide (lo ≤ j)) ∧ w3 = wx)
      case first =>
        by_cases hlj : lo ≤ j
        all_goals
          go_wp2
          go_meet
          exact ⟨congrArg Value.bool (by simp [hlj]), rfl⟩
      case rest =>
      obtain ⟨hs109, hcw⟩ := hcut
      subst hcw
      go_upto_if 109 with fail
      go_cut [13, 17] from 84 to 176 (fun s13 s17 wx => ∃ lo1 : List Int, Two wx (w.heap.size + 1) s13 lo1 (w.heap.size + 1) (.slice An M cn) ln ∧ Lists (outP (E xs u) lo (j + 1) i) lo1 ∧ Box8 wx Kb u (.slice B m1 m2) ∧ Box8 wx w.heap.size t (.slice (some ⟨g0, 0, none⟩) 1 c') ∧ Below w.heap.size w wx)
      case first =>
        by_cases hlj : lo ≤ j
        · rw [decide_eq_true hlj] at hs109
          subst hs109
          go_wp2
          clear c0 c1 c2 c3 c4 c5 c6 c7
          go_loopg [13, 17] M (fun m' o' kk wq => ∃ r : Nat, kk = .int .i64 (r : Int) ∧ r ≤ M ∧ m' = M - r ∧ Two wq (w.heap.size + 1) o' (addAll lo0 (ln.take r)) (w.heap.size + 1) (.slice An M cn) ln ∧ Box8 wq Kb u (.slice B m1 m2) ∧ Box8 wq w.heap.size t (.slice (some ⟨g0, 0, none⟩) 1 c') ∧ (∀ g, o'.ownBlock = some g → g ≠ Kb) ∧ Below w.heap.size w wq)
          case atStart => exact ⟨0, rfl, Nat.zero_le _, rfl, HT3.out, BK.out, HX3.out, HK3.out, hW3⟩
          case round =>
            obtain ⟨r, rfl, hr, hmr, htw, bkr, xr, hkr, hWr⟩ := hrel
            have HMR := Lib.hid hmr
            have HTW := Lib.hid htw
            have BKR := Lib.hid bkr
            have HXR := Lib.hid xr
            have HKR := Lib.hid hkr
            clear hmr htw bkr xr hkr
            by_cases hrt : r < M
            · have hrt' : r < ln.length := by rw [HLN.out]; exact hrt
              obtain ⟨gl, cl', e2, _, _, hc2⟩ := HTW.out.one.at r hrt'
              injection e2 with e3 e4 e5
              subst e3 e5
              clear e4
              have hat := addAll_take lo0 ln r hrt'
              generalize ln[r]'hrt' = x at *
              have HAT := Lib.hid hat
              have hsz : (addAll lo0 (ln.take r)).length ≤ 1000000 := by
                have h1 := addAll_len (ln.take r) lo0
                rw [List.length_take] at h1
                omega
              have HADD := Lib.hid (add_p wr (w.heap.size + 1) u13 (addAll lo0 (ln.take r)) x HTW.out.out (by have := HTW.out.lo1 hrt'; omega) hsz)
              clear hat hsz
              unfold RetAdd at HADD
              go_wp2_with (go_at_call 41; (with_reducible refine HADD.out.mono ?_); rintro e w6 ⟨v6, rfl, hi6, hg6, hv6⟩)
              go_roundg (M - (r + 1))
              case measure => have := HMR.out; omega
              case rel =>
                have hrow := row_at HTW.out.out
                have hkb := BKR.out.lt
                refine ⟨r + 1, by go_num, by omega, rfl, ?_, BKR.out.grown hg6 (fun e => HKR.out _ e.symm rfl), HXR.out.grown hg6 (fun e => by have := hrow _ e.symm; omega), fun g e => ?_, hWr.grown hg6 hWr.size (fun j e => by have := hrow j e; omega)⟩
                · rw [HAT.out]
                  exact HTW.out.added hi6 hg6 hv6
                · rcases hv6 with hv6 | ⟨g', hv6, hg'⟩
                  · exact HKR.out g (hv6 ▸ e)
                  · rw [hv6] at e
                    injection e with e
                    omega
            · have hqn : ln.take r = ln := List.take_of_length_le (by rw [HLN.out]; omega)
              rw [hqn] at HTW
              go_wp2
              go_meet
              exact ⟨addAll lo0 ln, HTW.out, (HLS0.out.add HLS.out).congr fun x => outP_succ _ lo j i hlj x, BKR.out, HXR.out, hWr⟩
        · rw [decide_eq_false hlj] at hs109
          subst hs109
          go_wp2
          go_meet
          exact ⟨lo0, HT3.out, HLS0.out.congr fun x => outP_none _ lo j i hlj x, BK.out, HX3.out, hW3⟩
      case rest =>
      clear hs109
      obtain ⟨lo1, hT4, hO4, bk4, x4, hW4⟩ := hcut
      clear c0 c1 c2 c3 c4 c5 c6 c7 HT3 HK3 HX3 BK hw3 hW3
      generalize wc = w3 at *
      have hKb : Kb < w3.heap.size := bk4.lt
      have BK := Lib.hid bk4
      have HX3 := Lib.hid x4
      have HI3 := Lib.hid hT4.one
      have HT4 := Lib.hid hT4
      have HO4 := Lib.hid hO4
      have HA3 : Hid (EndsAsk w3 ok u (.slice B m1 m2) xs A 0) := HH.out.kid hum HTK.out hW4 (by omega)
      have hol1 : lo1.length ≤ L + 1 := hO4.len fun x hx => by
        obtain ⟨m, _, _, hm⟩ := hx
        exact HPBm.out m x hm
      obtain ⟨c0, c1, c2, c3, c4, c5, c6, c7⟩ := x4.cell
      rw [HLO.out] at c5
      rw [HHI.out] at c6
      clear bk4 x4 hT4 hO4
      go_wp2
      clear c0 c1 c2 c3 c4 c5 c6 c7
      go_loopg [18, 19] M (fun m' nx kk wq => ∃ (q : Nat) (lx : List Int), kk = .int .i64 (q : Int) ∧ q ≤ M ∧ m' = M - q ∧ Ints wq w3.heap.size nx lx ∧ Lists (fun x => ∃ y : Nat, (y : Int) ∈ ln.take q ∧ E xs u y x) lx ∧ Below w3.heap.size w3 wq)
      case atStart => exact ⟨0, [], rfl, Nat.zero_le _, rfl, Ints.nil _ _, Lists.nil.congr fun x => ⟨fun h => h.elim, fun ⟨y, hy, _⟩ => by simp at hy⟩, Below.refl _ _⟩
      case round =>
        obtain ⟨q, lx, rfl, hq, hmq, hnx, hlx, hWq⟩ := hrel
        have HMQ := Lib.hid hmq
        have HNX := Lib.hid hnx
        have HLX := Lib.hid hlx
        clear hmq hnx hlx
        by_cases hqt : q < M
        · have hqt' : q < ln.length := by rw [HLN.out]; exact hqt
          obtain ⟨gn, cn', e2, _, _, hc2⟩ := (HI3.out.stays hWq).at q hqt'
          injection e2 with e3 e4 e5
          subst e3 e5
          clear e4
          obtain ⟨y, hy, hPy⟩ := HLS.out.bound q hqt'
          have hyL : y ≤ L := HPB.out y hPy
          rw [hy] at hc2
          have hsnoc : ∀ z : Nat, (z : Int) ∈ ln.take (q + 1) ↔ (z : Int) ∈ ln.take q ∨ z = y := by
            intro z
            rw [List.take_succ_eq_append_getElem hqt', hy]
            simp only [List.mem_append, List.mem_singleton]
            constructor
            · rintro (h | h)
              · exact .inl h
              · exact .inr (by omega)
            · rintro (h | h)
              · exact .inl h
              · exact .inr (by omega)
          have HSN := Lib.hid hsnoc
          obtain ⟨b0, b1, b2, b3, b4, b5, b6, b7⟩ := (BK.out.stays hWq).cell
          have q0 : (0 : Int) ≤ (q : Int) := by omega
          have q1 : (q : Int) < (M : Int) := by omega
          have hlxl : lx.length ≤ L + 1 := HLX.out.len fun x hx => by
            obtain ⟨z, hz, hE⟩ := hx
            have hz2 : (z : Int) ∈ ln := List.mem_of_mem_take hz
            obtain ⟨z', e, hP⟩ := (HLS.out.2 _).1 hz2
            have ez : z = z' := by omega
            subst ez
            have := HPB.out z hP
            have := (E_bd HA3.out.wf z x (by rw [HL.out]; exact this) hE).2
            rw [HL.out] at this
            exact this
          have hub : ∀ x, E xs u y x → x ≤ L := fun x hx => by
            have := (E_bd HA3.out.wf y x (by rw [HL.out]; exact hyL) hx).2
            rw [HL.out] at this
            exact this
          have HUB := Lib.hid hub
          have hcall : ∀ W, Below wr.heap.size wr W → Calls Tryd.prog 26 #[nodeP u (.slice B m1 m2), .slice A L c, .int .i64 y] W (fun e w5 => ∃ Al cl l, e = .returned (.slice Al l.length cl) ∧ Two w5 w3.heap.size u18 lx W.heap.size (.slice Al l.length cl) l ∧ Below w3.heap.size w3 w5 ∧ l.length ≤ L + 1 ∧ Lists (E xs u y) l) := fun W hbW => by
            have ha : EndsAsk W ok u (.slice B m1 m2) xs A y := ⟨HA3.out.wf, (HA3.out.tree.stays hWq).stays hbW, ((HA3.out.rd.below hWq).below (hbW.mono hWq.size)).more (Nat.le_trans hWq.size hbW.size), HA3.out.byte, HA3.out.len, by rw [HL.out]; exact hyL⟩
            have hc := IH.out u W ok (.slice B m1 m2) xs A y c (by omega) ha
            rw [HL.out] at hc
            refine hc.mono fun e w5 h5 => ?_
            obtain ⟨vl, l, he, hvl, hlsl, hb5⟩ := h5
            obtain ⟨Al, cl, hform⟩ := hvl.form
            subst hform
            exact ⟨Al, cl, l, he, Two.start (HNX.out.stays hbW) hb5 hvl, gro (gro hWq hbW) hb5, hlsl.len HUB.out, hlsl⟩
          unfold nodeP at hcall
          have HK := Lib.hid hcall
          clear hsnoc hub hcall hPy hyL
          go_wp2_with fail
          go_still_tail 6, (by kernel_rfl)
          change wpList _ _ _ _ _ wr.drew
          go_wp2_with (go_at_call 26; (with_reducible refine (HK.out wr.drew ((Below.refl _ _).drew)).mono ?_); rintro e w5 ⟨Al, cl, l, rfl, htwo, hW5, hll, hlsl⟩; have HLSL := Lib.hid hlsl; clear hlsl)
          have HTWO := Lib.hid htwo
          clear htwo b0 b1 b2 b3 b4 b5 b6 b7 hc2
          generalize hll2 : l.length = M2 at *
          generalize wr.drew.heap.size = C at HTWO
          have HLL := Lib.hid hll2
          clear hll2
          go_loopg [18, 21] M2 (fun m' o' kk wq => ∃ r : Nat, kk = .int .i64 (r : Int) ∧ r ≤ M2 ∧ m' = M2 - r ∧ Two wq w3.heap.size o' (addAll lx (l.take r)) C (.slice Al M2 cl) l ∧ Below w3.heap.size w3 wq)
          case atStart => exact ⟨0, rfl, Nat.zero_le _, rfl, HTWO.out, hW5⟩
          case round =>
            obtain ⟨r, rfl, hr, hmr, htw, hWr⟩ := hrel
            have HMR := Lib.hid hmr
            have HTW := Lib.hid htw
            clear hmr htw
            by_cases hrt : r < M2
            · have hrt' : r < l.length := by rw [HLL.out]; exact hrt
              obtain ⟨gl, cl', e2, _, _, hc2⟩ := HTW.out.one.at r hrt'
              injection e2 with e3 e4 e5
              subst e3 e5
              clear e4
              have hat := addAll_take lx l r hrt'
              generalize l[r]'hrt' = x at *
              have HAT := Lib.hid hat
              have hsz : (addAll lx (l.take r)).length ≤ 1000000 := by
                have h1 := addAll_len (l.take r) lx
                rw [List.length_take] at h1
                omega
              have HADD := Lib.hid (add_p wr w3.heap.size u18 (addAll lx (l.take r)) x HTW.out.out hWr.size hsz)
              clear hat hsz
              unfold RetAdd at HADD
              go_wp2_with (go_at_call 41; (with_reducible refine HADD.out.mono ?_); rintro e w6 ⟨v6, rfl, hi6, hg6, hv6⟩)
              go_roundg (M2 - (r + 1))
              case measure => have := HMR.out; omega
              case rel =>
                refine ⟨r + 1, by go_num, by omega, rfl, ?_, hWr.grown hg6 hWr.size (row_at HTW.out.out)⟩
                rw [HAT.out]
                exact HTW.out.added hi6 hg6 hv6
            · have hqn : l.take r = l := List.take_of_length_le (by rw [HLL.out]; omega)
              rw [hqn] at HTW
              go_wp2
              go_roundg (M - (q + 1))
              case measure => have := HMQ.out; omega
              case rel =>
                refine ⟨q + 1, addAll lx l, by go_num, by omega, rfl, HTW.out.out, (HLX.out.add HLSL.out).congr fun x => ?_, hWr⟩
                constructor
                · rintro (⟨z, h1, h2⟩ | h2)
                  · exact ⟨z, (HSN.out z).2 (.inl h1), h2⟩
                  · exact ⟨y, (HSN.out y).2 (.inr rfl), h2⟩
                · rintro ⟨z, h1, h2⟩
                  rcases (HSN.out z).1 h1 with h1 | rfl
                  · exact .inl ⟨z, h1, h2⟩
                  · exact .inr h2
        · have hqn : ln.take q = ln := List.take_of_length_le (by rw [HLN.out]; omega)
          rw [hqn] at HLX
          have HNEW : Hid (Lists (iter (E xs u) (j + 1) i) lx) := HLX.out.congr fun x => by
            constructor
            · rintro ⟨y, h1, h2⟩
              obtain ⟨y', e, hP⟩ := (HLS.out.2 _).1 h1
              have ey : y = y' := by omega
              subst ey
              exact ⟨y, hP, h2⟩
            · rintro ⟨y, h1, h2⟩
              exact ⟨y, (HLS.out.2 _).2 ⟨y, rfl, h1⟩, h2⟩
          obtain ⟨Ax, cx, hfx⟩ := HNX.out.form
          subst hfx
          generalize hxl : lx.length = X at *
          have HXL := Lib.hid hxl
          clear hqn hxl
          have hlxl : X ≤ L + 1 := by
            rw [← HXL.out]
            exact HNEW.out.len fun x hx => HPB1.out x hx
          go_wp2
          obtain ⟨w4, hw4⟩ : ∃ w4, w4 = wr := ⟨_, rfl⟩
          rw [← hw4] at HNX hWq ⊢
          clear hw4
          have HI4 := Lib.hid (HI3.out.stays hWq)
          have HX4 := Lib.hid (HX3.out.stays hWq)
          have HW4 := Lib.hid (gro hW4 hWq)
          have HT5 : Hid (Two w4 (w.heap.size + 1) u13 lo1 (w.heap.size + 1) (.slice Ax X cx) lx) := ⟨HT4.out.out.stays hWq, HNX.out.lower (by omega), fun g e e' => by
            have h1 := (World.ownsRow.lt HT4.out.out g e).2
            have h2 := (World.ownsRow.lt HNX.out g e').1
            omega⟩
          go_loopg [22, 23] M (fun m' st kk wq => ∃ (r : Nat) (b : Bool), kk = .int .i64 (r : Int) ∧ st = .bool b ∧ r ≤ M ∧ m' = M - r ∧ (b = true → M = X ∧ ∀ k, k < r → ln[k]? = lx[k]?) ∧ Below w4.heap.size w4 wq)
          case atStart => exact ⟨0, _, rfl, rfl, Nat.zero_le _, rfl, fun e => ⟨by have e' := of_decide_eq_true e; omega, fun k hk => by omega⟩, Below.refl _ _⟩
          case round =>
            obtain ⟨r, b, rfl, rfl, hr, hmr, heq, hWr⟩ := hrel
            have HMR := Lib.hid hmr
            have HEQ := Lib.hid heq
            clear hmr heq
            obtain ⟨c0, c1, c2, c3, c4, c5, c6, c7⟩ := (HX4.out.stays hWr).cell
            rw [HLO.out] at c5
            rw [HHI.out] at c6
            cases b
            · by_cases hrt : r < M
              all_goals
                go_wp2
                go_roundg (hi - (j + 1))
                case measure => have := HMJ.out; omega
                case rel => exact ⟨j + 1, lx, lo1, by go_num, by omega, rfl, ⟨HT5.out.out.stays hWr, HT5.out.one.stays hWr, HT5.out.apart⟩, HO4.out, HNEW.out, HX4.out.stays hWr, gro HW4.out hWr⟩
            · have hMX := (HEQ.out rfl).1
              have HPRE := Lib.hid (HEQ.out rfl).2
              by_cases hrt : r < M
              · have hr1 : r < ln.length := by rw [HLN.out]; exact hrt
                have hr2 : r < lx.length := by rw [HXL.out]; omega
                obtain ⟨ga, ca, e2, _, _, hca⟩ := (HI4.out.stays hWr).at r hr1
                have HNX2 := HNX.out.stays hWr
                rw [← HXL.out] at HNX2
                obtain ⟨gb, cb, e6, _, _, hcb⟩ := HNX2.at r hr2
                injection e2 with e3 e4 e5
                injection e6 with e7 e8 e9
                subst e3 e5 e7 e9
                clear e4 e8 HNX2
                have h1 := List.getElem?_eq_getElem hr1
                have h2 := List.getElem?_eq_getElem hr2
                generalize ln[r]'hr1 = x1 at *
                generalize lx[r]'hr2 = x2 at *
                have H1 := Lib.hid h1
                have H2 := Lib.hid h2
                have HMX := Lib.hid hMX
                have r0 : (0 : Int) ≤ (r : Int) := by omega
                have r1 : (r : Int) < (M : Int) := by omega
                have r2 : (r : Int) < (X : Int) := by omega
                clear h1 h2 hMX
                go_wp2_with fail
                go_quiet (fail)
                go_wp2
                go_roundg (M - (r + 1))
                case measure => have := HMR.out; omega
                case rel =>
                  refine ⟨r + 1, x1 == x2, by go_num, rfl, by omega, rfl, fun e => ⟨HMX.out, fun k hk => ?_⟩, below_drewN hWr _⟩
                  by_cases hkr : k < r
                  · exact HPRE.out k hkr
                  · have hkr' : k = r := by omega
                    subst hkr'
                    rw [H1.out, H2.out]
                    have := eq_of_beq e
                    rw [this]
              · have hsame : ln = lx := by
                  apply List.ext_getElem?
                  intro k
                  by_cases hk : k < r
                  · exact HPRE.out k hk
                  · rw [List.getElem?_eq_none (by rw [HLN.out]; omega), List.getElem?_eq_none (by rw [HXL.out]; omega)]
                have HST8 : Hid (∀ x, iter (E xs u) (j + 1) i x ↔ iter (E xs u) j i x) := fun x => by
                  have h1 := HNEW.out.2 (x : Int)
                  have h2 := HLS.out.2 (x : Int)
                  rw [← hsame, h2] at h1
                  constructor
                  · intro h
                    obtain ⟨y, e, h'⟩ := h1.2 ⟨x, rfl, h⟩
                    have : x = y := by omega
                    exact this ▸ h'
                  · intro h
                    obtain ⟨y, e, h'⟩ := h1.1 ⟨x, rfl, h⟩
                    have : x = y := by omega
                    exact this ▸ h'
                have HFIN : Hid (Lists (E xs t i) (addAll lo1 lx)) := (HO4.out.add HNEW.out).congr fun x => (outP_stop hlt hlh HST8.out x).trans (HE.out x).symm
                have HTW8 : Hid (Two wr (w.heap.size + 1) u13 lo1 (w.heap.size + 1) (.slice Ax X cx) lx) := ⟨HT5.out.out.stays hWr, HT5.out.one.stays hWr, HT5.out.apart⟩
                have HW8 := Lib.hid (gro HW4.out hWr)
                clear hsame hMX
                go_wp2
                clear c0 c1 c2 c3 c4 c5 c6 c7
                go_loopg [13, 24] X (fun m' o' kk wq => ∃ r : Nat, kk = .int .i64 (r : Int) ∧ r ≤ X ∧ m' = X - r ∧ Two wq (w.heap.size + 1) o' (addAll lo1 (lx.take r)) (w.heap.size + 1) (.slice Ax X cx) lx ∧ Below w.heap.size w wq)
                case atStart => exact ⟨0, rfl, Nat.zero_le _, rfl, HTW8.out, HW8.out⟩
                case round =>
                  obtain ⟨r, rfl, hr, hmr, htw, hWr⟩ := hrel
                  have HMR := Lib.hid hmr
                  have HTW := Lib.hid htw
                  clear hmr htw
                  by_cases hrt : r < X
                  · have hrt' : r < lx.length := by rw [HXL.out]; exact hrt
                    obtain ⟨gl, cl', e2, _, _, hc2⟩ := HTW.out.one.at r hrt'
                    injection e2 with e3 e4 e5
                    subst e3 e5
                    clear e4
                    have hat := addAll_take lo1 lx r hrt'
                    generalize lx[r]'hrt' = x at *
                    have HAT := Lib.hid hat
                    have hsz : (addAll lo1 (lx.take r)).length ≤ 1000000 := by
                      have h1 := addAll_len (lx.take r) lo1
                      rw [List.length_take] at h1
                      omega
                    have HADD := Lib.hid (add_p wr (w.heap.size + 1) u13 (addAll lo1 (lx.take r)) x HTW.out.out (by have := hWr.size; have := World.block_lt_of_cell? wr _ hc2; have := HTW.out.lo1 hrt'; omega) hsz)
                    clear hat hsz
                    unfold RetAdd at HADD
                    go_wp2_with (go_at_call 41; (with_reducible refine HADD.out.mono ?_); rintro e w6 ⟨v6, rfl, hi6, hg6, hv6⟩)
                    go_roundg (X - (r + 1))
                    case measure => have := HMR.out; omega
                    case rel =>
                      refine ⟨r + 1, by go_num, by omega, rfl, ?_, hWr.grown hg6 hWr.size (fun j e => by have := row_at HTW.out.out j e; omega)⟩
                      rw [HAT.out]
                      exact HTW.out.added hi6 hg6 hv6
                  · have hqn : lx.take r = lx := List.take_of_length_le (by rw [HXL.out]; omega)
                    rw [hqn] at HTW
                    go_wp2
                    go_ret
                    exact ⟨_, addAll lo1 lx, rfl, HTW.out.out.lower (by omega), HFIN.out, hWr⟩
    · have hjh : j = hi := by omega
      subst hjh
      have HFIN : Hid (Lists (E xs t i) (addAll lo0 ln)) := (HLS0.out.add HLS.out).congr fun x => (outP_all _ lo j i hlh x).trans (HE.out x).symm
      have HTW8 := HTW0
      have HW8 := Lib.hid hW
      generalize hln : ln.length = M at *
      have HLN := Lib.hid hln
      clear hln
      go_wp2
      clear c0 c1 c2 c3 c4 c5 c6 c7
      go_loopg [13, 24] M (fun m' o' kk wq => ∃ r : Nat, kk = .int .i64 (r : Int) ∧ r ≤ M ∧ m' = M - r ∧ Two wq (w.heap.size + 1) o' (addAll lo0 (ln.take r)) (w.heap.size + 1) (.slice An M cn) ln ∧ Below w.heap.size w wq)
      case atStart => exact ⟨0, rfl, Nat.zero_le _, rfl, HTW8.out, HW8.out⟩
      case round =>
        obtain ⟨r, rfl, hr, hmr, htw, hWr⟩ := hrel
        have HMR := Lib.hid hmr
        have HTW := Lib.hid htw
        clear hmr htw
        by_cases hrt : r < M
        · have hrt' : r < ln.length := by rw [HLN.out]; exact hrt
          obtain ⟨gl, cl', e2, _, _, hc2⟩ := HTW.out.one.at r hrt'
          injection e2 with e3 e4 e5
          subst e3 e5
          clear e4
          have hat := addAll_take lo0 ln r hrt'
          generalize ln[r]'hrt' = x at *
          have HAT := Lib.hid hat
          have hsz : (addAll lo0 (ln.take r)).length ≤ 1000000 := by
            have h1 := addAll_len (ln.take r) lo0
            rw [List.length_take] at h1
            omega
          have HADD := Lib.hid (add_p wr (w.heap.size + 1) u13 (addAll lo0 (ln.take r)) x HTW.out.out (by have := hWr.size; have := World.block_lt_of_cell? wr _ hc2; have := HTW.out.lo1 hrt'; omega) hsz)
          clear hat hsz
          unfold RetAdd at HADD
          go_wp2_with (go_at_call 41; (with_reducible refine HADD.out.mono ?_); rintro e w6 ⟨v6, rfl, hi6, hg6, hv6⟩)
          go_roundg (M - (r + 1))
          case measure => have := HMR.out; omega
          case rel =>
            refine ⟨r + 1, by go_num, by omega, rfl, ?_, hWr.grown hg6 hWr.size (fun j e => by have := row_at HTW.out.out j e; omega)⟩
            rw [HAT.out]
            exact HTW.out.added hi6 hg6 hv6
        · have hqn : ln.take r = ln := List.take_of_length_le (by rw [HLN.out]; omega)
          rw [hqn] at HTW
          go_wp2
          go_ret
          exact ⟨_, addAll lo0 ln, rfl, HTW.out.out.lower (by omega), HFIN.out, hWr⟩

theorem ends_p : ∀ N, EndsFor N := by
  intro N
  induction N with
  | zero => intro t w ok k xs A i c h; obtain ⟨op, p, lo, hi, l⟩ := t; simp at h
  | succ N ih =>
    intro t w ok k xs A i c hN h
    rcases h.wf.op_cases with h' | h' | h' | h'
    · exact ends_one h h'.1
    · exact ends_cat ih hN h h'.1
    · exact ends_alt ih hN h h'.1
    · exact ends_rep ih hN h h'.1

end Go.Proofs.YtlnanelejaddiaaDoor
