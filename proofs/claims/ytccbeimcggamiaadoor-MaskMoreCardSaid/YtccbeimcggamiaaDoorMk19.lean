/-
  Several texts of this proof in one file: AddTo, Ends, Ends2. No statement of its own.
-/
import Derived.Test.YtccbeimcggamiaaDoorMk18
import Derived.Test.YtccbeimcggamiaaDoorMk1
import Derived.Test.YtccbeimcggamiaaDoorMk4
import Derived.Maps.AppendAt
import Derived.Deep.LoopGhost
import Derived.Test.YtccbeimcggamiaaDoorMk10
import Derived.Test.YtccbeimcggamiaaDoorMk6
import Derived.Test.YtccbeimcggamiaaDoorMk2
import Derived.StillTailTactics
import Derived.Deep.CutRange
import Derived.Deep.CutBlock
set_option linter.unusedVariables false
set_option linter.unusedSimpArgs false

/-
  The document's own lists of numbers that grow: add. Contracts for other texts; no statement of its own.
-/
namespace Go.Proofs.YtccbeimcggamiaaDoor
open Go Go.RowKit
attribute [local go_sem ↓] Go.wp_at_zero Go.wp_at_succ

def addL (l : List Int) (n : Int) : List Int := if l.contains n then l else l ++ [n]
theorem addL_mem (l : List Int) (n x : Int) : x ∈ addL l n ↔ x ∈ l ∨ x = n := by
  unfold addL
  split
  · rename_i h
    have h' : n ∈ l := by simpa using h
    exact ⟨.inl, fun k => k.elim id fun e => e ▸ h'⟩
  · simp
theorem addL_nodup (l : List Int) (n : Int) (h : l.Nodup) : (addL l n).Nodup := by
  unfold addL
  split
  · exact h
  · rename_i hn
    have hn' : n ∉ l := by simpa using hn
    rw [List.nodup_append]
    refine ⟨h, by simp, ?_⟩
    intro a ha b hb e
    simp at hb
    subst hb e
    exact hn' ha
theorem addL_len (l : List Int) (n : Int) : (addL l n).length ≤ l.length + 1 := by unfold addL; split <;> simp

/-- What add tells. -/
def RetAdd (w : World) (B : Nat) (v : Value) (l : List Int) (n : Int) (e : Ending) (w' : World) : Prop :=
  ∃ v', e = .returned v' ∧ Ints w' B v' (addL l n) ∧ w.grownBy w' v.ownBlock ∧ (v'.ownBlock = v.ownBlock ∨ ∃ g, v'.ownBlock = some g ∧ w.heap.size ≤ g)

set_option maxRecDepth 20000 in
set_option maxHeartbeats 2000000 in
theorem add_p (w : World) (B : Nat) (v : Value) (l : List Int) (n : Int) (h : Ints w B v l) (hB : B ≤ w.heap.size) (hl : l.length ≤ 1000000) :
    Calls Tryd.prog 84 #[v, .int .i64 n] w (RetAdd w B v l n) := by
  obtain ⟨i0, hi, hz0, hz1, hz2⟩ := info_parts Tryd.infoInt
  obtain ⟨A, c, rfl⟩ := h.form
  generalize hlen : l.length = L at *
  have HLEN := Lib.hid hlen
  have HH := Lib.hid h
  clear h hlen
  go_enter Tryd.func84, Tryd.ntmps84
  go_wp2
  go_loopg [5] L (fun m i wr => ∃ j : Nat, i = .int .i64 (j : Int) ∧ j ≤ L ∧ m = L - j ∧ (∀ k, k < j → ∀ x, l[k]? = some x → x ≠ n) ∧ wr = w)
  case atStart => exact ⟨0, rfl, Nat.zero_le _, rfl, fun k hk => by omega, rfl⟩
  case round =>
    obtain ⟨j, rfl, hj, hmj, hne, rfl⟩ := hrel
    have HMJ := Lib.hid hmj
    have HNE := Lib.hid hne
    clear hmj hne
    by_cases hlt : j < L
    · have hlt' : j < l.length := by rw [HLEN.out]; exact hlt
      obtain ⟨g, c', e1, _, _, hc⟩ := HH.out.at j hlt'
      injection e1 with e1 e2 e3
      subst e1 e3
      clear e2
      have hx : ∃ x, l[j]'hlt' = x := ⟨_, rfl⟩
      obtain ⟨x, hx⟩ := hx
      rw [hx] at hc
      have HX := Lib.hid hx
      clear hx
      cases hxn : (x == n)
      · go_wp2
        go_roundg (L - (j + 1))
        case measure => have := HMJ.out; omega
        case rel =>
          refine ⟨j + 1, by go_num, by omega, rfl, fun k hk y hy => ?_, rfl⟩
          by_cases hkj : k = j
          · subst hkj
            rw [List.getElem?_eq_getElem hlt', HX.out] at hy
            injection hy with hy
            subst hy
            simpa using hxn
          · exact HNE.out k (by omega) y hy
      · go_wp2
        go_ret
        have hm : n ∈ l := by
          have e : x = n := by simpa using hxn
          rw [← e, ← HX.out]
          exact List.getElem_mem hlt'
        have ea : addL l n = l := by unfold addL; rw [if_pos (by simpa using hm)]
        exact ⟨_, rfl, by rw [ea]; exact HH.out, ⟨rfl, rfl, rfl, Nat.le_refl _, fun _ _ _ => rfl⟩, .inl rfl⟩
    · have hn : n ∉ l := by
        intro hm
        obtain ⟨k, hk, e⟩ := List.getElem_of_mem hm
        exact HNE.out k (by rw [HLEN.out] at hk; omega) n (by rw [List.getElem?_eq_getElem hk, e]) rfl
      have ea : addL l n = l ++ [n] := by unfold addL; rw [if_neg (by simpa using hn)]
      have HEA := Lib.hid ea
      have hown := HH.out
      unfold Ints at hown
      rw [HLEN.out] at hown
      have HO := Lib.hid hown
      clear hn ea hown
      go_wp2_with (at_builtin; refine wpList_append_own_at _ rfl _ _ 33 rfl B 3 i0 (.int .i64 0) 1 8 Tryd.underlying33 hi hz0 hz1 hz2 rfl (by decide) _ _ _ rfl (own_stays HO.out ((Below.refl _ _).alloc (Nat.le_refl _) _)) ⟨wr.heap.size, 0, none⟩ 1 1 [.int .i64 n] rfl rfl (cell_one_new _ _ _) ?c2 ?c3 ?c4 ?c5 ?_)
      case c2 => intro u hu; simp at hu; subst hu; rfl
      case c3 => unfold maxLen; omega
      case c4 => omega
      case c5 => simp; omega
      · intro v' w2 hown' hgrow _ hat
        go_wp2
        go_ret
        have ho := hown'
        have hgB : wr.grownBy w2 (Value.ownBlock (.slice A L c)) := (World.grownBy_alloc wr _ _).trans hgrow
        refine ⟨v', rfl, ?_, hgB, ?_⟩
        · rw [HEA.out]
          unfold Ints
          rw [List.length_append, HLEN.out, List.map_append]
          exact ho
        · rcases hat with hat | hat
          · exact .inl hat
          · exact .inr ⟨_, hat, by simp⟩

end Go.Proofs.YtccbeimcggamiaaDoor

/-
  The document's own Ends: where a word may end that begins at a place: of a single byte, of one of several kids. Contracts for other texts; no statement of its own.
-/
namespace Go.Proofs.YtccbeimcggamiaaDoor
open Go Go.RowKit
attribute [local go_sem ↓] Go.wp_at_zero Go.wp_at_succ

theorem nodup_le : ∀ (n : Nat) (l : List Int), l.Nodup → (∀ x ∈ l, 0 ≤ x ∧ x ≤ (n : Int)) → l.length ≤ n + 1
  | 0, l, h, hb => by
    match l, h, hb with
    | [], _, _ => simp
    | [a], _, _ => simp
    | a :: b :: l, h, hb =>
      have h1 := hb a (by simp)
      have h2 := hb b (by simp)
      simp at h
      omega
  | n + 1, l, h, hb => by
    by_cases hm : ((n + 1 : Nat) : Int) ∈ l
    · have h1 := nodup_le n (l.erase ((n + 1 : Nat) : Int)) (h.erase _) fun x hx => by
        have hx' := (List.Nodup.mem_erase_iff h).1 hx
        have := hb x hx'.2
        have hne := hx'.1
        omega
      rw [List.length_erase_of_mem hm] at h1
      omega
    · have h1 := nodup_le n l h fun x hx => by
        have := hb x hx
        have hne : x ≠ ((n + 1 : Nat) : Int) := fun e => hm (e ▸ hx)
        omega
      omega

/-- A list of the places that P tells, each once. -/
def Lists (P : Nat → Prop) (l : List Int) : Prop := l.Nodup ∧ ∀ x, x ∈ l ↔ ∃ j : Nat, x = j ∧ P j
theorem Lists.nil : Lists (fun _ => False) [] := ⟨List.nodup_nil, fun x => by simp⟩
theorem Lists.one (i : Nat) : Lists (fun j => j = i) [(i : Int)] := ⟨by simp, fun x => by
  simp⟩
theorem Lists.congr {P Q : Nat → Prop} {l : List Int} (h : Lists P l) (hq : ∀ j, P j ↔ Q j) : Lists Q l := ⟨h.1, fun x => by
  rw [h.2]
  constructor
  · rintro ⟨j, e, hp⟩; exact ⟨j, e, (hq j).1 hp⟩
  · rintro ⟨j, e, hp⟩; exact ⟨j, e, (hq j).2 hp⟩⟩
theorem Lists.len {P : Nat → Prop} {l : List Int} {n : Nat} (h : Lists P l) (hb : ∀ j, P j → j ≤ n) : l.length ≤ n + 1 :=
  nodup_le n l h.1 fun x hx => by
    obtain ⟨j, e, hp⟩ := (h.2 x).1 hx
    have := hb j hp
    omega
/-- One after the other is added. -/
def addAll (l : List Int) : List Int → List Int
  | [] => l
  | a :: bs => addAll (addL l a) bs
theorem addAll_snoc : ∀ (bs l : List Int) (a : Int), addAll l (bs ++ [a]) = addL (addAll l bs) a
  | [], l, a => rfl
  | b :: bs, l, a => addAll_snoc bs (addL l b) a
theorem addAll_take (l bs : List Int) (k : Nat) (h : k < bs.length) : addAll l (bs.take (k + 1)) = addL (addAll l (bs.take k)) (bs[k]'h) := by
  rw [List.take_succ_eq_append_getElem h, addAll_snoc]
theorem addAll_mem : ∀ (bs l : List Int) (x : Int), x ∈ addAll l bs ↔ x ∈ l ∨ x ∈ bs
  | [], l, x => by simp [addAll]
  | a :: bs, l, x => by simp [addAll, addAll_mem bs, addL_mem, or_assoc]
theorem addAll_nodup : ∀ (bs l : List Int), l.Nodup → (addAll l bs).Nodup
  | [], l, h => h
  | a :: bs, l, h => addAll_nodup bs _ (addL_nodup l a h)
theorem addAll_len : ∀ (bs l : List Int), (addAll l bs).length ≤ l.length + bs.length
  | [], l => Nat.le_refl _
  | a :: bs, l => by
    have h1 := addAll_len bs (addL l a)
    have h2 := addL_len l a
    simp only [addAll, List.length_cons]
    omega
theorem Lists.add {P Q : Nat → Prop} {l bs : List Int} (h : Lists P l) (h' : Lists Q bs) : Lists (fun j => P j ∨ Q j) (addAll l bs) := ⟨addAll_nodup bs l h.1, fun x => by
  rw [addAll_mem, h.2, h'.2]
  constructor
  · rintro (⟨j, e, hp⟩ | ⟨j, e, hp⟩)
    · exact ⟨j, e, .inl hp⟩
    · exact ⟨j, e, .inr hp⟩
  · rintro ⟨j, e, hp | hp⟩
    · exact .inl ⟨j, e, hp⟩
    · exact .inr ⟨j, e, hp⟩⟩

/-- What Ends tells. -/
def RetEnds (w : World) (P : Nat → Prop) (e : Ending) (w' : World) : Prop := ∃ v l, e = .returned v ∧ Ints w' w.heap.size v l ∧ Lists P l ∧ Below w.heap.size w w'

/-- What is asked of a call: a pattern, bytes, a place. -/
structure EndsAsk (w : World) (ok : Nat → Prop) (t : T) (k : Value) (xs : List Int) (A : Option Addr) (i : Nat) : Prop where
  wf : WF t
  tree : Tree w ok t k
  rd : RdB w w.heap.size A xs
  byte : ∀ k, k < xs.length → 0 ≤ xs.getD k 0 ∧ xs.getD k 0 ≤ 255
  len : xs.length ≤ 100000
  le : i ≤ xs.length

set_option maxRecDepth 20000 in
set_option maxHeartbeats 2000000 in
theorem endsD_one {w : World} {ok : Nat → Prop} {t : T} {k : Value} {xs : List Int} {A : Option Addr} {i c : Nat} (h : EndsAsk w ok t k xs A i) (h1 : t.op = 1) :
    Calls Tryd.prog 54 #[nodeP t k, .slice A xs.length c, .int .i64 i] w (RetEnds w (E xs t i)) := by
  have hE : ∀ j, E xs t i j ↔ i < xs.length ∧ t.set (xs.getD i 0).toNat = true ∧ j = i + 1 := by
    intro j
    cases t with
    | mk op p lo hi l =>
      have e : op = 1 := h1
      subst e
      exact E_one
  obtain ⟨A', n', c', rfl⟩ := h.tree.form
  have hb1 : (t.op == 1) = true := by simp [h1]
  have hlen := h.len
  have b1 := Box8.new w t (.slice A' n' c')
  have hB : Below w.heap.size w (w.alloc (.cells #[.int .i64 t.op, .int .u64 (word t.set 0), .int .u64 (word t.set 1), .int .u64 (word t.set 2), .int .u64 (word t.set 3), .int .i64 t.lo, .int .i64 t.hi, .slice A' n' c'] 29)) := (Below.refl _ _).alloc (Nat.le_refl _) _
  have HE := Lib.hid hE
  clear hE h1
  by_cases hlt : i < xs.length
  · obtain ⟨b, off, hA, hb, hc⟩ := h.rd.at hlt
    subst hA
    obtain ⟨y0, y1⟩ := h.byte i hlt
    have hcell := cell_stays (hc i hlt) hB
    have hHK := fun W => rhas_p t.set (xs.getD i 0) W y0 y1
    generalize hx : xs.getD i 0 = x at *
    have HX := Lib.hid hx
    have HHK := Lib.hid hHK
    have HH := Lib.hid h
    clear hx hHK hc h
    generalize hL : xs.length = L at *
    have HL := Lib.hid hL
    clear hL
    have i0 : (0 : Int) ≤ (i : Int) := by omega
    have i1 : (i : Int) < (L : Int) := by omega
    unfold nodeP
    cases hs : t.set x.toNat
    · have HS := Lib.hid hs
      have HHK2 : Hid (∀ W, Calls Tryd.prog 83 #[.agg #[.int .u64 (word t.set 0), .int .u64 (word t.set 1), .int .u64 (word t.set 2), .int .u64 (word t.set 3)], .int .u8 x] W fun e w' => e = .returned (.bool false) ∧ Below W.heap.size W w') := fun W => (HHK.out W).mono fun e w' k => by rw [HS.out] at k; exact k
      clear hs HHK
      go_enter Tryd.func54, Tryd.ntmps54
      go_wp2
      generalize w.alloc (.cells #[.int .i64 t.op, .int .u64 (word t.set 0), .int .u64 (word t.set 1), .int .u64 (word t.set 2), .int .u64 (word t.set 3), .int .i64 t.lo, .int .i64 t.hi, .slice A' n' c'] 29) = w1 at *
      obtain ⟨c0, c1, c2, c3, c4, c5, c6, c7⟩ := b1.cell
      go_still_tail 6, (by kernel_rfl)
      change wpList _ _ _ _ _ (World.drew _)
      go_wp2_with (go_at_call 83; (refine (HHK2.out _).mono ?_); rintro e w5 ⟨rfl, hb5⟩)
      go_ret
      refine ⟨_, [], rfl, Ints.nil _ _, Lists.nil.congr fun j => ?_, gro hB (undrew hb5)⟩
      rw [HE.out, HS.out]
      simp
    · have HS := Lib.hid hs
      have HHK2 : Hid (∀ W, Calls Tryd.prog 83 #[.agg #[.int .u64 (word t.set 0), .int .u64 (word t.set 1), .int .u64 (word t.set 2), .int .u64 (word t.set 3)], .int .u8 x] W fun e w' => e = .returned (.bool true) ∧ Below W.heap.size W w') := fun W => (HHK.out W).mono fun e w' k => by rw [HS.out] at k; exact k
      clear hs HHK
      go_enter Tryd.func54, Tryd.ntmps54
      go_wp2
      generalize w.alloc (.cells #[.int .i64 t.op, .int .u64 (word t.set 0), .int .u64 (word t.set 1), .int .u64 (word t.set 2), .int .u64 (word t.set 3), .int .i64 t.lo, .int .i64 t.hi, .slice A' n' c'] 29) = w1 at *
      obtain ⟨c0, c1, c2, c3, c4, c5, c6, c7⟩ := b1.cell
      go_still_tail 6, (by kernel_rfl)
      change wpList _ _ _ _ _ (World.drew _)
      go_wp2_with (go_at_call 83; (refine (HHK2.out _).mono ?_); rintro e w5 ⟨rfl, hb5⟩)
      go_ret
      have hB5 := gro hB (undrew hb5)
      refine ⟨_, [((i + 1 : Nat) : Int)], rfl, World.ownsRow_lit w5 #[.int .i64 ((i : Int) + 1)] 1 hB5.size (by decide) rfl, (Lists.one (i + 1)).congr fun j => ?_, hB5.alloc hB5.size _⟩
      rw [HE.out, HS.out]
      simp [hlt]
  · have hge : ¬ i < xs.length := hlt
    generalize hL : xs.length = L at *
    have HL := Lib.hid hL
    have HH := Lib.hid h
    clear hL h
    unfold nodeP
    go_enter Tryd.func54, Tryd.ntmps54
    go_wp2
    go_ret
    refine ⟨_, [], rfl, Ints.nil _ _, Lists.nil.congr fun j => ?_, hB⟩
    rw [HE.out]
    simp [hge]

/-- Two lists, of which the first grows. -/
structure Two (w : World) (B : Nat) (vo : Value) (lo : List Int) (C : Nat) (vl : Value) (l : List Int) : Prop where
  out : Ints w B vo lo
  one : Ints w C vl l
  apart : ∀ g, vo.ownBlock = some g → vl.ownBlock ≠ some g
theorem Two.start {w w' : World} {B : Nat} {vo vl : Value} {lo l : List Int} (h : Ints w B vo lo) (hb : Below w.heap.size w w') (hl : Ints w' w.heap.size vl l) : Two w' B vo lo w.heap.size vl l :=
  ⟨h.stays hb, hl, fun g e e' => by
    have h1 := (World.ownsRow.lt h g e).2
    have h2 := (World.ownsRow.lt hl g e').1
    omega⟩
theorem Two.added {w w' : World} {B C : Nat} {vo vl v' : Value} {lo l : List Int} {n : Int} (h : Two w B vo lo C vl l) (h' : Ints w' B v' (addL lo n)) (hg : w.grownBy w' vo.ownBlock) (hv : v'.ownBlock = vo.ownBlock ∨ ∃ g, v'.ownBlock = some g ∧ w.heap.size ≤ g) :
    Two w' B v' (addL lo n) C vl l :=
  ⟨h', h.one.kept hg (fun g e e' => h.apart g e' e), fun g e e' => by
    rcases hv with hv | ⟨g', hv, hg'⟩
    · exact h.apart g (hv ▸ e) e'
    · rw [hv] at e
      injection e with e
      have := (World.ownsRow.lt h.one g e').2
      omega⟩
theorem row_at {B : Nat} {w : World} {v : Value} {l : List Int} (h : Ints w B v l) : ∀ j, v.ownBlock = some j → B ≤ j := fun j e => (World.ownsRow.lt h j e).1

theorem EndsAsk.kid {w w' : World} {ok : Nat → Prop} {t : T} {k : Value} {xs : List Int} {A : Option Addr} {i i' : Nat} (h : EndsAsk w ok t k xs A i) {u : T} {k' : Value} (hu : u ∈ t.kids) (htk : Tree w ok u k') (hb : Below w.heap.size w w') (hi : i' ≤ xs.length) : EndsAsk w' ok u k' xs A i' :=
  ⟨h.wf.kid hu, htk.stays hb, (h.rd.below hb).more hb.size, h.byte, h.len, hi⟩

def EndsFor (N : Nat) : Prop := ∀ (t : T) (w : World) (ok : Nat → Prop) (k : Value) (xs : List Int) (A : Option Addr) (i c : Nat), SizeOf.sizeOf t ≤ N → EndsAsk w ok t k xs A i →
    Calls Tryd.prog 54 #[nodeP t k, .slice A xs.length c, .int .i64 i] w (RetEnds w (E xs t i))

set_option maxRecDepth 20000 in
set_option maxHeartbeats 4000000 in
theorem ends_alt {N : Nat} (ih : EndsFor N) {w : World} {ok : Nat → Prop} {t : T} {k : Value} {xs : List Int} {A : Option Addr} {i c : Nat} (hN : SizeOf.sizeOf t ≤ N + 1) (h : EndsAsk w ok t k xs A i) (h3 : t.op = 3) :
    Calls Tryd.prog 54 #[nodeP t k, .slice A xs.length c, .int .i64 i] w (RetEnds w (E xs t i)) := by
  have hE : ∀ j, E xs t i j ↔ EAny xs t.kids i j := by
    intro j
    cases t with
    | mk op p lo hi l =>
      have e : op = 3 := h3
      subst e
      exact E_alt
  obtain ⟨A', n', c', rfl⟩ := h.tree.form
  obtain ⟨hn, hm⟩ := h.tree.bound
  have hkl := h.wf.len
  rw [← hn] at hkl
  unfold maxLen at hm
  have hb1 : (t.op == 1) = false := by simp [h3]
  have hb3 : (t.op == 3) = true := by simp [h3]
  have hlen := h.len
  have hile := h.le
  have hbd : ∀ j l, l ⊆ t.kids → EAny xs l i j → j ≤ xs.length := fun j l hl he => by
    rw [EAny_iff] at he
    obtain ⟨u, hu, he⟩ := he
    exact (E_bd (h.wf.kid (hl hu)) i j hile he).2
  have b1 := Box8.new w t (.slice A' n' c')
  have hB : Below w.heap.size w (w.alloc (.cells #[.int .i64 t.op, .int .u64 (word t.set 0), .int .u64 (word t.set 1), .int .u64 (word t.set 2), .int .u64 (word t.set 3), .int .i64 t.lo, .int .i64 t.hi, .slice A' n' c'] 29)) := (Below.refl _ _).alloc (Nat.le_refl _) _
  have HE := Lib.hid hE
  have HN := Lib.hid hn
  have HH := Lib.hid h
  have IH := Lib.hid ih
  have HB1 := Lib.hid b1
  have HBD := Lib.hid hbd
  unfold EndsFor at IH
  clear hE h3 hn h ih b1 hbd
  generalize hL : xs.length = L at *
  have HL := Lib.hid hL
  clear hL
  unfold nodeP
  go_enter Tryd.func54, Tryd.ntmps54
  go_wp2
  go_loopg [8, 9] n' (fun m o i' wr => ∃ (j : Nat) (lo : List Int), i' = .int .i64 (j : Int) ∧ j ≤ n' ∧ m = n' - j ∧ Ints wr (w.heap.size + 1) o lo ∧ Lists (EAny xs (t.kids.take j) i) lo ∧ Box8 wr w.heap.size t (.slice A' n' c') ∧ Below w.heap.size w wr)
  case atStart => exact ⟨0, [], rfl, Nat.zero_le _, rfl, Ints.nil _ _, Lists.nil.congr fun j => by simp [EAny], HB1.out, hB⟩
  case round =>
    obtain ⟨j, lo, rfl, hj, hmj, hown, hls, x1, hW⟩ := hrel
    have HMJ := Lib.hid hmj
    have HOWN := Lib.hid hown
    have HLS := Lib.hid hls
    have HX1 := Lib.hid x1
    obtain ⟨c0, c1, c2, c3, c4, c5, c6, c7⟩ := x1.cell
    clear hmj hown hls x1
    by_cases hlt : j < n'
    · have hlt' : j < t.kids.length := by rw [← HN.out]; exact hlt
      obtain ⟨g, B, m1, m2, e1, hg1, htk, hcells⟩ := kid8 HH.out.tree j (List.getElem?_eq_getElem hlt')
      subst e1
      have hks := kid_size t j hlt'
      have hum : t.kids[j]'hlt' ∈ t.kids := List.getElem_mem hlt'
      have hst := EAny_take (xs := xs) t.kids j hlt' i
      generalize t.kids[j] = u at *
      have HC : ∀ q v, (nodeC u (.slice B m1 m2))[q]? = some v → wr.cell? ⟨g, j * 8 + q, none⟩ = some v := fun q v h => by rw [Nat.mul_comm j 8]; exact (hW.cell (p := ⟨g, 8 * j + q, none⟩) hg1).trans (hcells q v h)
      have k0 : wr.cell? ⟨g, j * 8, none⟩ = _ := HC 0 _ rfl
      have k1 := HC 1 _ rfl
      have k2 := HC 2 _ rfl
      have k3 := HC 3 _ rfl
      have k4 := HC 4 _ rfl
      have k5 := HC 5 _ rfl
      have k6 := HC 6 _ rfl
      have k7 := HC 7 _ rfl
      have hask := HH.out.kid (i' := i) hum htk hW (by rw [HL.out]; exact hile)
      have hub : ∀ x, E xs u i x → x ≤ L := fun x hx => by
        rw [← HL.out]
        exact (E_bd (HH.out.wf.kid hum) i x (by rw [HL.out]; exact hile) hx).2
      have hcall := IH.out u wr ok (.slice B m1 m2) xs A i c (by omega) hask
      rw [HL.out] at hcall
      unfold nodeP at hcall
      have HK := Lib.hid hcall
      have HST := Lib.hid hst
      have HUB := Lib.hid hub
      have hlo : lo.length ≤ L + 1 := HLS.out.len fun x hx => by
        exact HBD.out x _ (List.take_subset _ _) hx
      clear HC hcells htk hks hum hst hask hub hcall
      have hk2 := HK.out.mono (R' := fun e w5 => ∃ Al cl l, e = .returned (.slice Al l.length cl) ∧ Two w5 (w.heap.size + 1) u8 lo wr.heap.size (.slice Al l.length cl) l ∧ Box8 w5 w.heap.size t (.slice (some ⟨g, 0, none⟩) n' c') ∧ Below w.heap.size w w5 ∧ l.length ≤ L + 1 ∧ Lists (E xs u i) l) fun e w5 h5 => by
        obtain ⟨vl, l, he, hvl, hlsl, hb5⟩ := h5
        obtain ⟨Al, cl, hform⟩ := hvl.form
        subst hform
        exact ⟨Al, cl, l, he, Two.start HOWN.out hb5 hvl, HX1.out.stays hb5, gro hW hb5, hlsl.len HUB.out, hlsl⟩
      have HK2 := Lib.hid hk2
      clear hk2 HK
      go_wp2_with (go_at_call 54; (with_reducible refine HK2.out.mono ?_); rintro e w5 ⟨Al, cl, l, rfl, htwo, x5, hW5, hll, hlsl⟩; have HLSL := Lib.hid hlsl; clear hlsl)
      have HTWO := Lib.hid htwo
      have HX5 := Lib.hid x5
      clear htwo x5 k0 k1 k2 k3 k4 k5 k6 k7 c0 c1 c2 c3 c4 c5 c6 c7
      generalize hll2 : l.length = M at *
      generalize wr.heap.size = C at HTWO
      have HLL := Lib.hid hll2
      clear hll2
      go_loopg [8, 11] M (fun m' o' kk wq => ∃ q : Nat, kk = .int .i64 (q : Int) ∧ q ≤ M ∧ m' = M - q ∧ Two wq (w.heap.size + 1) o' (addAll lo (l.take q)) C (.slice Al M cl) l ∧ Box8 wq w.heap.size t (.slice (some ⟨g, 0, none⟩) n' c') ∧ Below w.heap.size w wq)
      case atStart => exact ⟨0, rfl, Nat.zero_le _, rfl, HTWO.out, HX5.out, hW5⟩
      case round =>
        obtain ⟨q, rfl, hq, hmq, htw, xq, hWq⟩ := hrel
        have HMQ := Lib.hid hmq
        have HTW := Lib.hid htw
        have HXQ := Lib.hid xq
        clear hmq htw xq
        by_cases hqt : q < M
        · have hqt' : q < l.length := by rw [HLL.out]; exact hqt
          obtain ⟨gl, cl', e2, _, _, hc2⟩ := HTW.out.one.at q hqt'
          injection e2 with e3 e4 e5
          subst e3 e5
          clear e4
          have hat := addAll_take lo l q hqt'
          generalize l[q]'hqt' = x at *
          have HAT := Lib.hid hat
          have hsz : (addAll lo (l.take q)).length ≤ 1000000 := by
            have h1 := addAll_len (l.take q) lo
            rw [List.length_take] at h1
            omega
          have HADD := Lib.hid (add_p wr (w.heap.size + 1) u8 (addAll lo (l.take q)) x HTW.out.out (by have := HXQ.out.lt; omega) hsz)
          clear hat hsz
          unfold RetAdd at HADD
          go_wp2_with (go_at_call 84; (with_reducible refine HADD.out.mono ?_); rintro e w6 ⟨v6, rfl, hi6, hg6, hv6⟩)
          go_roundg (M - (q + 1))
          case measure => have := HMQ.out; omega
          case rel =>
            have hrow := row_at HTW.out.out
            refine ⟨q + 1, by go_num, by omega, rfl, ?_, HXQ.out.grown hg6 (fun e => by have := hrow _ e.symm; omega), hWq.grown hg6 hWq.size (fun j e => by have := hrow j e; omega)⟩
            rw [HAT.out]
            exact HTW.out.added hi6 hg6 hv6
        · have hqn : l.take q = l := List.take_of_length_le (by rw [HLL.out]; omega)
          rw [hqn] at HTW
          go_wp2
          go_roundg (n' - (j + 1))
          case measure => have := HMJ.out; omega
          case rel => exact ⟨j + 1, addAll lo l, by go_num, by omega, rfl, HTW.out.out, (HLS.out.add HLSL.out).congr fun x => (HST.out x).symm, HXQ.out, hWq⟩
    · have hjn : j = t.kids.length := by rw [← HN.out]; omega
      have hwhole : t.kids.take j = t.kids := by rw [hjn]; exact List.take_length
      rw [hwhole] at HLS
      go_wp2
      go_ret
      exact ⟨_, lo, rfl, own_lower HOWN.out (by omega), HLS.out.congr fun x => (HE.out x).symm, hW⟩

end Go.Proofs.YtccbeimcggamiaaDoor

/-
  The document's own Ends: of kids one behind the other. Contracts for other texts; no statement of its own.
-/
namespace Go.Proofs.YtccbeimcggamiaaDoor
open Go Go.RowKit
attribute [local go_sem ↓] Go.wp_at_zero Go.wp_at_succ

theorem Ints.lower {w : World} {B B' : Nat} {v : Value} {l : List Int} (h : Ints w B v l) (hB : B' ≤ B) : Ints w B' v l := own_lower h hB
theorem Lists.bound {P : Nat → Prop} {l : List Int} (h : Lists P l) (j : Nat) (hj : j < l.length) : ∃ y : Nat, l[j] = (y : Int) ∧ P y := (h.2 _).1 (List.getElem_mem hj)
set_option maxRecDepth 20000 in
set_option maxHeartbeats 4000000 in
theorem ends_cat {N : Nat} (ih : EndsFor N) {w : World} {ok : Nat → Prop} {t : T} {k : Value} {xs : List Int} {A : Option Addr} {i c : Nat} (hN : SizeOf.sizeOf t ≤ N + 1) (h : EndsAsk w ok t k xs A i) (h2 : t.op = 2) :
    Calls Tryd.prog 54 #[nodeP t k, .slice A xs.length c, .int .i64 i] w (RetEnds w (E xs t i)) := by
  have hE : ∀ j, E xs t i j ↔ ECat xs t.kids i j := by
    intro j
    cases t with
    | mk op p lo hi l =>
      have e : op = 2 := h2
      subst e
      exact E_cat
  obtain ⟨A', n', c', rfl⟩ := h.tree.form
  obtain ⟨hn, hm⟩ := h.tree.bound
  have hkl := h.wf.len
  rw [← hn] at hkl
  unfold maxLen at hm
  have hb1 : (t.op == 1) = false := by simp [h2]
  have hb2 : (t.op == 2) = true := by simp [h2]
  have hb3 : (t.op == 3) = false := by simp [h2]
  have hb4 : (t.op == 4) = false := by simp [h2]
  have hlen := h.len
  have hile := h.le
  have hn0 : 0 < t.kids.length := by
    rcases h.wf.op_cases with h' | h' | h' | h' <;> omega
  have hbd : ∀ (l : List T), l ⊆ t.kids → ∀ i' j, i' ≤ xs.length → ECat xs l i' j → j ≤ xs.length := fun l => by
    induction l with
    | nil => intro _ i' j hi' he; have e : i' = j := he; omega
    | cons u l ihl =>
      intro hl i' j hi' he
      obtain ⟨y, e1, e2⟩ := he
      have hy := (E_bd (h.wf.kid (hl (by simp))) i' y hi' e1).2
      exact ihl (fun z hz => hl (by simp [hz])) y j hy e2
  have b1 := Box8.new w t (.slice A' n' c')
  have hB : Below w.heap.size w (w.alloc (.cells #[.int .i64 t.op, .int .u64 (word t.set 0), .int .u64 (word t.set 1), .int .u64 (word t.set 2), .int .u64 (word t.set 3), .int .i64 t.lo, .int .i64 t.hi, .slice A' n' c'] 29)) := (Below.refl _ _).alloc (Nat.le_refl _) _
  obtain ⟨g0, B0, l1, l2, e0, hg0, htk0, hcells0⟩ := kid8 h.tree 0 (List.getElem?_eq_getElem hn0)
  subst e0
  generalize t.kids[0] = u0 at *
  have HE := Lib.hid hE
  have HN := Lib.hid hn
  have HH := Lib.hid h
  have IH := Lib.hid ih
  have HB1 := Lib.hid b1
  have HBD := Lib.hid hbd
  have HC0 := Lib.hid hcells0
  have HN0 := Lib.hid hn0
  unfold EndsFor at IH
  clear hE h2 hn h ih b1 hbd hcells0 htk0 hn0
  generalize hL : xs.length = L at *
  have HL := Lib.hid hL
  clear hL
  unfold nodeP
  go_enter Tryd.func54, Tryd.ntmps54
  go_wp2
  have hW0 : Below w.heap.size w ((w.alloc (.cells #[.int .i64 t.op, .int .u64 (word t.set 0), .int .u64 (word t.set 1), .int .u64 (word t.set 2), .int .u64 (word t.set 3), .int .i64 t.lo, .int .i64 t.hi, .slice (some ⟨g0, 0, none⟩) n' c'] 29)).alloc (.cells #[.int .i64 i] 3)) := hB.alloc hB.size _
  have hI0 : Ints ((w.alloc (.cells #[.int .i64 t.op, .int .u64 (word t.set 0), .int .u64 (word t.set 1), .int .u64 (word t.set 2), .int .u64 (word t.set 3), .int .i64 t.lo, .int .i64 t.hi, .slice (some ⟨g0, 0, none⟩) n' c'] 29)).alloc (.cells #[.int .i64 i] 3)) (w.heap.size + 1) (.slice (some ⟨w.heap.size + 1, 0, none⟩) 1 1) [(i : Int)] := by
    have h := World.ownsRow_lit (base := w.heap.size + 1) (e := 3) (size := 1) (w.alloc (.cells #[.int .i64 t.op, .int .u64 (word t.set 0), .int .u64 (word t.set 1), .int .u64 (word t.set 2), .int .u64 (word t.set 3), .int .i64 t.lo, .int .i64 t.hi, .slice (some ⟨g0, 0, none⟩) n' c'] 29)) #[.int .i64 (i : Int)] 1 (by simp) (by decide) rfl
    rw [World.size_alloc] at h
    exact h
  go_loopg [12, 13, 15] n' (fun m o out i' wr => ∃ (j : Nat) (ln : List Int), i' = .int .i64 (j : Int) ∧ out = .slice none 0 0 ∧ j ≤ n' ∧ m = n' - j ∧ Ints wr (w.heap.size + 1) o ln ∧ Lists (ECat xs (t.kids.take j) i) ln ∧ Box8 wr w.heap.size t (.slice (some ⟨g0, 0, none⟩) n' c') ∧ Below w.heap.size w wr)
  case atStart => exact ⟨0, [(i : Int)], rfl, rfl, Nat.zero_le _, rfl, hI0, (Lists.one i).congr fun j => by simp [ECat]; exact eq_comm, HB1.out.alloc _, hW0⟩
  case round =>
    obtain ⟨j, ln, rfl, rfl, hj, hmj, hown, hls, x1, hW⟩ := hrel
    have HMJ := Lib.hid hmj
    have HLS := Lib.hid hls
    have HOWN := Lib.hid hown
    have hnl : ln.length ≤ L + 1 := hls.len fun x hx => HBD.out _ (List.take_subset _ _) i x hile hx
    obtain ⟨An, cn, hform⟩ := hown.form
    subst hform
    obtain ⟨c0, c1, c2, c3, c4, c5, c6, c7⟩ := x1.cell
    have HX1 := Lib.hid x1
    clear hmj hown hls x1
    by_cases hlt : j < n'
    · have hlt' : j < t.kids.length := by rw [← HN.out]; exact hlt
      obtain ⟨g, B, m1, m2, e1, hg1, htk, hcells⟩ := kid8 HH.out.tree j (List.getElem?_eq_getElem hlt')
      injection e1 with e1
      injection e1 with e1
      subst e1
      have hks := kid_size t j hlt'
      have hum : t.kids[j]'hlt' ∈ t.kids := List.getElem_mem hlt'
      have hst := ECat_take (xs := xs) t.kids j hlt' i
      generalize t.kids[j] = u at *
      have HCk : ∀ q v, (nodeC u (.slice B m1 m2))[q]? = some v → wr.cell? ⟨g0, j * 8 + q, none⟩ = some v := fun q v h => by rw [Nat.mul_comm j 8]; exact (hW.cell (p := ⟨g0, 8 * j + q, none⟩) hg1).trans (hcells q v h)
      have HCz : ∀ q v, (nodeC u0 (.slice B0 l1 l2))[q]? = some v → wr.cell? ⟨g0, q, none⟩ = some v := fun q v h => by
        have := (hW.cell (p := ⟨g0, 8 * 0 + q, none⟩) hg1).trans (HC0.out q v h)
        rwa [Nat.mul_zero, Nat.zero_add] at this
      have k0 : wr.cell? ⟨g0, j * 8, none⟩ = _ := HCk 0 _ rfl
      have k1 := HCk 1 _ rfl
      have k2 := HCk 2 _ rfl
      have k3 := HCk 3 _ rfl
      have k4 := HCk 4 _ rfl
      have k5 := HCk 5 _ rfl
      have k6 := HCk 6 _ rfl
      have k7 := HCk 7 _ rfl
      have z0 := HCz 0 _ rfl
      have z1 := HCz 1 _ rfl
      have z2 := HCz 2 _ rfl
      have z3 := HCz 3 _ rfl
      have z4 := HCz 4 _ rfl
      have z5 := HCz 5 _ rfl
      have z6 := HCz 6 _ rfl
      have z7 := HCz 7 _ rfl
      have HST := Lib.hid hst
      have HTK := Lib.hid htk
      have hg2 : g0 < wr.heap.size := Nat.lt_of_lt_of_le hg1 hW.size
      have hw2 : w.heap.size < wr.heap.size := HX1.out.lt
      clear HCk HCz hcells htk hst
      generalize hln : ln.length = M at *
      have HLN := Lib.hid hln
      clear hln
      have bk := Box8.new wr u (.slice B m1 m2)
      have hb3 : Below wr.heap.size wr (wr.alloc (.cells #[.int .i64 u.op, .int .u64 (word u.set 0), .int .u64 (word u.set 1), .int .u64 (word u.set 2), .int .u64 (word u.set 3), .int .i64 u.lo, .int .i64 u.hi, .slice B m1 m2] 29)) := (Below.refl _ _).alloc (Nat.le_refl _) _
      go_upto_region 30 with fail
      clear k0 k1 k2 k3 k4 k5 k6 k7 z0 z1 z2 z3 z4 z5 z6 z7 c0 c1 c2 c3 c4 c5 c6 c7
      generalize wr.alloc (.cells #[.int .i64 u.op, .int .u64 (word u.set 0), .int .u64 (word u.set 1), .int .u64 (word u.set 2), .int .u64 (word u.set 3), .int .i64 u.lo, .int .i64 u.hi, .slice B m1 m2] 29) = w3 at *
      have hW3 := gro hW hb3
      have hI3 := HOWN.out.stays hb3
      have x3 := HX1.out.stays hb3
      have t3 := (HTK.out.stays hW).stays hb3
      have a3 : EndsAsk w3 ok u (.slice B m1 m2) xs A 0 := HH.out.kid hum HTK.out hW3 (by omega)
      obtain ⟨c0, c1, c2, c3, c4, c5, c6, c7⟩ := x3.cell
      have BK := Lib.hid bk
      have HI3 := Lib.hid hI3
      have HX3 := Lib.hid x3
      have HA3 := Lib.hid a3
      clear bk hI3 x3 t3 a3 HTK HOWN HX1 hum hb3 hW
      generalize wr.heap.size = Kb at *
      go_wp2
      clear c0 c1 c2 c3 c4 c5 c6 c7
      go_loopg [18, 19] M (fun m' nx kk wq => ∃ (q : Nat) (lx : List Int), kk = .int .i64 (q : Int) ∧ q ≤ M ∧ m' = M - q ∧ Ints wq w3.heap.size nx lx ∧ Lists (fun x => ∃ y : Nat, (y : Int) ∈ ln.take q ∧ E xs u y x) lx ∧ Below w3.heap.size w3 wq)
      case atStart => exact ⟨0, [], rfl, Nat.zero_le _, rfl, Ints.nil _ _, Lists.nil.congr fun x => ⟨fun h => h.elim, fun ⟨y, hy, _⟩ => by simp at hy⟩, Below.refl _ _⟩
      case round =>
        obtain ⟨q, lx, rfl, hq, hmq, hnx, hlx, hWq⟩ := hrel
        have HMQ := Lib.hid hmq
        have HNX := Lib.hid hnx
        have HLX := Lib.hid hlx
        clear hmq hnx hlx
        by_cases hqt : q < M
        · have hqt' : q < ln.length := by rw [HLN.out]; exact hqt
          obtain ⟨gn, cn', e2, _, _, hc2⟩ := (HI3.out.stays hWq).at q hqt'
          injection e2 with e3 e4 e5
          subst e3 e5
          clear e4
          obtain ⟨y, hy, hPy⟩ := HLS.out.bound q hqt'
          have hyL : y ≤ L := HBD.out _ (List.take_subset _ _) i y hile hPy
          rw [hy] at hc2
          have hsnoc : ∀ z : Nat, (z : Int) ∈ ln.take (q + 1) ↔ (z : Int) ∈ ln.take q ∨ z = y := by
            intro z
            rw [List.take_succ_eq_append_getElem hqt', hy]
            simp only [List.mem_append, List.mem_singleton]
            constructor
            · rintro (h | h)
              · exact .inl h
              · exact .inr (by omega)
            · rintro (h | h)
              · exact .inl h
              · exact .inr (by omega)
          have HSN := Lib.hid hsnoc
          obtain ⟨b0, b1, b2, b3, b4, b5, b6, b7⟩ := (BK.out.stays hWq).cell
          have q0 : (0 : Int) ≤ (q : Int) := by omega
          have q1 : (q : Int) < (M : Int) := by omega
          have hlxl : lx.length ≤ L + 1 := HLX.out.len fun x hx => by
            obtain ⟨z, hz, hE⟩ := hx
            have hz2 : (z : Int) ∈ ln := List.mem_of_mem_take hz
            obtain ⟨z', e, hP⟩ := (HLS.out.2 _).1 hz2
            have ez : z = z' := by omega
            subst ez
            have := HBD.out _ (List.take_subset _ _) i z hile hP
            have := (E_bd HA3.out.wf z x (by rw [HL.out]; exact this) hE).2
            rw [HL.out] at this
            exact this
          have hub : ∀ x, E xs u y x → x ≤ L := fun x hx => by
            have := (E_bd HA3.out.wf y x (by rw [HL.out]; exact hyL) hx).2
            rw [HL.out] at this
            exact this
          have HUB := Lib.hid hub
          have hcall : ∀ W, Below wr.heap.size wr W → Calls Tryd.prog 54 #[nodeP u (.slice B m1 m2), .slice A L c, .int .i64 y] W (fun e w5 => ∃ Al cl l, e = .returned (.slice Al l.length cl) ∧ Two w5 w3.heap.size u18 lx W.heap.size (.slice Al l.length cl) l ∧ Below w3.heap.size w3 w5 ∧ l.length ≤ L + 1 ∧ Lists (E xs u y) l) := fun W hbW => by
            have ha : EndsAsk W ok u (.slice B m1 m2) xs A y := ⟨HA3.out.wf, (HA3.out.tree.stays hWq).stays hbW, ((HA3.out.rd.below hWq).below (hbW.mono hWq.size)).more (Nat.le_trans hWq.size hbW.size), HA3.out.byte, HA3.out.len, by rw [HL.out]; exact hyL⟩
            have hc := IH.out u W ok (.slice B m1 m2) xs A y c (by omega) ha
            rw [HL.out] at hc
            refine hc.mono fun e w5 h5 => ?_
            obtain ⟨vl, l, he, hvl, hlsl, hb5⟩ := h5
            obtain ⟨Al, cl, hform⟩ := hvl.form
            subst hform
            exact ⟨Al, cl, l, he, Two.start (HNX.out.stays hbW) hb5 hvl, gro (gro hWq hbW) hb5, hlsl.len HUB.out, hlsl⟩
          unfold nodeP at hcall
          have HK := Lib.hid hcall
          clear hsnoc hub hcall hPy hyL
          go_wp2_with fail
          go_still_tail 6, (by kernel_rfl)
          change wpList _ _ _ _ _ wr.drew
          go_wp2_with (go_at_call 54; (with_reducible refine (HK.out wr.drew ((Below.refl _ _).drew)).mono ?_); rintro e w5 ⟨Al, cl, l, rfl, htwo, hW5, hll, hlsl⟩; have HLSL := Lib.hid hlsl; clear hlsl)
          have HTWO := Lib.hid htwo
          clear htwo b0 b1 b2 b3 b4 b5 b6 b7 hc2
          generalize hll2 : l.length = M2 at *
          generalize wr.drew.heap.size = C at HTWO
          have HLL := Lib.hid hll2
          clear hll2
          go_loopg [18, 21] M2 (fun m' o' kk wq => ∃ r : Nat, kk = .int .i64 (r : Int) ∧ r ≤ M2 ∧ m' = M2 - r ∧ Two wq w3.heap.size o' (addAll lx (l.take r)) C (.slice Al M2 cl) l ∧ Below w3.heap.size w3 wq)
          case atStart => exact ⟨0, rfl, Nat.zero_le _, rfl, HTWO.out, hW5⟩
          case round =>
            obtain ⟨r, rfl, hr, hmr, htw, hWr⟩ := hrel
            have HMR := Lib.hid hmr
            have HTW := Lib.hid htw
            clear hmr htw
            by_cases hrt : r < M2
            · have hrt' : r < l.length := by rw [HLL.out]; exact hrt
              obtain ⟨gl, cl', e2, _, _, hc2⟩ := HTW.out.one.at r hrt'
              injection e2 with e3 e4 e5
              subst e3 e5
              clear e4
              have hat := addAll_take lx l r hrt'
              generalize l[r]'hrt' = x at *
              have HAT := Lib.hid hat
              have hsz : (addAll lx (l.take r)).length ≤ 1000000 := by
                have h1 := addAll_len (l.take r) lx
                rw [List.length_take] at h1
                omega
              have HADD := Lib.hid (add_p wr w3.heap.size u18 (addAll lx (l.take r)) x HTW.out.out hWr.size hsz)
              clear hat hsz
              unfold RetAdd at HADD
              go_wp2_with (go_at_call 84; (with_reducible refine HADD.out.mono ?_); rintro e w6 ⟨v6, rfl, hi6, hg6, hv6⟩)
              go_roundg (M2 - (r + 1))
              case measure => have := HMR.out; omega
              case rel =>
                refine ⟨r + 1, by go_num, by omega, rfl, ?_, hWr.grown hg6 hWr.size (row_at HTW.out.out)⟩
                rw [HAT.out]
                exact HTW.out.added hi6 hg6 hv6
            · have hqn : l.take r = l := List.take_of_length_le (by rw [HLL.out]; omega)
              rw [hqn] at HTW
              go_wp2
              go_roundg (M - (q + 1))
              case measure => have := HMQ.out; omega
              case rel =>
                refine ⟨q + 1, addAll lx l, by go_num, by omega, rfl, HTW.out.out, (HLX.out.add HLSL.out).congr fun x => ?_, hWr⟩
                constructor
                · rintro (⟨z, h1, h2⟩ | h2)
                  · exact ⟨z, (HSN.out z).2 (.inl h1), h2⟩
                  · exact ⟨y, (HSN.out y).2 (.inr rfl), h2⟩
                · rintro ⟨z, h1, h2⟩
                  rcases (HSN.out z).1 h1 with h1 | rfl
                  · exact .inl ⟨z, h1, h2⟩
                  · exact .inr h2
        · have hqn : ln.take q = ln := List.take_of_length_le (by rw [HLN.out]; omega)
          rw [hqn] at HLX
          have HNEW : Hid (Lists (ECat xs (t.kids.take (j + 1)) i) lx) := HLX.out.congr fun x => by
            rw [HST.out]
            constructor
            · rintro ⟨y, h1, h2⟩
              obtain ⟨y', e, hP⟩ := (HLS.out.2 _).1 h1
              have ey : y = y' := by omega
              subst ey
              exact ⟨y, hP, h2⟩
            · rintro ⟨y, h1, h2⟩
              exact ⟨y, (HLS.out.2 _).2 ⟨y, rfl, h1⟩, h2⟩
          obtain ⟨Ax, cx, hfx⟩ := HNX.out.form
          subst hfx
          generalize hxl : lx.length = X at *
          have HXL := Lib.hid hxl
          clear hqn hxl
          have hlxl : X ≤ L + 1 := by
            rw [← HXL.out]
            exact HNEW.out.len fun x hx => HBD.out _ (List.take_subset _ _) i x hile hx
          go_wp2
          obtain ⟨w4, hw4⟩ : ∃ w4, w4 = wr := ⟨_, rfl⟩
          rw [← hw4] at HNX hWq ⊢
          clear hw4
          have HI4 := Lib.hid (HI3.out.stays hWq)
          have HX4 := Lib.hid (HX3.out.stays hWq)
          have HW4 := Lib.hid (gro hW3 hWq)
          go_loopg [22, 23] M (fun m' st kk wq => ∃ (r : Nat) (b : Bool), kk = .int .i64 (r : Int) ∧ st = .bool b ∧ r ≤ M ∧ m' = M - r ∧ (b = true → M = X ∧ ∀ k, k < r → ln[k]? = lx[k]?) ∧ Below w4.heap.size w4 wq)
          case atStart => exact ⟨0, _, rfl, rfl, Nat.zero_le _, rfl, fun e => ⟨by have e' := of_decide_eq_true e; omega, fun k hk => by omega⟩, Below.refl _ _⟩
          case round =>
            obtain ⟨r, b, rfl, rfl, hr, hmr, heq, hWr⟩ := hrel
            have HMR := Lib.hid hmr
            have HEQ := Lib.hid heq
            clear hmr heq
            obtain ⟨c0, c1, c2, c3, c4, c5, c6, c7⟩ := (HX4.out.stays hWr).cell
            cases b
            · by_cases hrt : r < M
              all_goals
                go_wp2
                go_roundg (n' - (j + 1))
                case measure => have := HMJ.out; omega
                case rel => exact ⟨j + 1, lx, by go_num, rfl, by omega, rfl, (HNX.out.stays hWr).lower (by have := BK.out.lt; omega), HNEW.out, HX4.out.stays hWr, gro HW4.out hWr⟩
            · have hMX := (HEQ.out rfl).1
              have HPRE := Lib.hid (HEQ.out rfl).2
              by_cases hrt : r < M
              · have hr1 : r < ln.length := by rw [HLN.out]; exact hrt
                have hr2 : r < lx.length := by rw [HXL.out]; omega
                obtain ⟨ga, ca, e2, _, _, hca⟩ := (HI4.out.stays hWr).at r hr1
                have HNX2 := HNX.out.stays hWr
                rw [← HXL.out] at HNX2
                obtain ⟨gb, cb, e6, _, _, hcb⟩ := HNX2.at r hr2
                injection e2 with e3 e4 e5
                injection e6 with e7 e8 e9
                subst e3 e5 e7 e9
                clear e4 e8 HNX2
                have h1 := List.getElem?_eq_getElem hr1
                have h2 := List.getElem?_eq_getElem hr2
                generalize ln[r]'hr1 = x1 at *
                generalize lx[r]'hr2 = x2 at *
                have H1 := Lib.hid h1
                have H2 := Lib.hid h2
                have HMX := Lib.hid hMX
                have r0 : (0 : Int) ≤ (r : Int) := by omega
                have r1 : (r : Int) < (M : Int) := by omega
                have r2 : (r : Int) < (X : Int) := by omega
                clear h1 h2 hMX
                go_wp2_with fail
                go_quiet (fail)
                go_wp2
                go_roundg (M - (r + 1))
                case measure => have := HMR.out; omega
                case rel =>
                  refine ⟨r + 1, x1 == x2, by go_num, rfl, by omega, rfl, fun e => ⟨HMX.out, fun k hk => ?_⟩, below_drewN hWr _⟩
                  by_cases hkr : k < r
                  · exact HPRE.out k hkr
                  · have hkr' : k = r := by omega
                    subst hkr'
                    rw [H1.out, H2.out]
                    have := eq_of_beq e
                    rw [this]
              · all_goals
                go_wp2
                go_roundg (n' - (j + 1))
                case measure => have := HMJ.out; omega
                case rel => exact ⟨j + 1, lx, by go_num, rfl, by omega, rfl, (HNX.out.stays hWr).lower (by have := BK.out.lt; omega), HNEW.out, HX4.out.stays hWr, gro HW4.out hWr⟩
    · have hjn : j = t.kids.length := by rw [← HN.out]; omega
      have hwhole : t.kids.take j = t.kids := by rw [hjn]; exact List.take_length
      rw [hwhole] at HLS
      have hI5 := HOWN.out
      generalize hln : ln.length = M at *
      have HLN := Lib.hid hln
      have HI5 := Lib.hid hI5
      clear hln hjn hwhole hI5 HOWN
      go_wp2
      obtain ⟨w4, hw4⟩ : ∃ w4, w4 = wr := ⟨_, rfl⟩
      rw [← hw4] at HI5 HX1 hW ⊢
      clear hw4 c0 c1 c2 c3 c4 c5 c6 c7
      go_loopg [13, 24] M (fun m' o' kk wq => ∃ r : Nat, kk = .int .i64 (r : Int) ∧ r ≤ M ∧ m' = M - r ∧ Ints wq w4.heap.size o' (addAll [] (ln.take r)) ∧ Below w4.heap.size w4 wq)
      case atStart => exact ⟨0, rfl, Nat.zero_le _, rfl, Ints.nil _ _, Below.refl _ _⟩
      case round =>
        obtain ⟨r, rfl, hr, hmr, hout, hWr⟩ := hrel
        have HMR := Lib.hid hmr
        have HOUT := Lib.hid hout
        clear hmr hout
        by_cases hrt : r < M
        · have hrt' : r < ln.length := by rw [HLN.out]; exact hrt
          obtain ⟨gl, cl', e2, _, _, hc2⟩ := (HI5.out.stays hWr).at r hrt'
          injection e2 with e3 e4 e5
          subst e3 e5
          clear e4
          have hat := addAll_take [] ln r hrt'
          generalize ln[r]'hrt' = x at *
          have HAT := Lib.hid hat
          have hsz : (addAll [] (ln.take r)).length ≤ 1000000 := by
            have h1 := addAll_len (ln.take r) []
            rw [List.length_take] at h1
            simp only [List.length_nil] at h1
            omega
          have HADD := Lib.hid (add_p wr w4.heap.size u13 (addAll [] (ln.take r)) x HOUT.out hWr.size hsz)
          clear hat hsz
          unfold RetAdd at HADD
          go_wp2_with (go_at_call 84; (with_reducible refine HADD.out.mono ?_); rintro e w6 ⟨v6, rfl, hi6, hg6, hv6⟩)
          go_roundg (M - (r + 1))
          case measure => have := HMR.out; omega
          case rel =>
            refine ⟨r + 1, by go_num, by omega, rfl, ?_, hWr.grown hg6 hWr.size (row_at HOUT.out)⟩
            rw [HAT.out]
            exact hi6
        · have hqn : ln.take r = ln := List.take_of_length_le (by rw [HLN.out]; omega)
          rw [hqn] at HOUT
          go_wp2
          go_ret
          refine ⟨_, addAll [] ln, rfl, HOUT.out.lower (by have := hW.size; omega), (Lists.nil.add HLS.out).congr fun x => ?_, gro hW hWr⟩
          rw [HE.out]
          simp

end Go.Proofs.YtccbeimcggamiaaDoor
