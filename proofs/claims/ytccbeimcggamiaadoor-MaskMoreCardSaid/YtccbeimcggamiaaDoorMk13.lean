/-
  Several texts of this proof in one file: ByteApp, MskList, MskMask. No statement of its own.
-/
import Derived.Test.YtccbeimcggamiaaDoorMk5
import Derived.Maps.AppendAt
import Derived.Laws.OwnMore
import Derived.Test.YtccbeimcggamiaaDoorRows
import Derived.Test.YtccbeimcggamiaaDoorMk12
import Derived.Lib.BufferMore
set_option linter.unusedVariables false
set_option linter.unusedSimpArgs false

/-
  Rows of bytes of one's own, and append onto them. Laws for other texts; no statement of its own.
-/
namespace Go.Proofs.YtccbeimcggamiaaDoor
open Go Go.RowKit

theorem Tryd.infoB : (Tryd.prog.info? 5).map (fun i => (i.zero, i.size, i.bytes)) = some (some (.int .u8 0), 1, 1) := by kernel_rfl
/-- A row of bytes in memory of one's own. -/
def Bys (w : World) (B : Nat) (v : Value) (l : List Int) : Prop := w.ownsRow B 5 1 v l.length (l.map (Value.int .u8))
section
variable {w w' : World} {B C D : Nat} {v : Value} {l m : List Int} {A : Option Addr}
theorem Bys.stays (h : Bys w B v l) (hb : Below w.heap.size w w') : Bys w' B v l := own_stays h hb
theorem Bys.alloc (h : Bys w B v l) (o : Obj) : Bys (w.alloc o) B v l := h.stays ((Below.refl _ _).alloc (Nat.le_refl _) _)
theorem Bys.drew (h : Bys w B v l) : Bys w.drew B v l := h
theorem Bys.kept {row : Option Nat} (h : Bys w B v l) (hg : w.grownBy w' row) (hr : ∀ g, v.ownBlock = some g → row = some g → False) : Bys w' B v l := by
  refine World.ownsRow.kept h hg ?_
  cases e : v.ownBlock with
  | none => exact .inl rfl
  | some g => exact .inr fun e' => hr g e e'.symm
theorem Bys.low (h : Bys w B v l) (hC : C ≤ B) : Bys w C v l := own_lower h hC
theorem Bys.form (h : Bys w B v l) : ∃ A c, v = .slice A l.length c := by
  rcases h.2 with ⟨rfl, h0⟩ | ⟨g, cap, cur, rfl, _⟩
  · exact ⟨none, 0, by rw [h0]⟩
  · exact ⟨_, _, rfl⟩
theorem Bys.in (h : Bys w B v l) {b : Nat} (hb : v.ownBlock = some b) : B ≤ b ∧ b < w.heap.size := World.ownsRow.lt h b hb
theorem Bys.rd (h : Bys w B v l) : ∃ A c, v = .slice A l.length c ∧ RdB w w.heap.size A l := by
  obtain ⟨A, c, e, _, hr, _⟩ := rd_own h
  exact ⟨A, c, e, hr⟩
theorem Bys.pos (h : Bys w B v l) (h0 : 0 < l.length) : ∃ g c, v = .slice (some ⟨g, 0, none⟩) l.length c ∧ B ≤ g ∧ g < w.heap.size := by
  rcases h.2 with ⟨rfl, h1⟩ | ⟨g, cap, cur, rfl, hB, hg, _⟩
  · omega
  · exact ⟨g, cap, rfl, hB, lt_of_some hg⟩
theorem Bys.store {g n c : Nat} (h : Bys w B (.slice (some ⟨g, 0, none⟩) n c) l) (j : Nat) (y : Int) : Bys (w.setCell ⟨g, j, none⟩ (.int .u8 y)) B (.slice (some ⟨g, 0, none⟩) n c) (l.set j y) := by
  have hn : n = l.length := by obtain ⟨A, c', e⟩ := h.form; injection e
  subst hn
  have h1 := (World.ownsRow.stored h j (.int .u8 y)).1
  unfold Bys
  rw [List.length_set, List.map_set]
  exact h1
theorem Bys.frozen {g n c : Nat} (h : Bys w B (.slice (some ⟨g, 0, none⟩) n c) l) (j : Nat) : w.frozen? ⟨g, j, none⟩ = false := by
  have hn : n = l.length := by obtain ⟨A, c', e⟩ := h.form; injection e
  subst hn
  exact World.ownsRow.frozenAt h j
theorem Bys.rdAt {n c : Nat} (h : Bys w B (.slice A n c) l) : RdB w w.heap.size A l := by
  obtain ⟨A', c', e, hr⟩ := h.rd
  injection e with e
  subst e
  exact hr
theorem Bys.cell {g n c : Nat} (h : Bys w B (.slice (some ⟨g, 0, none⟩) n c) l) (j : Nat) (hj : j < l.length) : w.cell? ⟨g, j, none⟩ = some (.int .u8 (l.getD j 0)) := by
  obtain ⟨b, off, e, _, hc⟩ := h.rdAt j hj
  injection e with e
  injection e with e1 e2
  subst e1 e2
  rwa [Nat.zero_add] at hc
theorem Bys.empty (w : World) (hB : B ≤ w.heap.size) : Bys (w.alloc (.cells #[] 5)) B (.slice (some ⟨w.heap.size, 0, none⟩) 0 0) [] :=
  ⟨by simp, .inr ⟨w.heap.size, 0, #[], rfl, hB, heap_alloc_new w _, Nat.le_refl _, by decide, by simp, rfl⟩⟩
theorem Bys.one (w : World) (hB : B ≤ w.heap.size) (x : Int) : Bys (w.alloc (.cells #[.int .u8 x] 5)) B (.slice (some ⟨w.heap.size, 0, none⟩) 1 1) [x] :=
  ⟨by simp, .inr ⟨w.heap.size, 1, #[.int .u8 x], rfl, hB, heap_alloc_new w _, Nat.le_refl _, by decide, by simp, rfl⟩⟩
theorem Bys.emptyAt {g : Nat} (hg : w.heap.size = g) (hB : B ≤ g) : Bys (w.alloc (.cells #[] 5)) B (.slice (some ⟨g, 0, none⟩) 0 0) [] := by
  subst hg
  exact Bys.empty w hB
theorem Bys.oneAt {g : Nat} (x : Int) (hg : w.heap.size = g) (hB : B ≤ g) : Bys (w.alloc (.cells #[.int .u8 x] 5)) B (.slice (some ⟨g, 0, none⟩) 1 1) [x] := by
  subst hg
  exact Bys.one w hB x
theorem bys_one (l : List Int) : ∀ u ∈ l.map (Value.int .u8), u.oneCell' = true := by
  intro u hu
  simp only [List.mem_map] at hu
  obtain ⟨x, _, rfl⟩ := hu
  rfl
theorem RdB.news (h : RdB w C A m) : ∀ ad, A = some ad → ∀ j u, (m.map (Value.int .u8))[j]? = some u → w.cell? (ad.add j) = some u := by
  intro ad hA j u hu
  rcases Nat.lt_or_ge j m.length with hj | hj
  · obtain ⟨b, off, e, _, hc⟩ := h j hj
    rw [hA] at e
    injection e with e
    subst e
    rw [Addr.add_lit, hc, ← hu]
    simp [hj]
  · rw [List.getElem?_eq_none (by simpa using hj)] at hu
    cases hu
theorem RdB.nil0 (h : RdB w C A m) (hA : A = none) : m.length = 0 := by
  rcases Nat.eq_zero_or_pos m.length with h0 | h0
  · exact h0
  · obtain ⟨b, off, e, _⟩ := h 0 h0
    rw [hA] at e
    cases e
/-- append of bytes onto a row. -/
theorem run_bys (ty : TypeId) (cap : Nat) {k : Nat} (hk : k = m.length) (h : Bys w B v l) (hr : RdB w C A m) (hl : l.length + m.length ≤ 1000000) (hB : B ≤ w.heap.size) :
    ∃ v' w', (Builtin.append_ #[22, 22] ty #[v, .slice A k cap]).run Tryd.prog w = .ok v' w' ∧ Bys w' B v' (l ++ m) ∧ w.grownBy w' v.ownBlock ∧ (v'.ownBlock = v.ownBlock ∨ v'.ownBlock = some w.heap.size) := by
  subst hk
  obtain ⟨i0, hi, hz0, hz1, hz2⟩ := info_parts Tryd.infoB
  unfold Bys at h ⊢
  rw [List.length_append, List.map_append]
  cases A with
  | none =>
    have hm := hr.nil0 rfl
    have hm' : m = [] := List.eq_nil_of_length_eq_zero hm
    subst hm'
    refine ⟨v, w, ?_, by simpa using h, ⟨rfl, rfl, rfl, Nat.le_refl _, fun _ _ _ => rfl⟩, .inl rfl⟩
    rcases h.2 with ⟨rfl, h0⟩ | ⟨g, cap, cur, rfl, _, _, hnc, _⟩
    · simp [Builtin.append_, run_underlying Tryd.underlying22, sizeOf, typeInfo, hi, Builtin.lenOf, Builtin.firstCells]
    · simp [Builtin.append_, run_underlying Tryd.underlying22, sizeOf, typeInfo, hi, Builtin.lenOf, Builtin.firstCells, hnc, storeCells]
  | some ad =>
    obtain ⟨v', w', hr', h2, h3, _, h5⟩ := run_append_own_at (P := Tryd.prog) w B 22 ty 5 i0 (.int .u8 0) 1 1 Tryd.underlying22 hi hz0 hz1 hz2 rfl (by decide) v l.length _ h ad m.length cap (m.map (Value.int .u8)) (by simp) (hr.news ad rfl) (bys_one m) (by unfold maxLen; omega) (by omega) hB
    exact ⟨v', w', hr', h2, h3, h5⟩
variable {o : Oper} {a : Act} {cap k : Nat}
theorem wp_bys {K : Act → World → Prop} {Q : Exit → Act → World → Prop} (s x : Operand) (ho : o.op = .call { callee := .builtin .append, args := #[s, x], argTypes := #[22, 22] })
    (hs : a.eval s = v) (hx : a.eval x = .slice A k cap) (hk : k = m.length) (h : Bys w B v l) (hr : RdB w C A m) (hl : l.length + m.length ≤ 1000000) (hB : B ≤ w.heap.size)
    (hK : ∀ v' w', Bys w' B v' (l ++ m) → w.grownBy w' v.ownBlock → (v'.ownBlock = v.ownBlock ∨ v'.ownBlock = some w.heap.size) → K (a.put o.dst v') w') : o.wp Tryd.prog a w K Q := by
  obtain ⟨v', w', hr, h2, h3, h4⟩ := run_bys o.type cap hk h hr hl hB
  unfold Oper.wp execOp
  simp only [ho, resolve, invoke, builtin, Sem.run_bind, Sem.run_pure, Result.andThen_ok, List.map_toArray, List.map_cons, List.map_nil, hs, hx, hr]
  exact hK v' w' h2 h3 h4
theorem wpList_bys {ops : Array Oper} {rest : List Oper} {Q : Exit → Act → World → Prop} (hgd : o.guard = none) (s x : Operand) (ho : o.op = .call { callee := .builtin .append, args := #[s, x], argTypes := #[22, 22] })
    (hs : a.eval s = v) (hx : a.eval x = .slice A k cap) (hk : k = m.length) (h : Bys w B v l) (hr : RdB w C A m) (hl : l.length + m.length ≤ 1000000) (hB : B ≤ w.heap.size)
    (hK : ∀ v' w', Bys w' B v' (l ++ m) → w.grownBy w' v.ownBlock → (v'.ownBlock = v.ownBlock ∨ v'.ownBlock = some w.heap.size) → wpList Tryd.prog ops Q rest (a.put o.dst v') w') : wpList Tryd.prog ops Q (o :: rest) a w :=
  wpList_plain hgd fun _ hK' => wp_bys s x ho hs hx hk h hr hl hB fun v' w' h2 h3 h4 => hK' _ _ (hK v' w' h2 h3 h4)
theorem step_bys {ops : Array Oper} {K : Act → World → Prop} {Q : Exit → Act → World → Prop} {E : Prop} (hgd : o.guard = none) (s x : Operand) (ho : o.op = .call { callee := .builtin .append, args := #[s, x], argTypes := #[22, 22] })
    (hs : a.eval s = v) (hx : a.eval x = .slice A k cap) (hk : k = m.length) (h : Bys w B v l) (hr : RdB w C A m) (hl : l.length + m.length ≤ 1000000) (hB : B ≤ w.heap.size)
    (hK : ∀ v' w', Bys w' B v' (l ++ m) → w.grownBy w' v.ownBlock → (v'.ownBlock = v.ownBlock ∨ v'.ownBlock = some w.heap.size) → K (a.put o.dst v') w') : if Region.wanted o (yielded ops a.tmps) = true then Oper.wp Tryd.prog o a w K Q else E := by
  have hw : Region.wanted o (yielded ops a.tmps) = true := by simp [Region.wanted, hgd]
  rw [if_pos hw]
  exact wp_bys s x ho hs hx hk h hr hl hB hK
theorem RdB.take (h : RdB w C A m) (k : Nat) : RdB w C A (m.take k) := by
  intro j hj
  simp at hj
  obtain ⟨b, off, e, hb, hc⟩ := h j (by omega)
  refine ⟨b, off, e, hb, ?_⟩
  rw [hc]
  simp [List.getD_eq_getElem?_getD, List.getElem?_take_of_lt (show j < k by omega)]
theorem RdB.drop {b off : Nat} (h : RdB w C (some ⟨b, off, none⟩) m) (k : Nat) : RdB w C (some ⟨b, off + k, none⟩) (m.drop k) := by
  intro j hj
  simp at hj
  obtain ⟨b', off', e, hb, hc⟩ := h (k + j) (by omega)
  injection e with e
  injection e with e1 e2
  subst e1 e2
  refine ⟨b, off + k, rfl, hb, ?_⟩
  rw [show off + k + j = off + (k + j) by omega, hc]
  simp [List.getD_eq_getElem?_getD, List.getElem?_drop]
end
end Go.Proofs.YtccbeimcggamiaaDoor

/-
  mask: bytes of which some are hidden, as a list. Mathematics for other texts; no statement of its own.
-/
namespace Go.Proofs.YtccbeimcggamiaaDoor

/-- What is left when F's bytes are hidden by m. -/
def mskL (F : Nat → Bool) (m : Int) (xs : List Int) (k : Nat) : List Int := (List.range xs.length).map fun j => if (decide (j < k) && F j) = true then m else xs.getD j 0
theorem mskL_len (F : Nat → Bool) (m : Int) (xs : List Int) (k : Nat) : (mskL F m xs k).length = xs.length := by simp [mskL]
theorem mskL_get (F : Nat → Bool) (m : Int) (xs : List Int) (k j : Nat) (hj : j < xs.length) : (mskL F m xs k)[j]? = some (if (decide (j < k) && F j) = true then m else xs.getD j 0) := by simp [mskL, hj]
theorem mskL_zero (F : Nat → Bool) (m : Int) (xs : List Int) : mskL F m xs 0 = xs := by
  apply List.ext_getElem?
  intro j
  by_cases hj : j < xs.length
  · rw [mskL_get _ _ _ _ _ hj, List.getElem?_eq_getElem hj]
    simp [hj]
  · rw [List.getElem?_eq_none (by rw [mskL_len]; omega), List.getElem?_eq_none (by omega)]
theorem mskL_yes {F : Nat → Bool} {m : Int} {xs : List Int} {k : Nat} (hk : k < xs.length) (h : F k = true) : (mskL F m xs k).set k m = mskL F m xs (k + 1) := by
  apply List.ext_getElem?
  intro j
  rw [List.getElem?_set]
  by_cases hj : j < xs.length
  · rw [mskL_get _ _ _ _ _ hj, mskL_get _ _ _ _ _ hj]
    by_cases e : k = j
    · subst e
      rw [if_pos rfl, if_pos (by rw [mskL_len]; exact hk)]
      simp [h]
    · rw [if_neg e]
      have : decide (j < k) = decide (j < k + 1) := by
        by_cases hjk : j < k
        · simp [hjk, show j < k + 1 by omega]
        · simp [hjk, show ¬ j < k + 1 by omega]
      rw [this]
  · rw [if_neg (by omega), List.getElem?_eq_none (by rw [mskL_len]; omega), List.getElem?_eq_none (by rw [mskL_len]; omega)]
theorem mskL_no {F : Nat → Bool} {m : Int} {xs : List Int} {k : Nat} (h : F k = false) : mskL F m xs k = mskL F m xs (k + 1) := by
  apply List.ext_getElem?
  intro j
  by_cases hj : j < xs.length
  · rw [mskL_get _ _ _ _ _ hj, mskL_get _ _ _ _ _ hj]
    by_cases e : k = j
    · subst e
      simp [h]
    · have : decide (j < k) = decide (j < k + 1) := by
        by_cases hjk : j < k
        · simp [hjk, show j < k + 1 by omega]
        · simp [hjk, show ¬ j < k + 1 by omega]
      rw [this]
  · rw [List.getElem?_eq_none (by rw [mskL_len]; omega), List.getElem?_eq_none (by rw [mskL_len]; omega)]
theorem mskL_ext {F G : Nat → Bool} {m : Int} {xs : List Int} {k : Nat} (h : ∀ j, j < xs.length → F j = G j) : mskL F m xs k = mskL G m xs k := by
  unfold mskL
  apply List.map_congr_left
  intro j hj
  rw [h j (by simpa using hj)]

end Go.Proofs.YtccbeimcggamiaaDoor

/-
  mask.Mask: what is left when bytes are hidden. Contracts for other texts; no statement of its own.
-/
namespace Go.Proofs.YtccbeimcggamiaaDoor
open Go Go.RowKit
attribute [local go_sem ↓] Go.wp_at_zero Go.wp_at_succ

set_option maxRecDepth 20000 in
set_option maxHeartbeats 1000000 in
theorem bclone_p {w : World} {A : Option Addr} {n c : Nat} {xs : List Int} (hn : n = xs.length) (hrd : RdB w w.heap.size A xs) (hlen : xs.length ≤ 100000) :
    Calls Tryd.prog 55 #[.slice A n c] w fun e w' => ∃ v, e = .returned v ∧ Bys w' w.heap.size v xs ∧ Below w.heap.size w w' := by
  subst hn
  cases A with
  | none =>
    have h0 := hrd.nil0 rfl
    have hx : xs = [] := List.length_eq_zero_iff.1 h0
    subst hx
    clear hrd h0
    have he := Lib.run_eql_slice_nil_nil (P := Tryd.prog) w 0 c Tryd.underlying22
    go_enter Tryd.func55, Tryd.ntmps55
    go_wp2
    go_ret
    exact ⟨_, rfl, World.ownsRow_nil w w.heap.size _ 1, Below.refl _ _⟩
  | some ad =>
    obtain ⟨L, hL⟩ : ∃ L, xs.length = L := ⟨_, rfl⟩
    have he := Lib.run_eql_slice_some_nil (P := Tryd.prog) w ad L c Tryd.underlying22
    have HRD := Lib.hid hrd
    have HLL := Lib.hid hL
    have hB1 : Below w.heap.size w (w.alloc (.cells #[] 5)) := (Below.refl _ _).alloc (Nat.le_refl _) _
    have HB1 := Lib.hid hB1
    rw [hL] at hlen ⊢
    clear hrd hL hB1
    go_enter Tryd.func55, Tryd.ntmps55
    go_wp2_with (at_builtin; refine wpList_bys (by rfl) _ _ (by rfl) (by rfl) (by rfl) HLL.out.symm (Bys.empty w (Nat.le_refl _)) (HRD.out.below HB1.out) (by rw [HLL.out]; simp; omega) (by simp) ?_; intro v' w' b' g' o'; have B' := Lib.hid b'; have G' := Lib.hid g'; clear b' g')
    go_ret
    exact ⟨_, rfl, by simpa using B'.out, HB1.out.grown G'.out HB1.out.size fun q e => Nat.le_of_eq (by simpa [Value.ownBlock] using e)⟩

/-- What Mask tells. -/
def RetMsk (w : World) (xs : List Int) (m : Int) (P : Nat → Prop) (e : Ending) (w' : World) : Prop := ∃ v F, e = .returned v ∧ Bys w' w.heap.size v (mskL F m xs xs.length) ∧ (∀ j, j < xs.length → (F j = true ↔ P j)) ∧ Below w.heap.size w w'

set_option maxRecDepth 20000 in
set_option maxHeartbeats 4000000 in
theorem mmask_p {w : World} {A B : Option Addr} {cl cx : Nat} {l : List (T × Bool)} {lam m : Int} {xs : List Int} (hl : RdRules w A l) (hwf : ∀ r ∈ l, WF r.1) (hn : l.length ≤ 100000) (hrd : RdB w w.heap.size B xs) (hby : byteOk xs) (hlen : xs.length ≤ 100000) (hcap : xs.length ≤ cx) (htab : Tab w)
    (hlam : -9223372036854775808 ≤ lam ∧ lam ≤ 9223372036854775807) :
    Calls Tryd.prog 24 #[.slice A l.length cl, .int .i64 lam, .int .u8 m, .slice B xs.length cx] w (RetMsk w xs m (Cov l lam xs)) := by
  have hcl := bclone_p (c := cx) rfl hrd hlen
  have hcov := fun W (hb : Below w.heap.size w W) => mcover_p (w := W) (cl := cl) (cx := cx) (hl.stays hb) hwf hn ((hrd.below hb).more hb.size) hby hlen hcap (htab.below hb htab.1) hlam
  obtain ⟨N, hN⟩ : ∃ N, l.length = N := ⟨_, rfl⟩
  obtain ⟨L, hL⟩ : ∃ L, xs.length = L := ⟨_, rfl⟩
  unfold RetCov at hcov
  rw [hL] at hcl
  rw [hL, hN] at hcov
  rw [hL, hN]
  have HCL := Lib.hid hcl
  have HCOV := Lib.hid hcov
  have HLL := Lib.hid hL
  rw [hL] at hlen
  clear hcl hcov hl hwf hrd hby htab hL hN hcap
  go_enter Tryd.func24, Tryd.ntmps24
  go_wp2_with (first
    | (go_at_call 55; (with_reducible refine HCL.out.mono ?_); rintro e w1 ⟨v1, rfl, b1, hb1⟩; obtain ⟨A1, c1, e1⟩ := b1.form; rw [HLL.out] at e1; subst e1; have BY1 := Lib.hid b1; have HB1 := Lib.hid hb1; clear b1 hb1)
    | (go_at_call 22; (with_reducible refine (HCOV.out _ HB1.out).mono ?_); rintro e w2 ⟨g, F, rfl, o2, f2, hb2⟩; have O2 := Lib.hid o2; have F2 := Lib.hid f2; have HB2 := Lib.hid hb2; clear o2 f2 hb2)
    | fail)
  have hgF := O2.out.in
  have hw1 := HB1.out.size
  have HST : Hid (Bys w2 w.heap.size (.slice A1 L c1) (mskL F m xs 0)) := by
    show Bys _ _ _ _
    rw [mskL_zero]
    exact BY1.out.stays HB2.out
  have HB12 := Lib.hid (gro HB1.out HB2.out)
  go_loopg [19] L (fun mm i wr => ∃ k : Nat, i = .int .i64 (k : Int) ∧ k ≤ L ∧ mm = L - k ∧ Bys wr w.heap.size (.slice A1 L c1) (mskL F m xs k) ∧ Bools wr w1.heap.size g L F ∧ Below w.heap.size w wr)
  case atStart => exact ⟨0, by first | rfl | trivial, Nat.zero_le _, by first | rfl | trivial, HST.out, O2.out, HB12.out⟩
  case round =>
    obtain ⟨k, rfl, hk, hmk, hy, ho, hb⟩ := hrel
    have HMK := Lib.hid hmk
    have HO := Lib.hid ho
    have HB := Lib.hid hb
    clear hmk ho hb
    by_cases hkL : k < L
    · have hkx : k < xs.length := by rw [HLL.out]; exact hkL
      obtain ⟨gy, cy, ey, hy1, hy2⟩ := hy.pos (by rw [mskL_len]; omega)
      rw [mskL_len, HLL.out] at ey
      simp only [Value.slice.injEq] at ey
      obtain ⟨rfl, -, rfl⟩ := ey
      have o1 := HO.out.cell k hkL
      have y1 := hy.cell k (by rw [mskL_len]; exact hkx)
      have y2 := hy.frozen k
      have k0 : (0 : Int) ≤ (k : Int) := by omega
      have k1 : (k : Int) < (L : Int) := by omega
      have HY := Lib.hid hy
      have HYK := Lib.hid (by obtain ⟨cur, hc⟩ := own_kind hy (b := gy) rfl; exact (⟨cur, hc⟩ : ∃ cur, wr.heap[gy]? = some (.cells cur 5 (0, 0))))
      obtain ⟨fb, hfb⟩ : ∃ fb, F k = fb := ⟨_, rfl⟩
      rw [hfb] at o1
      have HFB := Lib.hid hfb
      clear hy hfb
      cases fb
      · go_wp2
        go_roundg (L - (k + 1))
        case measure => have := HMK.out; omega
        case rel => exact ⟨k + 1, by go_num, by omega, rfl, by rw [← mskL_no HFB.out]; exact HY.out, HO.out, HB.out⟩
      · go_wp2
        go_roundg (L - (k + 1))
        case measure => have := HMK.out; omega
        case rel =>
          refine ⟨k + 1, by go_num, by omega, rfl, by rw [← mskL_yes hkx HFB.out]; exact HY.out.store k m, HO.out.off ((Kept.refl (fun x => x = gy) wr).setCell (a := ⟨gy, k, none⟩) (.inl rfl) _) fun e => ?_, HB.out.setCell hy1 _⟩
          have e' : g = gy := e
          subst e'
          obtain ⟨c1', h1'⟩ := HYK.out
          obtain ⟨c2', h2'⟩ := HO.out.kind
          exact kind_apart h1' h2' (by decide) rfl
    · have hkl : k = L := by omega
      subst hkl
      go_wp2
      go_ret
      exact ⟨_, F, rfl, by rw [HLL.out]; exact hy, fun j hj => F2.out j (by rw [← HLL.out]; exact hj), HB.out⟩
end Go.Proofs.YtccbeimcggamiaaDoor
