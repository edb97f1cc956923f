/-
  slices.Concat of rows of instructions. Contracts for other texts; no statement of its own.
-/
import Derived.Test.YthhgagghdeocoaaCtMem
import Derived.Lib.AppendZeros
import Derived.Lib.Hide
import Derived.Deep.LoopGhost
set_option linter.unusedVariables false
set_option linter.unusedSimpArgs false
namespace Go.Proofs.Ythhgagghdeocoaa
open Go Go.RowKit

theorem infoIns : ∃ i0 : TypeInfo, Try.prog.info? 68 = some i0 ∧ i0.zero = some (.agg #[.int .i64 0, .int .i64 0, .int .i64 0, .int .i64 0, .int .i64 0, .int .u64 0]) ∧ i0.size = 6 ∧ i0.bytes = 48 :=
  info_parts (show (Try.prog.info? 68).map (fun i => (i.zero, i.size, i.bytes)) = some (some (.agg #[.int .i64 0, .int .i64 0, .int .i64 0, .int .i64 0, .int .i64 0, .int .u64 0]), 6, 48) from by kernel_rfl)
theorem insL_one1 (l : List Ins) : ∀ u ∈ insL l, u.oneCell' = true := fun u hu => by
  unfold insL at hu
  rw [List.mem_flatMap] at hu
  obtain ⟨x, _, hx⟩ := hu
  simp [insC] at hx
  rcases hx with rfl | rfl | rfl | rfl | rfl | rfl <;> rfl
set_option maxRecDepth 20000 in
theorem wpList_ins {w : World} {ops : Array Oper} {rest : List Oper} {o : Oper} {a : Act} {Q : Exit → Act → World → Prop} (hgd : o.guard = none) (s x : Operand)
    (ho : o.op = .call { callee := .builtin .append, args := #[s, x], argTypes := #[63, 63] }) {B B' : Nat} {v : Value} {l m : List Ins} (hs : a.eval s = v) (h : w.ownsRow B 68 6 v l.length (insL l)) {A : Option Addr} {c : Nat} (hx : a.eval x = .slice A m.length c)
    (hm : w.ownsRow B' 68 6 (.slice A m.length c) m.length (insL m)) (hlen : l.length + m.length ≤ 1000000) (hB : B ≤ w.heap.size)
    (hk : ∀ v' w', w'.ownsRow B 68 6 v' (l ++ m).length (insL (l ++ m)) → w.grownBy w' v.ownBlock → wpList Try.prog ops Q rest (a.put o.dst v') w') : wpList Try.prog ops Q (o :: rest) a w := by
  obtain ⟨i0, hi, hz0, hz1, hz2⟩ := infoIns
  refine wpList_app w hgd s x 63 ho B 68 i0 _ 6 48 Try.underlying63 hi hz0 hz1 hz2 rfl (by decide) v l.length (insL l) hs h A m.length c (insL m) hx (insL_len m) ?_ ?_ (insL_one1 m) (by unfold maxLen; omega) (by omega) hB fun v' w' h1 h2 => hk v' w' (by rw [List.length_append, insL_app]; exact h1) h2
  · intro e
    subst e
    rcases hm.2 with ⟨_, e⟩ | ⟨g, cap, cur, e, _⟩
    · exact e
    · cases e
  · intro ad e j u hu
    subst e
    rcases hm.2 with ⟨e, _⟩ | ⟨g, cap, cur, e, _⟩
    · cases e
    · injection e with e1 e2 e3
      injection e1 with e1
      subst e1
      exact World.ownsRow.cells (g := g) hm rfl j u hu

set_option maxRecDepth 20000 in
theorem grow_p (w : World) (N : Nat) (hN : N ≤ 1000000) :
    Calls Try.prog 78 #[.slice none 0 0, .int .i64 (N : Int)] w fun e w' => ∃ v, e = .returned v ∧ w'.ownsRow w.heap.size 68 6 v 0 [] ∧ Below w.heap.size w w' := by
  by_cases h0 : N = 0
  · subst h0
    go_enter Try.func78, Try.ntmps78
    go_wp2
    go_ret
    exact ⟨_, rfl, World.ownsRow_nil _ _ _ 6, Below.refl _ _⟩
  · obtain ⟨i0, hi, hz0, hz1, hz2⟩ := infoIns
    have hr := Lib.run_append_nil_zeros (P := Try.prog) w 63 3 63 68 i0 _ .i64 .i64 Try.underlying63 Try.underlying3 hi hz0 N (by omega) (by rw [hz1]; omega) (by omega) (by rw [hz2]; omega)
    have hge := grownCap_ge w N 0 68
    have hcm := grownCap_le_maxLen w N 0 68 (by unfold maxLen; omega)
    obtain ⟨C, hC⟩ : ∃ C, grownCap w N 0 68 = C := ⟨_, rfl⟩
    rw [hC] at hr hge hcm
    obtain ⟨cur, hcur⟩ : ∃ cur, Builtin.zeroCells (Value.agg #[.int .i64 0, .int .i64 0, .int .i64 0, .int .i64 0, .int .i64 0, .int .u64 0]).cells N ++ Builtin.zeroCells (Value.agg #[.int .i64 0, .int .i64 0, .int .i64 0, .int .i64 0, .int .i64 0, .int .u64 0]).cells (C - N) = cur := ⟨_, rfl⟩
    have hsz : cur.size = C * 6 := by
      rw [← hcur, Array.size_append, size_zeroCells, size_zeroCells]
      show N * 6 + (C - N) * 6 = C * 6
      omega
    rw [hcur] at hr
    have h1 : (0 : Int) < (N : Int) := by omega
    have HS := Lib.hid hsz
    have hcm' : C ≤ 9223372036854775807 := by unfold maxLen at hcm; omega
    clear hcur hC hi hz0 hz1 hz2 hsz h0
    go_enter Try.func78, Try.ntmps78
    go_wp2_with (at_builtin; refine Lib.wpList_append_run _ rfl _ _ _ _ rfl _ _ rfl rfl _ _ hr ?_)
    go_ret
    exact ⟨_, rfl, ⟨rfl, .inr ⟨w.heap.size, C, cur, rfl, Nat.le_refl _, heap_alloc_new w.drew _, Nat.zero_le _, hcm, HS.out, rfl⟩⟩, (Below.refl _ _).drew.alloc (Nat.le_refl _) _⟩

theorem take_flat : ∀ (ls : List (List Ins)) (j : Nat) (l : List Ins), ls[j]? = some l → (ls.take (j + 1)).flatten = (ls.take j).flatten ++ l := fun ls j l h => by
  rw [List.take_add_one, h]
  simp
theorem take_len (ls : List (List Ins)) (j : Nat) : (ls.take j).flatten.length ≤ ls.flatten.length := by
  have e : ls.flatten = (ls.take j).flatten ++ (ls.drop j).flatten := by rw [← List.flatten_append, List.take_append_drop]
  rw [e, List.length_append]
  omega
/-- Concat. -/
theorem concat_p {w : World} {dv : Value} {vs : List Value} {ls : List (List Ins)} (hrow : w.ownsRow 0 63 1 dv vs.length vs) (hlen : vs.length = ls.length) (hpie : ∀ (i : Nat) v l, vs[i]? = some v → ls[i]? = some l → w.ownsRow 0 68 6 v l.length (insL l)) (hmany : ls.flatten.length ≤ 100000) (hn : vs.length ≤ 100000) :
    Calls Try.prog 52 #[dv] w fun e w' => ∃ v, e = .returned v ∧ w'.ownsRow w.heap.size 68 6 v ls.flatten.length (insL ls.flatten) ∧ Below w.heap.size w w' := by
  have hg := fun (W : World) (j : Nat) => grow_p W (ls.take j).flatten.length (Nat.le_trans (take_len ls j) (by omega))
  obtain ⟨N, hN⟩ : ∃ N, vs.length = N := ⟨_, rfl⟩
  obtain ⟨D, cd, rfl⟩ : ∃ A c, dv = .slice A N c := by
    rw [hN] at hrow
    rcases hrow.2 with ⟨e, e0⟩ | ⟨g, cap, cur, e, _⟩
    · subst e0; exact ⟨_, _, e⟩
    · exact ⟨_, _, e⟩
  have hat : ∀ j, j < N → ∃ gd v l A c, D = some ⟨gd, 0, none⟩ ∧ ls[j]? = some l ∧ v = .slice A l.length c ∧ w.ownsRow 0 68 6 v l.length (insL l) ∧ w.cell? ⟨gd, j, none⟩ = some v := fun j hj => by
    obtain ⟨v, hv⟩ : ∃ v, vs[j]? = some v := ⟨_, List.getElem?_eq_getElem (by omega)⟩
    obtain ⟨l, hl⟩ : ∃ l, ls[j]? = some l := ⟨_, List.getElem?_eq_getElem (by omega)⟩
    have ho := hpie j v l hv hl
    have hv' : ∃ A c, v = .slice A l.length c := by
      rcases ho.2 with ⟨e, e0⟩ | ⟨g, cap, cur, e, _⟩
      · rw [e0]; exact ⟨_, _, e⟩
      · exact ⟨_, _, e⟩
    obtain ⟨A, c, e⟩ := hv'
    rw [hN] at hrow
    rcases hrow.2 with ⟨e', e0⟩ | ⟨g, cap, cur, e', _⟩
    · omega
    · injection e' with e1 e2 e3
      subst e1
      exact ⟨g, v, l, A, c, rfl, hl, e, ho, (World.ownsRow.cellAt hrow j (by omega)).trans hv⟩
  have HAT := Lib.hid hat
  have HG := Lib.hid hg
  have HMANY := Lib.hid hmany
  have HTL := Lib.hid (fun j => take_len ls j)
  have hlsN : ls.length = N := by omega
  have HLS := Lib.hid hlsN
  rw [hN] at hn
  clear hat hg hmany hrow hpie hlen hN hlsN
  go_enter Try.func52, Try.ntmps52
  go_wp2
  go_loopg [3, 11] N (fun mm z i wr => ∃ k : Nat, i = .int .i64 (k : Int) ∧ k ≤ N ∧ mm = N - k ∧ z = .int .i64 ((ls.take k).flatten.length : Nat) ∧ wr = w)
  case atStart => exact ⟨0, by first | rfl | trivial, Nat.zero_le _, by first | rfl | trivial, by simp, rfl⟩
  case round =>
    obtain ⟨k, rfl, hk, hmk, rfl, hww⟩ := hrel
    obtain rfl := hww.symm
    have HMK := Lib.hid hmk
    clear hmk
    by_cases hkN : k < N
    · obtain ⟨gd, v, l, A, c, rfl, hl, rfl, ho, hc⟩ := HAT.out k hkN
      have HTF := Lib.hid (take_flat ls k l hl)
      have ht1 := HTL.out (k + 1)
      have hmany := HMANY.out
      rw [HTF.out, List.length_append] at ht1
      have hk1 : (k : Int) < (N : Int) := by omega
      obtain ⟨s, hs⟩ : ∃ s, (ls.take k).flatten.length = s := ⟨_, rfl⟩
      obtain ⟨t, ht⟩ : ∃ t, l.length = t := ⟨_, rfl⟩
      rw [hs, ht] at ht1
      rw [ht] at hc
      rw [hs]
      have HSS := Lib.hid hs
      have HTT := Lib.hid ht
      have hst : s + t ≤ 100000 := by omega
      clear hl ho hs ht ht1 hmany
      go_wp2
      go_roundg (N - (k + 1))
      case measure => have := HMK.out; omega
      case rel => exact ⟨k + 1, by go_num, by omega, rfl, by rw [HTF.out, List.length_append, HSS.out, HTT.out]; go_num, rfl⟩
    · have hkl : k = N := by omega
      subst hkl
      have hmany := HMANY.out
      have htl := HTL.out k
      have hfl : (ls.take k).flatten = ls.flatten := by rw [List.take_of_length_le (by rw [HLS.out]; exact Nat.le_refl _)]
      have hgk := HG.out w k
      obtain ⟨s, hs⟩ : ∃ s, (ls.take k).flatten.length = s := ⟨_, rfl⟩
      rw [hs] at hgk htl ⊢
      have hs5 : s ≤ 100000 := by omega
      have HGK := Lib.hid hgk
      have HFL := Lib.hid hfl
      clear hs
      clear hmany htl hfl hgk
      go_wp2_with (first
        | (go_at_call 78; (with_reducible refine HGK.out.mono ?_); rintro e w1 ⟨v1, rfl, ho1, hb1⟩; have HO1 := Lib.hid ho1; have HB1 := Lib.hid hb1; clear ho1 hb1)
        | fail)
      have HST1 : Hid (w1.ownsRow w.heap.size 68 6 v1 (ls.take 0).flatten.length (insL (ls.take 0).flatten)) := HO1
      go_loopg [6, 27] k (fun mm v i wi => ∃ j : Nat, i = .int .i64 (j : Int) ∧ j ≤ k ∧ mm = k - j ∧ wi.ownsRow w.heap.size 68 6 v (ls.take j).flatten.length (insL (ls.take j).flatten) ∧ Below w.heap.size w wi)
      case atStart => exact ⟨0, by first | rfl | trivial, Nat.zero_le _, by first | rfl | trivial, HST1.out, HB1.out⟩
      case round =>
        obtain ⟨j, rfl, hj, hmj, hoj, hbj⟩ := hrel
        have HMJ := Lib.hid hmj
        have HOJ := Lib.hid hoj
        have HBJ := Lib.hid hbj
        clear hmj hoj hbj
        by_cases hjk : j < k
        · obtain ⟨gd, v, l, A, c, rfl, hl, rfl, ho, hc⟩ := HAT.out j hjk
          have HTF := Lib.hid (take_flat ls j l hl)
          have ht1 := HTL.out (j + 1)
          rw [HTF.out, List.length_append] at ht1
          have hm5 := HMANY.out
          have HLE := Lib.hid (show (ls.take j).flatten.length + l.length ≤ 1000000 by omega)
          have hk1 : (j : Int) < (k : Int) := by omega
          have hc' := cell_stays hc HBJ.out
          have HO := Lib.hid (own_stays ho HBJ.out)
          obtain ⟨t, ht⟩ : ∃ t, l.length = t := ⟨_, rfl⟩
          have HTT := Lib.hid ht
          rw [ht] at hc'
          clear hl ho hc ht ht1 hm5
          go_wp2_with (first
            | (at_builtin; refine wpList_ins (by rfl) _ _ (by rfl) (by rfl) HOJ.out (by rw [HTT.out]; rfl) HO.out HLE.out HBJ.out.size ?_; intro v7 w7 ho7 hg7; have HO7 := Lib.hid ho7; have HG7 := Lib.hid hg7; clear ho7 hg7)
            | fail)
          go_roundg (k - (j + 1))
          case measure => have := HMJ.out; omega
          case rel => exact ⟨j + 1, by go_num, by omega, rfl, by rw [HTF.out]; exact HO7.out, HBJ.out.grown HG7.out HBJ.out.size fun b e => (World.ownsRow.lt HOJ.out b e).1⟩
        · have hjl : j = k := by omega
          subst hjl
          go_wp2
          go_ret
          exact ⟨_, rfl, by rw [← HFL.out]; exact HOJ.out, HBJ.out⟩
end Go.Proofs.Ythhgagghdeocoaa
