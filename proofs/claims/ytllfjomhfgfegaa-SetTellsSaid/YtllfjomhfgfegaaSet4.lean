/-
  What set.Bytes does, whatever set it is called with: a new row of bytes, those of the set, by size. A contract for other texts; no statement of its own.
-/
import Derived.Test.YtllfjomhfgfegaaSet3
set_option linter.unusedVariables false
set_option linter.unusedSimpArgs false
namespace Go.Proofs.Ytllfjomhfgfegaa
open Go Go.RowKit

/-- The numbers below k that the set p has, by size. -/
def listP (p : Nat → Bool) (k : Nat) : List Int := ((List.range k).filter p).map fun x : Nat => (x : Int)
theorem listP_hit (p : Nat → Bool) (k : Nat) (h : p k = true) : listP p (k + 1) = listP p k ++ [(k : Int)] := by
  unfold listP
  rw [List.range_succ, List.filter_append, List.map_append]
  simp [h]
theorem listP_miss (p : Nat → Bool) (k : Nat) (h : p k = false) : listP p (k + 1) = listP p k := by
  unfold listP
  rw [List.range_succ, List.filter_append, List.map_append]
  simp [h]
theorem listP_len : ∀ (p : Nat → Bool) (k : Nat), (listP p k).length = cntN p k
  | p, 0 => rfl
  | p, k + 1 => by
    rw [cntN_add k 1]
    cases h : p k
    · rw [listP_miss p k h, listP_len p k]; simp [cntN, h]
    · rw [listP_hit p k h, List.length_append, listP_len p k]; simp [cntN, h]
theorem listP_le (p : Nat → Bool) (k : Nat) : (listP p k).length ≤ k := by rw [listP_len]; exact cntN_le _ _
theorem listP_mem (p : Nat → Bool) (k : Nat) (v : Int) : v ∈ listP p k ↔ 0 ≤ v ∧ v < k ∧ p v.toNat = true := by
  unfold listP
  simp only [List.mem_map, List.mem_filter, List.mem_range]
  constructor
  · rintro ⟨x, ⟨h1, h2⟩, rfl⟩
    exact ⟨by omega, by omega, by simpa using h2⟩
  · rintro ⟨h0, h1, h2⟩
    exact ⟨v.toNat, ⟨by omega, h2⟩, by omega⟩
theorem listP_get (p : Nat → Bool) (k : Nat) (hk : k ≤ 256) : ∀ j, j < (listP p k).length → 0 ≤ (listP p k).getD j 0 ∧ (listP p k).getD j 0 ≤ 255 := by
  intro j hj
  have : (listP p k).getD j 0 ∈ listP p k := by
    rw [List.getD_eq_getElem?_getD, List.getElem?_eq_getElem hj]
    exact List.getElem_mem hj
  have := (listP_mem p k _).1 this
  omega
theorem memP_list (p : Nat → Bool) (k x : Nat) (hx : x < k) : memP (listP p k) x = p x := by
  unfold memP
  rw [Bool.eq_iff_iff, List.any_eq_true]
  constructor
  · rintro ⟨v, hv, e⟩
    have := (listP_mem p k v).1 hv
    have e' : v = (x : Int) := by simpa using e
    subst e'
    simpa using this.2.2
  · intro h
    exact ⟨(x : Int), (listP_mem p k _).2 ⟨by omega, by omega, by simpa using h⟩, by simp⟩

/-- All bytes of the set p, by size. -/
def allP (p : Nat → Bool) : List Int := listP p 256

theorem allP_get (p : Nat → Bool) : ∀ j, j < (allP p).length → 0 ≤ (allP p).getD j 0 ∧ (allP p).getD j 0 ≤ 255 := listP_get p 256 (by omega)
theorem allP_le (p : Nat → Bool) : (allP p).length ≤ 9223372036854775807 := by have := listP_le p 256; unfold allP; omega
theorem memP_all (p : Nat → Bool) (x : Nat) (hx : x < 256) : memP (allP p) x = p x := memP_list p 256 x hx

theorem Try.infoByte : (Try.prog.info? 5).map (fun i => (i.zero, i.size, i.bytes)) = some (some (.int .u8 0), 1, 1) := by kernel_rfl

set_option maxRecDepth 20000 in
set_option maxHeartbeats 400000 in
theorem bytes_p (p : Nat → Bool) (w : World) :
    Calls Try.prog 17 #[.agg #[.int .u64 (word p 0), .int .u64 (word p 1), .int .u64 (word p 2), .int .u64 (word p 3)]] w
      fun e w' => ∃ v, e = .returned v ∧ w'.ownsRow w.heap.size 5 1 v (allP p).length ((allP p).map (Value.int .u8)) ∧ Below w.heap.size w w' := by
  obtain ⟨i0, hi, hz0, hz1, hz2⟩ := info_parts Try.infoByte
  go_enter Try.func17, Try.ntmps17
  go_wp2
  go_loopw [3, 5] (fun v i wr => ∃ k : Nat, k ≤ 256 ∧ i = .int .i64 k ∧ wr.ownsRow (w.heap.size + 1) 5 1 v (listP p k).length ((listP p k).map (Value.int .u8)) ∧ Box4 wr w.heap.size p ∧ Below w.heap.size w wr)
    (fun _ i _ => 256 - (intOf i).toNat)
  case atStart => exact ⟨0, by omega, rfl, World.ownsRow_nil _ _ _ _, Box4.new w p, (Below.refl _ _).alloc (Nat.le_refl _) _⟩
  case round =>
    obtain ⟨k, hk, rfl, hown, b0, hnx⟩ := hrel
    have hs := b0.lt
    obtain ⟨c0, c1, c2, c3⟩ := b0.cell
    by_cases hlt : k < 256
    · have hle := listP_le p k
      cases hp : p k
      · have HE := Lib.hid (listP_miss p k hp)
        go_wp2_with (go_at_call 15; (with_reducible refine (has_p p k _ (by omega) (by omega)).mono ?_); rintro e w1 ⟨rfl, hb1⟩; rw [Int.toNat_natCast, hp])
        go_roundw
        case rel => exact ⟨k + 1, by omega, by go_num, by rw [HE.out]; exact own_stays hown hb1, b0.stays hb1, hnx.trans (hb1.mono (by omega))⟩
        case measure => simp [intOf]; omega
      · have HE := Lib.hid (listP_hit p k hp)
        go_wp2_with (first
          | (go_at_call 15; (with_reducible refine (has_p p k _ (by omega) (by omega)).mono ?_); rintro e w1 ⟨rfl, hb1⟩; rw [Int.toNat_natCast, hp]; have hown1 := own_stays hown hb1; have b1 := b0.stays hb1; have hs1 := hb1.size)
          | (at_builtin; refine wpList_append_own _ rfl _ _ 22 rfl (w.heap.size + 1) 5 i0 (.int .u8 0) 1 1 Try.underlying22 hi hz0 hz1 hz2 rfl (by decide) _ _ _ rfl (hown1.alloc _) ⟨w1.heap.size, 0, none⟩ 1 1 [.int .u8 (k : Int)] rfl rfl ?c1 ?c2 ?c3 ?c4 ?c5 ?_))
        case c1 =>
          intro j u hj
          match j, hj with
          | 0, hj => simp at hj; subst hj; simp [Addr.add]
        case c2 => intro u hu; simp at hu; subst hu; rfl
        case c3 => unfold maxLen; omega
        case c4 => omega
        case c5 => simp; omega
        · intro v' w2 hown' hgrow _
          have b2 : Box4 w2 w.heap.size p := (b1.alloc _).grown hgrow (fun e => by have := hown1.lt _ e.symm; omega)
          have hnx2 : Below w.heap.size w w2 := ((hnx.trans (hb1.mono (by omega))).alloc (by omega) _).grown hgrow (by simp; omega) (fun j e => by have := hown1.lt j e; omega)
          have HO := Lib.hid hown'
          clear hown' hgrow hown hown1 b0 b1 hb1 hnx
          go_wp2
          go_roundw
          case rel => exact ⟨k + 1, by omega, by go_num, by rw [HE.out]; simpa using HO.out, b2, hnx2⟩
          case measure => simp [intOf]; omega
    · have : k = 256 := by omega
      subst this
      go_wp2
      go_ret
      exact ⟨_, rfl, own_lower hown (by omega), hnx⟩

end Go.Proofs.Ytllfjomhfgfegaa
