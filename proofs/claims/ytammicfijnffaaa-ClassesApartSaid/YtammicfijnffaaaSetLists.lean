/-
  Sets of bytes, and lists of bytes: what the sets of lists have, the list of a set's bytes; the row of the type byte. No function of the program; no statement of its own.
-/
import Derived.Test.YtammicfijnffaaaMem
import Derived.Test.YtammicfijnffaaaSetPop
import Derived.Lib.Hide
set_option linter.unusedVariables false
set_option linter.unusedSimpArgs false
namespace Go.Proofs.Ytammicfijnffaaa
open Go Go.RowKit

theorem words_at (p : Nat → Bool) (b : Int) (h0 : 0 ≤ b) (h1 : b ≤ 255) :
    [Value.int .u64 (word p 0), .int .u64 (word p 1), .int .u64 (word p 2), .int .u64 (word p 3)][(b / 64).toNat]? = some (.int .u64 (word p (b / 64).toNat)) := by
  have : (b / 64).toNat < 4 := by omega
  match h : (b / 64).toNat, this with
  | 0, _ => rfl
  | 1, _ => rfl
  | 2, _ => rfl
  | 3, _ => rfl

theorem mem_step (xs : List Int) (k : Nat) (hk : k < xs.length) (h0 : 0 ≤ xs.getD k 0) (x : Nat) : add1 (memP (xs.take k)) (xs.getD k 0).toNat x = memP (xs.take (k + 1)) x := by
  unfold add1 memP
  rw [List.take_succ_eq_append_getElem hk, List.any_append]
  rw [List.getD_eq_getElem?_getD, List.getElem?_eq_getElem hk] at *
  simp only [List.any_cons, List.any_nil, Bool.or_false, Option.getD_some] at *
  congr 1
  rw [Bool.eq_iff_iff]
  simp
  omega

/-- The numbers below k that the set p has, by size. -/
def listP (p : Nat → Bool) (k : Nat) : List Int := ((List.range k).filter p).map fun x : Nat => (x : Int)
theorem listP_hit (p : Nat → Bool) (k : Nat) (h : p k = true) : listP p (k + 1) = listP p k ++ [(k : Int)] := by
  unfold listP
  rw [List.range_succ, List.filter_append, List.map_append]
  simp [h]
theorem listP_miss (p : Nat → Bool) (k : Nat) (h : p k = false) : listP p (k + 1) = listP p k := by
  unfold listP
  rw [List.range_succ, List.filter_append, List.map_append]
  simp [h]
theorem listP_len : ∀ (p : Nat → Bool) (k : Nat), (listP p k).length = cntN p k
  | p, 0 => rfl
  | p, k + 1 => by
    rw [cntN_add k 1]
    cases h : p k
    · rw [listP_miss p k h, listP_len p k]; simp [cntN, h]
    · rw [listP_hit p k h, List.length_append, listP_len p k]; simp [cntN, h]
theorem listP_le (p : Nat → Bool) (k : Nat) : (listP p k).length ≤ k := by rw [listP_len]; exact cntN_le _ _
theorem listP_mem (p : Nat → Bool) (k : Nat) (v : Int) : v ∈ listP p k ↔ 0 ≤ v ∧ v < k ∧ p v.toNat = true := by
  unfold listP
  simp only [List.mem_map, List.mem_filter, List.mem_range]
  constructor
  · rintro ⟨x, ⟨h1, h2⟩, rfl⟩
    exact ⟨by omega, by omega, by simpa using h2⟩
  · rintro ⟨h0, h1, h2⟩
    exact ⟨v.toNat, ⟨by omega, h2⟩, by omega⟩
theorem listP_get (p : Nat → Bool) (k : Nat) (hk : k ≤ 256) : ∀ j, j < (listP p k).length → 0 ≤ (listP p k).getD j 0 ∧ (listP p k).getD j 0 ≤ 255 := by
  intro j hj
  have : (listP p k).getD j 0 ∈ listP p k := by
    rw [List.getD_eq_getElem?_getD, List.getElem?_eq_getElem hj]
    exact List.getElem_mem hj
  have := (listP_mem p k _).1 this
  omega
theorem memP_list (p : Nat → Bool) (k x : Nat) (hx : x < k) : memP (listP p k) x = p x := by
  unfold memP
  rw [Bool.eq_iff_iff, List.any_eq_true]
  constructor
  · rintro ⟨v, hv, e⟩
    have := (listP_mem p k v).1 hv
    have e' : v = (x : Int) := by simpa using e
    subst e'
    simpa using this.2.2
  · intro h
    exact ⟨(x : Int), (listP_mem p k _).2 ⟨by omega, by omega, by simpa using h⟩, by simp⟩

/-- All bytes of the set p, by size. -/
def allP (p : Nat → Bool) : List Int := listP p 256

theorem allP_get (p : Nat → Bool) : ∀ j, j < (allP p).length → 0 ≤ (allP p).getD j 0 ∧ (allP p).getD j 0 ≤ 255 := listP_get p 256 (by omega)
theorem allP_le (p : Nat → Bool) : (allP p).length ≤ 9223372036854775807 := by have := listP_le p 256; unfold allP; omega
theorem memP_all (p : Nat → Bool) (x : Nat) (hx : x < 256) : memP (allP p) x = p x := memP_list p 256 x hx

theorem Try.infoByte : (Try.prog.info? 5).map (fun i => (i.zero, i.size, i.bytes)) = some (some (.int .u8 0), 1, 1) := by kernel_rfl

theorem rd_new1 (w : World) (v : Int) : RdB (w.alloc (.cells #[.int .u8 v] 5)) (w.alloc (.cells #[.int .u8 v] 5)).heap.size (some ⟨w.heap.size, 0, none⟩) [v] := by
  intro k hk
  have : k = 0 := by simp at hk; omega
  subst this
  exact ⟨w.heap.size, 0, rfl, by simp, by simp⟩

end Go.Proofs.Ytammicfijnffaaa
