/-
  Show of both: rules' lines. Contracts for other texts; no statement of its own.
-/
import Derived.Test.YtgbcklnnbeimhaaDoorRulSame
set_option linter.unusedVariables false
set_option linter.unusedSimpArgs false
namespace Go.Proofs.YtgbcklnnbeimhaaDoor
open Go Go.RowKit

theorem showL_take (l : List Ru) (k : Nat) (x : Ru) (h : l[k]? = some x) : showL (l.take (k + 1)) = showL (l.take k) ++ (lineT x ++ [10]) := by
  obtain ⟨hl, e⟩ := List.getElem?_eq_some_iff.1 h
  rw [List.take_succ_eq_append_getElem hl, e, showL_app]
  rfl
theorem showL_mono (l : List Ru) (k : Nat) : (showL (l.take k)).length ≤ (showL l).length := by
  conv => rhs; rw [← List.take_append_drop k l, showL_app, List.length_append]
  omega

theorem add_p (a b : ByteArray) (h : a.size + b.size ≤ 1000000) (W : World) : (Op.stringOp .add a b).run Tryd.prog W = .ok (.string (a ++ b)) W := run_string_add_sum W a b (by omega)
theorem lineT_data (xn xp : ByteArray) (xl : Bool) : xn.data.toList ++ 32 :: (xp.data.toList ++ 32 :: (if xl then luhnT else plainT).data.toList) ++ [10] = lineT ⟨xn, xp, xl⟩ ++ [10] := rfl
theorem cat_list (a b : ByteArray) : (a ++ b).data.toList = a.data.toList ++ b.data.toList := by simp [ByteArray.data_append]
/-- A line, put together by five additions. -/
structure Put5 (xn xp kd : ByteArray) (s1 s2 s3 s4 s5 : ByteArray) : Prop where
  a1 : ∀ W, (Op.stringOp .add xn ⟨#[32]⟩).run Tryd.prog W = .ok (.string s1) W
  a2 : ∀ W, (Op.stringOp .add s1 xp).run Tryd.prog W = .ok (.string s2) W
  a3 : ∀ W, (Op.stringOp .add s2 ⟨#[32]⟩).run Tryd.prog W = .ok (.string s3) W
  a4 : ∀ W, (Op.stringOp .add s3 kd).run Tryd.prog W = .ok (.string s4) W
  a5 : ∀ W, (Op.stringOp .add s4 ⟨#[10]⟩).run Tryd.prog W = .ok (.string s5) W
  is : s5.data.toList = xn.data.toList ++ 32 :: (xp.data.toList ++ 32 :: kd.data.toList) ++ [10]
theorem put5 (xn xp kd : ByteArray) (h1 : xn.size + xp.size + kd.size ≤ 200000) : ∃ s1 s2 s3 s4 s5, Put5 xn xp kd s1 s2 s3 s4 s5 := by
  have z1 : (xn ++ ⟨#[32]⟩ : ByteArray).size = xn.size + 1 := by rw [ByteArray.size_append]; rfl
  have z2 : (xn ++ ⟨#[32]⟩ ++ xp : ByteArray).size = xn.size + 1 + xp.size := by rw [ByteArray.size_append, z1]
  have z3 : (xn ++ ⟨#[32]⟩ ++ xp ++ ⟨#[32]⟩ : ByteArray).size = xn.size + 1 + xp.size + 1 := by rw [ByteArray.size_append, z2]; rfl
  have z4 : (xn ++ ⟨#[32]⟩ ++ xp ++ ⟨#[32]⟩ ++ kd : ByteArray).size = xn.size + 1 + xp.size + 1 + kd.size := by rw [ByteArray.size_append, z3]
  have o32 : (ByteArray.mk #[32]).size = 1 := rfl
  have o10 : (ByteArray.mk #[10]).size = 1 := rfl
  refine ⟨_, _, _, _, _, fun W => add_p _ _ (by rw [o32]; omega) W, fun W => add_p _ _ (by rw [z1]; omega) W, fun W => add_p _ _ (by rw [z2, o32]; omega) W, fun W => add_p _ _ (by rw [z3]; omega) W, fun W => add_p _ _ (by rw [z4, o10]; omega) W, ?_⟩
  simp only [cat_list]
  simp
theorem lineT_len (x : Ru) : (lineT x).length = x.name.size + x.pat.size + 2 + (if x.luhn then luhnT else plainT).size := by
  unfold lineT
  simp
  omega

set_option maxRecDepth 20000 in
set_option maxHeartbeats 2000000 in
theorem show_p (w : World) (A : Option Addr) (c : Nat) (l : List Ru) (hl : l.length ≤ 1000) (hz : (showL l).length ≤ 100000) (h : RdRu w A l) :
    Calls Tryd.prog 11 #[.slice A l.length c] w fun e w' => e = .returned (.string ⟨(showL l).toArray⟩) ∧ Below w.heap.size w w' := by
  obtain ⟨N, hN⟩ : ∃ N, l.length = N := ⟨_, rfl⟩
  have HR := Lib.hid h
  have HNN := Lib.hid hN
  have HI0 : Hid (Lib.IsBuilderF 55 5 w.heap.size w.heap.size (Lib.byteCells []) (w.alloc (.cells #[.pointer none, .slice none 0 0] 55))) := Lib.hid (Lib.IsBuilderF.of (Lib.fresh_isBuilder 55 5 w))
  rw [hN] at hl ⊢
  have HL := Lib.hid (showL_mono l)
  have HZ := Lib.hid hz
  clear h hz hN
  go_enter Tryd.func11, Tryd.ntmps11
  go_wp2
  go_loopg [9] N (fun mm i wr => ∃ k : Nat, i = .int .i64 (k : Int) ∧ k ≤ N ∧ mm = N - k ∧ Lib.IsBuilderF 55 5 w.heap.size w.heap.size (Lib.byteCells (showL (l.take k))) wr ∧ Below w.heap.size w wr)
  case atStart => exact ⟨0, rfl, Nat.zero_le _, rfl, HI0.out, (Below.refl _ _).alloc (Nat.le_refl _) _⟩
  case round =>
    obtain ⟨k, rfl, hk, hmk, hi, hbw⟩ := hrel
    have HMK := Lib.hid hmk
    have HBW := Lib.hid hbw
    have HIB := Lib.hid hi
    clear hmk hbw hi
    by_cases hkN : k < N
    · have hkN' : (k : Int) < (N : Int) := by omega
      obtain ⟨x, hx⟩ : ∃ x, l[k]? = some x := ⟨_, List.getElem?_eq_getElem (by rw [HNN.out]; exact hkN)⟩
      have HT := Lib.hid (showL_take l k x hx)
      obtain ⟨g, off, rfl, hg, c0, c1, c2⟩ := (HR.out.stays HBW.out) k x hx
      clear hx
      obtain ⟨xn, xp, xl⟩ := x
      simp only at c0 c1 c2
      have HZK : Hid ((showL (l.take k)).length + (lineT ⟨xn, xp, xl⟩).length + 1 ≤ 100000) := Lib.hid (by
        have h1 := HL.out (k + 1)
        rw [HT.out] at h1
        have h2 := HZ.out
        simp only [List.length_append, List.length_singleton] at h1
        omega)
      have hls := lineT_len ⟨xn, xp, xl⟩
      simp only at hls
      cases xl with
      | true =>
        obtain ⟨s1, s2, s3, s4, s5, hp5⟩ := put5 xn xp ⟨#[108, 117, 104, 110]⟩ (by have := HZK.out; rw [hls, if_pos rfl] at this; have e : luhnT.size = (ByteArray.mk #[108, 117, 104, 110]).size := rfl; omega)
        obtain ⟨a1, a2, a3, a4, a5, is⟩ := hp5
        have HS5 : Hid (Lib.strCells s5 = Lib.byteCells (lineT ⟨xn, xp, true⟩ ++ [10])) := Lib.hid (by rw [Lib.strCells_eq, is]; rfl)
        have HZ5 : Hid (s5.size = (lineT ⟨xn, xp, true⟩).length + 1) := Lib.hid (by
          have e : s5.size = s5.data.toList.length := by simp
          have e2 := congrArg List.length is
          rw [e, e2, lineT]
          simp [luhnT]
          try omega)
        clear hls is
        go_wp2_with (go_at_call 20; (with_reducible refine (sh_Builder_WriteString_k w.heap.size w.heap.size _ s5 _ (HIB.out.alloc _) (by rw [Lib.byteCells_length, HZ5.out]; have := HZK.out; omega) (by have := HBW.out.size; simp; omega)).mono ?_); rintro e w2 ⟨rfl, hi2, hb2, _⟩; have HI2 := Lib.hid hi2; have HB2 := Lib.hid hb2; clear hi2 hb2)
        go_roundg (N - (k + 1))
        case measure => have := HMK.out; omega
        case rel => exact ⟨k + 1, by go_num, by omega, rfl, .inr (by have h := HI2.out; rw [HS5.out, ← Lib.byteCells_append] at h; rw [HT.out]; exact h), (HBW.out.alloc HBW.out.size _).trans HB2.out⟩
      | false =>
        obtain ⟨s1, s2, s3, s4, s5, hp5⟩ := put5 xn xp ⟨#[112, 108, 97, 105, 110]⟩ (by have := HZK.out; rw [hls, if_neg (by simp)] at this; have e : plainT.size = (ByteArray.mk #[112, 108, 97, 105, 110]).size := rfl; omega)
        obtain ⟨a1, a2, a3, a4, a5, is⟩ := hp5
        have HS5 : Hid (Lib.strCells s5 = Lib.byteCells (lineT ⟨xn, xp, false⟩ ++ [10])) := Lib.hid (by rw [Lib.strCells_eq, is]; rfl)
        have HZ5 : Hid (s5.size = (lineT ⟨xn, xp, false⟩).length + 1) := Lib.hid (by
          have e : s5.size = s5.data.toList.length := by simp
          have e2 := congrArg List.length is
          rw [e, e2, lineT]
          simp [plainT]
          try omega)
        clear hls is
        go_wp2_with (go_at_call 20; (with_reducible refine (sh_Builder_WriteString_k w.heap.size w.heap.size _ s5 _ (HIB.out.alloc _) (by rw [Lib.byteCells_length, HZ5.out]; have := HZK.out; omega) (by have := HBW.out.size; simp; omega)).mono ?_); rintro e w2 ⟨rfl, hi2, hb2, _⟩; have HI2 := Lib.hid hi2; have HB2 := Lib.hid hb2; clear hi2 hb2)
        go_roundg (N - (k + 1))
        case measure => have := HMK.out; omega
        case rel => exact ⟨k + 1, by go_num, by omega, rfl, .inr (by have h := HI2.out; rw [HS5.out, ← Lib.byteCells_append] at h; rw [HT.out]; exact h), (HBW.out.alloc HBW.out.size _).trans HB2.out⟩
    · have hkl : k = N := by omega
      subst hkl
      go_wp2_with (go_at_call 21; (with_reducible refine (sh_Builder_String_any_k _ _ _ _ HIB.out HBW.out.size).mono ?_); rintro e w2 ⟨rfl, _, hb2, _⟩)
      go_ret
      rw [List.take_of_length_le (by rw [HNN.out]; exact Nat.le_refl _)]
      exact ⟨rfl, HBW.out.trans hb2⟩

/-- A line, put behind others by four additions. -/
structure Put4 (out xn xp kd : ByteArray) (s1 s2 s3 s4 : ByteArray) : Prop where
  a1 : ∀ W, (Op.stringOp .add out xn).run Tryd.prog W = .ok (.string s1) W
  a2 : ∀ W, (Op.stringOp .add s1 ⟨#[32]⟩).run Tryd.prog W = .ok (.string s2) W
  a3 : ∀ W, (Op.stringOp .add s2 xp).run Tryd.prog W = .ok (.string s3) W
  a4 : ∀ W, (Op.stringOp .add s3 kd).run Tryd.prog W = .ok (.string s4) W
  is : s4.data.toList = out.data.toList ++ (xn.data.toList ++ 32 :: (xp.data.toList ++ kd.data.toList))
theorem put4 (out xn xp kd : ByteArray) (h1 : out.size + xn.size + xp.size + kd.size ≤ 200000) : ∃ s1 s2 s3 s4, Put4 out xn xp kd s1 s2 s3 s4 := by
  have z1 : (out ++ xn : ByteArray).size = out.size + xn.size := ByteArray.size_append
  have z2 : (out ++ xn ++ ⟨#[32]⟩ : ByteArray).size = out.size + xn.size + 1 := by rw [ByteArray.size_append, z1]; rfl
  have z3 : (out ++ xn ++ ⟨#[32]⟩ ++ xp : ByteArray).size = out.size + xn.size + 1 + xp.size := by rw [ByteArray.size_append, z2]
  have o32 : (ByteArray.mk #[32]).size = 1 := rfl
  refine ⟨_, _, _, _, fun W => add_p _ _ (by omega) W, fun W => add_p _ _ (by rw [z1, o32]; omega) W, fun W => add_p _ _ (by rw [z2]; omega) W, fun W => add_p _ _ (by rw [z3]; omega) W, ?_⟩
  simp only [cat_list]
  simp
theorem put4_is {l : List Ru} {k : Nat} {s4 : ByteArray} {L : List UInt8} (h : s4.data.toList = (ByteArray.mk (showL (l.take k)).toArray).data.toList ++ L) {x : Ru} (hx : showL (l.take (k + 1)) = showL (l.take k) ++ (lineT x ++ [10])) (hL : L = lineT x ++ [10]) :
    Value.string s4 = .string ⟨(showL (l.take (k + 1))).toArray⟩ := by
  congr 1
  refine bytes_ext ?_
  rw [h, hx, hL]

set_option maxRecDepth 20000 in
set_option maxHeartbeats 2000000 in
theorem dshow_p (w : World) (A : Option Addr) (c : Nat) (l : List Ru) (hl : l.length ≤ 1000) (hz : (showL l).length ≤ 100000) (h : RdRu w A l) :
    Calls Tryd.prog 12 #[.slice A l.length c] w fun e w' => e = .returned (.string ⟨(showL l).toArray⟩) ∧ Below w.heap.size w w' := by
  obtain ⟨N, hN⟩ : ∃ N, l.length = N := ⟨_, rfl⟩
  have HR := Lib.hid h
  have HNN := Lib.hid hN
  rw [hN] at hl ⊢
  have HL := Lib.hid (showL_mono l)
  have HZ := Lib.hid hz
  clear h hz hN
  go_enter Tryd.func12, Tryd.ntmps12
  go_wp2
  go_loopg [3, 4] N (fun mm out i wr => ∃ k : Nat, i = .int .i64 (k : Int) ∧ k ≤ N ∧ mm = N - k ∧ out = .string ⟨(showL (l.take k)).toArray⟩ ∧ Below w.heap.size w wr)
  case atStart => exact ⟨0, rfl, Nat.zero_le _, rfl, rfl, Below.refl _ _⟩
  case round =>
    obtain ⟨k, rfl, hk, hmk, rfl, hbw⟩ := hrel
    have HMK := Lib.hid hmk
    have HBW := Lib.hid hbw
    clear hmk hbw
    by_cases hkN : k < N
    · have hkN' : (k : Int) < (N : Int) := by omega
      obtain ⟨x, hx⟩ : ∃ x, l[k]? = some x := ⟨_, List.getElem?_eq_getElem (by rw [HNN.out]; exact hkN)⟩
      have HT := Lib.hid (showL_take l k x hx)
      obtain ⟨g, off, rfl, hg, c0, c1, c2⟩ := (HR.out.stays HBW.out) k x hx
      clear hx
      obtain ⟨xn, xp, xl⟩ := x
      simp only at c0 c1 c2
      have HZK : Hid ((showL (l.take k)).length + (lineT ⟨xn, xp, xl⟩).length + 1 ≤ 100000) := Lib.hid (by
        have h1 := HL.out (k + 1)
        rw [HT.out] at h1
        have h2 := HZ.out
        simp only [List.length_append, List.length_singleton] at h1
        omega)
      have hls := lineT_len ⟨xn, xp, xl⟩
      simp only at hls
      have hos : (ByteArray.mk (showL (l.take k)).toArray).size = (showL (l.take k)).length := by simp [ByteArray.size]
      obtain ⟨out, hout⟩ : ∃ out, ByteArray.mk (showL (l.take k)).toArray = out := ⟨_, rfl⟩
      have HOUT := Lib.hid hout
      rw [hout] at hos ⊢
      clear hout
      cases xl with
      | true =>
        obtain ⟨s1, s2, s3, s4, hp4⟩ := put4 out xn xp ⟨#[32, 108, 117, 104, 110, 10]⟩ (by have := HZK.out; rw [hls, if_pos rfl] at this; have e : luhnT.size + 2 = (ByteArray.mk #[32, 108, 117, 104, 110, 10]).size := rfl; omega)
        obtain ⟨a1, a2, a3, a4, is⟩ := hp4
        have HIS : Hid (Value.string s4 = .string ⟨(showL (l.take (k + 1))).toArray⟩) := Lib.hid (put4_is (by rw [is, ← HOUT.out]) HT.out (by simp [lineT, luhnT]))
        clear hls is hos
        go_wp2
        go_quiet (fail)
        go_wp2
        go_roundg (N - (k + 1))
        case measure => have := HMK.out; omega
        case rel => exact ⟨k + 1, by go_num, by omega, rfl, HIS.out, below_drN HBW.out _⟩
      | false =>
        obtain ⟨s1, s2, s3, s4, hp4⟩ := put4 out xn xp ⟨#[32, 112, 108, 97, 105, 110, 10]⟩ (by have := HZK.out; rw [hls, if_neg (by simp)] at this; have e : plainT.size + 2 = (ByteArray.mk #[32, 112, 108, 97, 105, 110, 10]).size := rfl; omega)
        obtain ⟨a1, a2, a3, a4, is⟩ := hp4
        have HIS : Hid (Value.string s4 = .string ⟨(showL (l.take (k + 1))).toArray⟩) := Lib.hid (put4_is (by rw [is, ← HOUT.out]) HT.out (by simp [lineT, plainT]))
        clear hls is hos
        go_wp2
        go_quiet (fail)
        go_wp2
        go_roundg (N - (k + 1))
        case measure => have := HMK.out; omega
        case rel => exact ⟨k + 1, by go_num, by omega, rfl, HIS.out, below_drN HBW.out _⟩
    · have hkl : k = N := by omega
      subst hkl
      go_wp2
      go_ret
      exact ⟨by rw [List.take_of_length_le (by rw [HNN.out]; exact Nat.le_refl _)]; rfl, HBW.out⟩
end Go.Proofs.YtgbcklnnbeimhaaDoor
