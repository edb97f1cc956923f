/-
  What is read, shown and read again; lines that tell nothing. No program; no statement of its own.
-/
import Derived.Test.YtgbcklnnbeimhaaDoorRulMath
set_option linter.unusedVariables false
set_option linter.unusedSimpArgs false
namespace Go.Proofs.YtgbcklnnbeimhaaDoor
open Go

def toB (a : List UInt8) : ByteArray := ⟨a.toArray⟩
theorem toB_data (a : List UInt8) : (toB a).data.toList = a := by simp [toB]
theorem toB_size (a : List UInt8) : (toB a).size = a.length := by simp [toB, ByteArray.size]
theorem toB_of (b : ByteArray) : toB b.data.toList = b := bytes_ext (toB_data _)
theorem linesB_eq (s : ByteArray) : linesB s = (linesL s.data.toList).map toB := by
  refine bytes_map_inj ?_
  rw [linesB_data, List.map_map]
  conv => lhs; rw [← List.map_id (linesL s.data.toList)]
  refine List.map_congr_left fun a _ => ?_
  simp [toB_data]
theorem linesL_noten : ∀ (l : List UInt8), ∀ a ∈ linesL l, ∀ b ∈ a, b ≠ 10
  | [], a, ha, b, hb => by simp [linesL] at ha; subst ha; simp at hb
  | x :: l, a, ha, b, hb => by
    unfold linesL at ha
    split at ha
    · rcases List.mem_cons.1 ha with rfl | ha
      · simp at hb
      · exact linesL_noten l a ha b hb
    · rename_i hx
      split at ha
      · rename_i he
        exact absurd he (linesL_ne l)
      · rename_i y r he
        rcases List.mem_cons.1 ha with rfl | ha
        · rcases List.mem_cons.1 hb with rfl | hb
          · exact hx
          · exact linesL_noten l y (by rw [he]; simp) b hb
        · exact linesL_noten l a (by rw [he]; simp [ha]) b hb
/-- How long lines are, with what ends each. -/
def totL : List (List UInt8) → Nat
  | [] => 0
  | a :: r => a.length + 1 + totL r
theorem totL_is : ∀ l : List UInt8, totL (linesL l) = l.length + 1
  | [] => rfl
  | x :: l => by
    unfold linesL
    split
    · rw [totL, totL_is l]; simp; omega
    · have ih := totL_is l
      split
      · rename_i he
        exact absurd he (linesL_ne l)
      · rename_i y r he
        rw [he] at ih
        rw [totL] at ih ⊢
        simp
        omega

/-- A rule that can be shown. -/
structure Good14 (x : Ru) : Prop where
  name : nameOk x.name = true
  pat : 1 ≤ x.pat.size
  ten : ∀ b ∈ x.pat.data.toList, b ≠ 10
theorem bt_ok {b : Nat} (h : okB b = true) : b ≠ 32 ∧ b ≠ 10 ∧ b ≠ 35 := by
  have : (97 ≤ b ∧ b ≤ 122) ∨ (48 ≤ b ∧ b ≤ 57) ∨ b = 45 ∨ b = 95 := by
    unfold okB at h
    simpa [or_assoc] using h
  omega
theorem bt_toB (a : List UInt8) (k : Nat) (h : k < a.length) : bt (toB a) k = (a[k]).toNat := bt_list _ k _ (by rw [toB_data]; exact List.getElem?_eq_getElem h)
/-- What stands where in a rule's line. -/
theorem line_name (x : Ru) (k : Nat) (h : k < x.name.size) : bt (toB (lineT x)) k = bt x.name k := by
  have hl : x.name.data.toList.length = x.name.size := by simp
  unfold bt
  rw [toB_data, lineT, List.getD_eq_getElem?_getD, List.getD_eq_getElem?_getD, List.getElem?_append_left (by omega)]
theorem line_first (x : Ru) : bt (toB (lineT x)) x.name.size = 32 := by
  have hl : x.name.data.toList.length = x.name.size := by simp
  unfold bt
  rw [toB_data, lineT, List.getD_eq_getElem?_getD, List.getElem?_append_right (by omega), hl, Nat.sub_self]
  rfl
theorem kind_len (x : Ru) : (if x.luhn then luhnT else plainT).size = (if x.luhn then luhnT else plainT).data.toList.length := by simp
theorem lineT_len' (x : Ru) : (lineT x).length = x.name.size + x.pat.size + 2 + (if x.luhn then luhnT else plainT).size := by
  unfold lineT
  simp
  omega
theorem line_drop (x : Ru) : (lineT x).drop (x.name.size + 1) = x.pat.data.toList ++ 32 :: (if x.luhn then luhnT else plainT).data.toList := by
  have hl : x.name.data.toList.length = x.name.size := by simp
  rw [lineT, List.drop_append, show x.name.data.toList.drop (x.name.size + 1) = [] from List.drop_of_length_le (by omega), hl, show x.name.size + 1 - x.name.size = 1 by omega]
  rfl
theorem line_drop2 (x : Ru) : (lineT x).drop (x.name.size + 1 + x.pat.size) = 32 :: (if x.luhn then luhnT else plainT).data.toList := by
  have hl : x.pat.data.toList.length = x.pat.size := by simp
  rw [← List.drop_drop, line_drop, List.drop_append, show x.pat.data.toList.drop x.pat.size = [] from List.drop_of_length_le (by omega), hl, Nat.sub_self]
  rfl
theorem bt_drop (a : List UInt8) (n k : Nat) : bt (toB a) (n + k) = bt (toB (a.drop n)) k := by
  unfold bt
  rw [toB_data, toB_data, List.getD_eq_getElem?_getD, List.getD_eq_getElem?_getD, List.getElem?_drop]
theorem line_last (x : Ru) : bt (toB (lineT x)) (x.name.size + 1 + x.pat.size) = 32 := by
  have := bt_drop (lineT x) (x.name.size + 1 + x.pat.size) 0
  rw [line_drop2] at this
  rw [Nat.add_zero] at this
  rw [this]
  rfl
theorem kind_no (b : Bool) : ∀ k, k < (if b then luhnT else plainT).size → bt (if b then luhnT else plainT) k ≠ 32 := by
  cases b <;> decide
theorem line_kind (x : Ru) (k : Nat) (h : x.name.size + 1 + x.pat.size < k) (h2 : k < (lineT x).length) : bt (toB (lineT x)) k ≠ 32 := by
  obtain ⟨j, rfl⟩ : ∃ j, k = x.name.size + 1 + x.pat.size + (j + 1) := ⟨k - (x.name.size + 1 + x.pat.size) - 1, by omega⟩
  rw [bt_drop, line_drop2]
  have e : bt (toB (32 :: (if x.luhn then luhnT else plainT).data.toList)) (j + 1) = bt (if x.luhn then luhnT else plainT) j := by
    unfold bt
    rw [toB_data, List.getD_eq_getElem?_getD, List.getD_eq_getElem?_getD, List.getElem?_cons_succ]
  rw [e]
  refine kind_no x.luhn j ?_
  rw [lineT_len'] at h2
  omega
theorem line_rule {x : Ru} (h : Good14 x) : ruleT (toB (lineT x)) = some x := by
  have hz : (toB (lineT x)).size = (lineT x).length := toB_size _
  have hlen := lineT_len' x
  obtain ⟨hn, hp, ht⟩ := h
  have hok := (nameOk_iff x.name).1 hn
  have hk5 : 1 ≤ (if x.luhn then luhnT else plainT).size := by cases x.luhn <;> decide
  have h1 : firstI (toB (lineT x)) 32 (toB (lineT x)).size = (x.name.size : Nat) := firstI_is _ 32 _ _ (by omega) (line_first x) fun j hj => by rw [line_name x j hj]; exact (bt_ok (hok.2 j hj)).1
  have h2 : lastI (toB (lineT x)) 32 (toB (lineT x)).size = ((x.name.size + 1 + x.pat.size : Nat) : Int) := lastI_is _ 32 _ _ (by omega) (line_last x) fun j hj h => line_kind x j hj (by omega)
  have e1 : (toB (lineT x)).extract 0 x.name.size = x.name := bytes_ext (by
    rw [extract_list, toB_data, List.drop_zero, Nat.sub_zero, lineT, List.take_append_of_le_length (by simp), List.take_of_length_le (by simp)])
  have e2 : (toB (lineT x)).extract (x.name.size + 1) (x.name.size + 1 + x.pat.size) = x.pat := bytes_ext (by
    rw [extract_list, toB_data, line_drop, Nat.add_sub_cancel_left, List.take_append_of_le_length (by simp), List.take_of_length_le (by simp)])
  have e3 : (toB (lineT x)).extract (x.name.size + 1 + x.pat.size + 1) (toB (lineT x)).size = if x.luhn then luhnT else plainT := bytes_ext (by
    rw [extract_list, toB_data, ← List.drop_drop, line_drop2, List.drop_one, List.tail_cons, List.take_of_length_le]
    rw [← kind_len]
    omega)
  unfold ruleT nameOf patOf kindOf
  rw [if_neg (by omega), h1, h2, Int.toNat_natCast, Int.toNat_natCast, e1, e2, e3]
  obtain ⟨xn, xp, xl⟩ := x
  cases xl with
  | true => rw [if_pos ⟨hn, .inl rfl⟩]; rfl
  | false => rw [if_pos ⟨hn, .inr rfl⟩]; rfl
theorem ruleT_good {s : ByteArray} {x : Ru} (h : ruleT s = some x) (hs : ∀ b ∈ s.data.toList, b ≠ 10) : Good14 x ∧ (lineT x).length = s.size := by
  unfold ruleT at h
  split at h
  · cases h
  · rename_i hc
    split at h
    · rename_i hk
      obtain ⟨q1, q2, q3, q4⟩ := first_last s 32 s.size
      have hx := Option.some.inj h
      obtain ⟨F, hF⟩ : ∃ F : Nat, firstI s 32 s.size = F := ⟨(firstI s 32 s.size).toNat, by omega⟩
      obtain ⟨L, hL⟩ : ∃ L : Nat, lastI s 32 s.size = L := ⟨(lastI s 32 s.size).toNat, by omega⟩
      have zn : (nameOf s).size = F := by unfold nameOf; rw [hF]; simp; omega
      have zp : (patOf s).size = L - (F + 1) := by unfold patOf; rw [hF, hL]; simp; omega
      have zk : (kindOf s).size = s.size - (L + 1) := by unfold kindOf; rw [hL]; simp
      subst hx
      refine ⟨⟨hk.1, by rw [zp]; omega, fun b hb => ?_⟩, ?_⟩
      · refine hs b ?_
        have hb' : b ∈ ((s.data.toList.drop ((firstI s 32 s.size).toNat + 1)).take ((lastI s 32 s.size).toNat - ((firstI s 32 s.size).toNat + 1))) := by
          rw [← extract_list]; exact hb
        exact List.mem_of_mem_drop (List.mem_of_mem_take hb')
      · rw [lineT_len']
        have hkk : (if decide (kindOf s = luhnT) = true then luhnT else plainT).size = (kindOf s).size := by
          rcases hk.2 with e | e
          · rw [e]; rfl
          · rw [e]; rfl
        simp only at hkk ⊢
        rw [hkk, zn, zp, zk]
        omega
    · cases h
/-- No name stands twice. -/
def Apart14 : List Ru → Prop
  | [] => True
  | x :: l => (∀ y ∈ l, y.name ≠ x.name) ∧ Apart14 l
theorem apart_push : ∀ (l : List Ru) (x : Ru), Apart14 l → (∀ y ∈ l, y.name ≠ x.name) → Apart14 (l ++ [x])
  | [], x, _, _ => ⟨fun y h => by simp at h, trivial⟩
  | z :: l, x, h, hx => ⟨fun y hy => by
      rcases List.mem_append.1 hy with hy | hy
      · exact h.1 y hy
      · rw [List.mem_singleton] at hy; subst hy; exact (hx z (by simp)).symm, apart_push l x h.2 fun y hy => hx y (by simp [hy])⟩
theorem apart_mid : ∀ (l : List Ru) (x : Ru) (r : List Ru), Apart14 (l ++ x :: r) → ∀ y ∈ l, y.name ≠ x.name
  | z :: l, x, r, h, y, hy => by
    rcases List.mem_cons.1 hy with rfl | hy
    · exact (h.1 x (by simp)).symm
    · exact apart_mid l x r h.2 y hy
theorem apart_get : ∀ (l : List Ru) (i k : Nat) (x y : Ru), Apart14 l → k < i → l[i]? = some x → l[k]? = some y → x.name ≠ y.name
  | z :: l, 0, k, x, y, h, hk, hx, hy => by omega
  | z :: l, i + 1, 0, x, y, h, hk, hx, hy => by
    simp at hx hy
    subst hy
    exact h.1 x (List.mem_of_getElem? hx)
  | z :: l, i + 1, k + 1, x, y, h, hk, hx, hy => apart_get l i k x y h.2 (by omega) (by simpa using hx) (by simpa using hy)
/-- What reading lines keeps. -/
theorem parseL_keeps : ∀ (ls : List (List UInt8)) (k : Nat) (acc l : List Ru), (∀ a ∈ ls, ∀ b ∈ a, b ≠ 10) → Apart14 acc → (∀ x ∈ acc, Good14 x) → parseL (ls.map toB) k acc = .ok l →
    Apart14 l ∧ (∀ x ∈ l, Good14 x) ∧ (showL l).length ≤ (showL acc).length + totL ls
  | [], k, acc, l, _, ha, hg, h => by
    rw [List.map_nil, parseL] at h
    cases h
    exact ⟨ha, hg, by simp [totL]⟩
  | a :: r, k, acc, l, hn, ha, hg, h => by
    rw [List.map_cons, parseL] at h
    have hn' : ∀ a ∈ r, ∀ b ∈ a, b ≠ 10 := fun a' h' => hn a' (by simp [h'])
    split at h
    · obtain ⟨p1, p2, p3⟩ := parseL_keeps r _ _ _ hn' ha hg h
      exact ⟨p1, p2, by rw [totL]; omega⟩
    · split at h
      · cases h
      · rename_i x hx
        split at h
        · cases h
        · rename_i hany
          split at h
          · cases h
          · obtain ⟨g1, g2⟩ := ruleT_good hx (by rw [toB_data]; exact hn a (by simp))
            rw [toB_size] at g2
            have hne : ∀ y ∈ acc, y.name ≠ x.name := fun y hy e => hany (List.any_eq_true.2 ⟨y, hy, by simp [e]⟩)
            obtain ⟨p1, p2, p3⟩ := parseL_keeps r _ _ _ hn' (apart_push acc x ha hne) (fun y hy => by
              rcases List.mem_append.1 hy with hy | hy
              · exact hg y hy
              · rw [List.mem_singleton] at hy; subst hy; exact g1) h
            refine ⟨p1, p2, ?_⟩
            rw [showL_app, List.length_append] at p3
            have e : (showL [x]).length = a.length + 1 := by simp [showL, g2]
            rw [totL]
            omega
/-- What was shown is read again. -/
theorem linesL_show : ∀ l : List Ru, (∀ x ∈ l, Good14 x) → linesL (showL l) = l.map lineT ++ [[]]
  | [], _ => rfl
  | x :: l, h => by
    have hx := h x (by simp)
    rw [showL, linesL_app, linesL_show l fun y hy => h y (by simp [hy])]
    · rfl
    · intro b hb
      unfold lineT at hb
      rcases List.mem_append.1 hb with hb | hb
      · obtain ⟨i, hi, e⟩ := List.getElem_of_mem hb
        have hok := ((nameOk_iff x.name).1 hx.name).2 i (by simpa using hi)
        have hbt : bt x.name i = b.toNat := bt_list _ i _ (by rw [List.getElem?_eq_getElem hi, e])
        rw [hbt] at hok
        intro h10
        exact (bt_ok hok).2.1 (by rw [h10]; rfl)
      · rcases List.mem_cons.1 hb with rfl | hb
        · decide
        · rcases List.mem_append.1 hb with hb | hb
          · exact hx.ten b hb
          · rcases List.mem_cons.1 hb with rfl | hb
            · decide
            · revert hb
              cases x.luhn
              · intro hb; have : b ∈ ([112, 108, 97, 105, 110] : List UInt8) := hb; simp at this; rcases this with rfl | rfl | rfl | rfl | rfl <;> decide
              · intro hb; have : b ∈ ([108, 117, 104, 110] : List UInt8) := hb; simp at this; rcases this with rfl | rfl | rfl | rfl <;> decide
theorem parseL_again : ∀ (r : List Ru) (k : Nat) (acc : List Ru), (∀ x ∈ r, Good14 x) → Apart14 (acc ++ r) → (acc ++ r).length ≤ 8 → parseL ((r.map lineT ++ [[]]).map toB) k acc = .ok (acc ++ r)
  | [], k, acc, _, _, _ => by
    rw [List.map_nil, List.nil_append, List.map_cons, List.map_nil, parseL, if_pos (.inl (by rw [toB_size]; rfl)), parseL, List.append_nil]
  | x :: r, k, acc, hg, ha, h8 => by
    have hx := hg x (by simp)
    have hz : (toB (lineT x)).size = (lineT x).length := toB_size _
    have hl := lineT_len' x
    have hok := (nameOk_iff x.name).1 hx.name
    have hs : ¬ ((toB (lineT x)).size = 0 ∨ bt (toB (lineT x)) 0 = 35) := by
      rintro (h | h)
      · omega
      · rw [line_name x 0 (by omega)] at h
        exact (bt_ok (hok.2 0 (by omega))).2.2 h
    have hany : acc.any (fun y => decide (y.name = x.name)) = false := by
      rw [Bool.eq_false_iff]
      intro hq
      obtain ⟨y, hy, e⟩ := List.any_eq_true.1 hq
      exact apart_mid acc x r ha y hy (by simpa using e)
    have h8' : ¬ acc.length = 8 := by simp at h8; omega
    rw [List.map_cons, List.cons_append, List.map_cons, parseL, if_neg hs, line_rule hx]
    simp only [hany, Bool.false_eq_true, if_false, h8']
    have := parseL_again r (k + 1) (acc ++ [x]) (fun y hy => hg y (by simp [hy])) (by simpa using ha) (by simpa using h8)
    rw [this]
    simp
theorem back {s : ByteArray} {l : List Ru} (h : parseR s = .ok l) (hs : s.size ≤ 3000) : parseR (toB (showL l)) = .ok l ∧ Apart14 l ∧ (showL l).length ≤ 3001 := by
  have h8 := parseR_len8 h
  unfold parseR at h
  rw [if_neg (by omega), linesB_eq] at h
  obtain ⟨p1, p2, p3⟩ := parseL_keeps _ 0 [] l (linesL_noten _) trivial (fun x hx => by simp at hx) h
  rw [totL_is] at p3
  have hz : s.data.toList.length = s.size := by simp
  have hle : (showL l).length ≤ 3001 := by simp [showL] at p3; omega
  refine ⟨?_, p1, hle⟩
  unfold parseR
  rw [if_neg (by rw [toB_size]; omega), linesB_eq, toB_data, linesL_show l p2]
  have := parseL_again l 0 [] p2 (by simpa using p1) (by simpa using h8)
  simpa using this
/-- Lines that tell nothing, ahead of others. -/
def gapL : Nat → List UInt8
  | 0 => []
  | m + 1 => gapL m ++ [10, 35, 120, 10]
theorem gapL_len : ∀ m, (gapL m).length = 4 * m
  | 0 => rfl
  | m + 1 => by rw [gapL, List.length_append, gapL_len m]; simp; omega
theorem linesL_gap (t : List UInt8) : linesL (10 :: 35 :: 120 :: 10 :: t) = [] :: [35, 120] :: linesL t := by
  rw [linesL, if_pos rfl, show (35 :: 120 :: 10 :: t : List UInt8) = [35, 120] ++ 10 :: t from rfl, linesL_app _ _ (by intro x hx; simp at hx; rcases hx with rfl | rfl <;> decide)]
theorem parse_gap : ∀ (m : Nat) (t : List UInt8) (k : Nat) (acc : List Ru), parseL ((linesL (gapL m ++ t)).map toB) k acc = parseL ((linesL t).map toB) (k + 2 * m) acc
  | 0, t, k, acc => rfl
  | m + 1, t, k, acc => by
    rw [gapL, List.append_assoc, parse_gap m]
    show parseL ((linesL (10 :: 35 :: 120 :: 10 :: t)).map toB) (k + 2 * m) acc = _
    rw [linesL_gap, List.map_cons, List.map_cons, parseL, if_pos (.inl (by rw [toB_size]; rfl)), parseL, if_pos (.inr (by rfl)), show k + 2 * m + 1 + 1 = k + 2 * (m + 1) by omega]
theorem parse_shift : ∀ (ls : List ByteArray) (k d : Nat) (acc : List Ru), parseL ls (k + d) acc = match parseL ls k acc with
    | .ok l => .ok l
    | .error (c, j) => .error (c, j + d)
  | [], k, d, acc => rfl
  | x :: r, k, d, acc => by
    rw [parseL, parseL]
    split
    · rw [show k + d + 1 = k + 1 + d by omega]; exact parse_shift r (k + 1) d acc
    · split
      · rfl
      · split
        · rfl
        · split
          · rfl
          · rw [show k + d + 1 = k + 1 + d by omega]; exact parse_shift r (k + 1) d _
theorem parseL_at : ∀ (ls : List ByteArray) (k : Nat) (acc : List Ru) (c : Int) (j : Nat), parseL ls k acc = .error (c, j) → j ≤ k + ls.length
  | [], k, acc, c, j, h => by rw [parseL] at h; cases h
  | x :: r, k, acc, c, j, h => by
    rw [parseL] at h
    rw [List.length_cons]
    split at h
    · have := parseL_at r _ _ _ _ h; omega
    · split at h
      · cases h; omega
      · split at h
        · cases h; omega
        · split at h
          · cases h; omega
          · have := parseL_at r _ _ _ _ h; omega
theorem parseR_at {s : ByteArray} {c : Int} {j : Nat} (h : parseR s = .error (c, j)) : j ≤ 4001 := by
  unfold parseR at h
  split at h
  · cases h; omega
  · have h1 := parseL_at _ _ _ _ _ h
    have h2 := doneI_len s s.size
    have h3 : (linesB s).length ≤ s.size + 1 := by unfold linesB; simp; omega
    omega
theorem gap_is (m : Nat) (hm : m ≤ 8) (s g : ByteArray) (hs : s.size ≤ 3000) (hg : g.data.toList = gapL m ++ s.data.toList) : parseR g = match parseR s with
    | .ok l => .ok l
    | .error (c, j) => .error (c, j + 2 * m) := by
  have hz : g.size = 4 * m + s.size := by
    have e : g.size = g.data.toList.length := by simp
    rw [e, hg, List.length_append, gapL_len]
    simp
  unfold parseR
  rw [if_neg (by omega), if_neg (by omega), linesB_eq, hg, parse_gap, parse_shift, linesB_eq]
end Go.Proofs.YtgbcklnnbeimhaaDoor
