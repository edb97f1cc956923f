/-
  Texts put together: a pattern in brackets, two with a bar between, one that is repeated. Plain mathematics; no statement of its own.
-/
import Derived.Test.YtpiieonlbfhbaaaRxIn
import Derived.Test.YtpiieonlbfhbaaaRx10
set_option linter.unusedVariables false
set_option linter.unusedSimpArgs false
namespace Go.Proofs.Ytpiieonlbfhbaaa
open Go

theorem bt_app (a b : ByteArray) (i : Nat) : bt (a ++ b) i = if i < a.size then bt a i else bt b (i - a.size) := by
  have e : (a ++ b).data.toList = a.data.toList ++ b.data.toList := by rw [ByteArray.data_append, Array.toList_append]
  have hs : a.data.toList.length = a.size := rfl
  unfold bt
  rw [e]
  by_cases h : i < a.size
  · rw [if_pos h, List.getD_eq_getElem?_getD, List.getD_eq_getElem?_getD, List.getElem?_append_left (by omega)]
  · rw [if_neg h, List.getD_eq_getElem?_getD, List.getD_eq_getElem?_getD, List.getElem?_append_right (by omega), hs]
theorem bt_l {a b : ByteArray} {i : Nat} (h : i < a.size) : bt (a ++ b) i = bt a i := by rw [bt_app, if_pos h]
theorem bt_r (a b : ByteArray) (i : Nat) : bt (a ++ b) (a.size + i) = bt b i := by rw [bt_app, if_neg (by omega), Nat.add_sub_cancel_left]
theorem is_r (a b : ByteArray) (i c : Nat) : isB (a ++ b) (a.size + i) c = isB b i c := by
  unfold isB
  rw [bt_r, ByteArray.size_append]
  congr 1
  simp
/-- A text between two others. -/
theorem In.mid (a s c : ByteArray) (hc : 0 < c.size → bt c 0 = 41 ∨ bt c 0 = 124) : In s (a ++ (s ++ c)) a.size := by
  refine ⟨by simp [ByteArray.size_append], fun i hi => by rw [bt_r, bt_l hi], fun h => ?_⟩
  simp only [ByteArray.size_append] at h
  have e := bt_r s c 0
  rw [bt_r, show s.size = s.size + 0 from rfl, e]
  exact hc (by omega)

theorem xparse_read {s : ByteArray} {A : T} (h : xparse s = .ok A) : s.size ≤ 200 ∧ pat s 20 false 0 = .ok (A, s.size) := by
  unfold xparse at h
  by_cases hl : 200 < s.size
  · rw [if_pos hl] at h; cases h
  · rw [if_neg hl] at h
    refine ⟨by omega, ?_⟩
    cases hp : pat s 20 false 0 with
    | error e => rw [hp] at h; cases h
    | ok x =>
      obtain ⟨t, p⟩ := x
      rw [hp] at h
      simp only at h
      by_cases e : p = s.size
      · rw [if_pos e] at h
        injection h with h
        rw [h, e]
      · rw [if_neg e] at h; cases h
theorem xparse_of {u : ByteArray} {t : T} {d : Option (Nat → R T)} (hd : d = some (pat u 19 false)) (hs : u.size ≤ 200) (h : cPat u d false 0 = .ok (t, u.size)) : xparse u = .ok t := by
  subst hd
  have e : pat u 20 false 0 = .ok (t, u.size) := h
  unfold xparse
  rw [if_neg (by omega), e]
  simp
theorem xparse_bad {u : ByteArray} {x : Int × Int} {d : Option (Nat → R T)} (hd : d = some (pat u 19 false)) (hs : u.size ≤ 200) (h : cPat u d false 0 = .error x) : xparse u = .error x := by
  subst hd
  have e : pat u 20 false 0 = .error x := h
  unfold xparse
  rw [if_neg (by omega), e]

section
variable {u : ByteArray} {d : Option (Nat → R T)} {p q r : Nat} {A B : T}
theorem not_is {c c' : Nat} (h : isB u q c = true) (hc : c' ≠ c) : isB u q c' = false := by
  have := isB_lt h
  simp [isB]
  omega
theorem piece_end (ha : cAtom u d p = .ok (A, q)) (h1 : isB u q 63 = false) (h2 : isB u q 123 = false) : cPiece u d p = .ok (A, q) := by
  unfold cPiece
  rw [ha]
  show loopR _ _ _ _ = _
  unfold loopR
  rw [show repStep u A q = none by unfold repStep; rw [h1, h2]; rfl]
theorem piece_rep {t : T} (ha : cAtom u d p = .ok (A, q)) (hs : repStep u A q = some (.ok (t, r))) (hu : 0 < u.size) (h1 : isB u r 63 = false) (h2 : isB u r 123 = false) : cPiece u d p = .ok (t, r) := by
  unfold cPiece
  rw [ha]
  show loopR _ _ _ _ = _
  unfold loopR
  rw [hs]
  show loopR _ _ _ _ = _
  obtain ⟨m, e⟩ : ∃ m, u.size = m + 1 := ⟨u.size - 1, by omega⟩
  rw [e]
  unfold loopR
  rw [show repStep u t r = none by unfold repStep; rw [h1, h2]; rfl]
theorem part_one (ha : cPiece u d p = .ok (A, q)) (h : q = u.size ∨ isB u q 124 = true) : cPart u d false p = .ok (A, q) := by
  unfold cPart
  rw [ha]
  have e : loopR (partStep u d false) (u.size + 1) [A] q = .ok ([A], q) := by
    unfold loopR
    rw [show partStep u d false [A] q = none by
      unfold partStep
      rw [if_neg]
      rintro ⟨k1, k2, _⟩
      rcases h with h | h
      · omega
      · exact k2 (isB_lt h).2]
  simp only [thenR, e, T.many]
theorem pat_one (ha : cPart u d false p = .ok (A, q)) (h : isB u q 124 = false) : cPat u d false p = .ok (A, q) := by
  unfold cPat
  rw [ha]
  have e : loopR (patStep u d false) (u.size + 1) [A] q = .ok ([A], q) := by
    unfold loopR
    rw [show patStep u d false [A] q = none by unfold patStep; rw [h]; rfl]
  simp only [thenR, e, T.many]
theorem pat_two (ha : cPart u d false p = .ok (A, q)) (hq : isB u q 124 = true) (hb : cPart u d false (q + 1) = .ok (B, r)) (h : isB u r 124 = false) : cPat u d false p = .ok (.mk 3 noneP 0 0 [A, B], r) := by
  unfold cPat
  rw [ha]
  have hu := (isB_lt hq).1
  obtain ⟨m, e⟩ : ∃ m, u.size = m + 1 := ⟨u.size - 1, by omega⟩
  have e : loopR (patStep u d false) (u.size + 1) [A] q = .ok ([A, B], r) := by
    unfold loopR
    rw [show patStep u d false [A] q = some (.ok ([A, B], r)) by unfold patStep; rw [if_pos hq, hb]; rfl, e]
    show loopR _ _ _ _ = _
    unfold loopR
    rw [show patStep u d false [A, B] r = none by unfold patStep; rw [h]; rfl]
  simp only [thenR, e, T.many]
theorem pat_err {x : Int × Int} (ha : cAtom u d p = .error x) : cPat u d false p = .error x := by
  unfold cPat cPart cPiece
  rw [ha]
  rfl
end

/-! A pattern in brackets. -/
theorem group_in {s u : ByteArray} {off : Nat} (hin : In s u (off + 1)) (h40 : isB u off 40 = true) (h41 : isB u (off + 1 + s.size) 41 = true) :
    (∀ A, pat s 19 false 0 = .ok (A, s.size) → cAtom u (some (pat u 19 false)) off = .ok (A, off + 1 + s.size + 1)) ∧ ((∃ x, pat s 19 false 0 = .error (4, x)) → ∃ y, cAtom u (some (pat u 19 false)) off = .error (4, y)) := by
  obtain ⟨k1, k2⟩ := isB_lt h40
  have k3 := hin.pat (fun _ => (isB_lt h41).2) 19 0 (Nat.zero_le _)
  refine ⟨fun A h => ?_, fun ⟨x, h⟩ => ?_⟩
  · rw [h] at k3
    have k4 : pat u 19 false (off + 1) = .ok (A, off + 1 + s.size) := by simpa [Sim] using k3
    unfold cAtom
    rw [if_pos k1, if_pos k2]
    simp only [k4, thenR]
    rw [if_pos h41]
  · rw [h] at k3
    obtain ⟨y, k4⟩ := k3 rfl
    refine ⟨y, ?_⟩
    have k5 : pat u 19 false (off + 1) = .error (4, y) := k4
    unfold cAtom
    rw [if_pos k1, if_pos k2]
    simp only [k5, thenR]
theorem In.self (s : ByteArray) : In s s 0 := ⟨by omega, fun i _ => by rw [Nat.zero_add], fun h => by omega⟩
theorem deeper {s : ByteArray} {A : T} (h : pat s 20 false 0 = .ok (A, s.size)) : pat s 19 false 0 = .ok (A, s.size) ∨ ∃ x, pat s 19 false 0 = .error (4, x) := by
  have k := (In.self s).low (fun h => by omega) 19 0 (Nat.zero_le _)
  rw [h] at k
  simp only [Sim, Nat.zero_add] at k
  rcases k with k | ⟨_, x, k⟩
  · exact .inl k
  · exact .inr ⟨x, k⟩

def oT : ByteArray := ⟨#[40]⟩
def cT : ByteArray := ⟨#[41]⟩
theorem is_oT (b : ByteArray) : isB (oT ++ b) 0 40 = true := by
  have e : bt (oT ++ b) 0 = 40 := bt_l (a := oT) (by decide)
  have k : 0 < (oT ++ b).size := by rw [ByteArray.size_append]; show 0 < 1 + _; omega
  unfold isB
  rw [e, decide_eq_true k]
  rfl
/-- A text that begins with s in brackets. -/
theorem group_at (a s c : ByteArray) (hc : 0 < c.size ∧ bt c 0 = 41) :
    (∀ A, pat s 19 false 0 = .ok (A, s.size) → cAtom (a ++ (oT ++ (s ++ c))) (some (pat (a ++ (oT ++ (s ++ c))) 19 false)) a.size = .ok (A, a.size + s.size + 2)) ∧
    ((∃ x, pat s 19 false 0 = .error (4, x)) → ∃ y, cAtom (a ++ (oT ++ (s ++ c))) (some (pat (a ++ (oT ++ (s ++ c))) 19 false)) a.size = .error (4, y)) := by
  have e : a ++ (oT ++ (s ++ c)) = (a ++ oT) ++ (s ++ c) := by rw [ByteArray.append_assoc]
  have hin : In s (a ++ (oT ++ (s ++ c))) (a.size + 1) := by
    rw [e, show a.size + 1 = (a ++ oT).size by rw [ByteArray.size_append]; rfl]
    exact In.mid _ _ _ fun _ => .inl hc.2
  have h40 : isB (a ++ (oT ++ (s ++ c))) a.size 40 = true := by
    have k := is_r a (oT ++ (s ++ c)) 0 40
    rw [Nat.add_zero] at k
    rw [k]
    exact is_oT _
  have h41 : isB (a ++ (oT ++ (s ++ c))) (a.size + 1 + s.size) 41 = true := by
    have k := is_r ((a ++ oT) ++ s) c 0 41
    rw [e, ← ByteArray.append_assoc, show a.size + 1 + s.size = ((a ++ oT) ++ s).size + 0 by simp only [ByteArray.size_append]; rfl, k]
    simp [isB, hc.1, hc.2]
  have k := group_in hin h40 h41
  rw [show a.size + 1 + s.size + 1 = a.size + s.size + 2 by omega] at k
  exact k

section
variable {s t : ByteArray} {A B : T}
/-- (s) -/
theorem paren (hs : s.size ≤ 60) (h : xparse s = .ok A) :
    (pat s 19 false 0 = .ok (A, s.size) ∧ xparse (oT ++ s ++ cT) = .ok A) ∨ ∃ x, xparse (oT ++ s ++ cT) = .error (4, x) := by
  have e : oT ++ s ++ cT = ByteArray.empty ++ (oT ++ (s ++ cT)) := by rw [ByteArray.append_assoc, ByteArray.empty_append]
  have hz : (oT ++ s ++ cT).size = s.size + 2 := by simp only [ByteArray.size_append]; show 1 + s.size + 1 = _; omega
  obtain ⟨g1, g2⟩ := group_at ByteArray.empty s cT ⟨by decide, by decide⟩
  rw [← e] at g1 g2
  rcases deeper (xparse_read h).2 with k | k
  · left
    refine ⟨k, xparse_of rfl (by omega) ?_⟩
    have hat := g1 A k
    have hend : (ByteArray.empty.size + s.size + 2 : Nat) = (oT ++ s ++ cT).size := by rw [hz]; simp
    rw [hend] at hat
    have hn : ∀ c, isB (oT ++ s ++ cT) (oT ++ s ++ cT).size c = false := fun c => by simp [isB]
    exact pat_one (part_one (piece_end hat (hn _) (hn _)) (.inl rfl)) (hn _)
  · right
    obtain ⟨y, hy⟩ := g2 k
    exact ⟨y, xparse_bad rfl (by omega) (pat_err hy)⟩

def barT : ByteArray := ⟨#[41, 124, 40]⟩
/-- (s)|(t) -/
theorem either (hs : s.size ≤ 60) (ht : t.size ≤ 60) (h : pat s 19 false 0 = .ok (A, s.size)) (h' : pat t 19 false 0 = .ok (B, t.size)) :
    xparse (oT ++ s ++ barT ++ t ++ cT) = .ok (.mk 3 noneP 0 0 [A, B]) := by
  have eb : barT = cT ++ (⟨#[124]⟩ ++ oT) := by decide
  have e1 : oT ++ s ++ barT ++ t ++ cT = ByteArray.empty ++ (oT ++ (s ++ (barT ++ (t ++ cT)))) := by rw [ByteArray.empty_append]; simp only [ByteArray.append_assoc]
  have e2 : oT ++ s ++ barT ++ t ++ cT = (oT ++ s ++ cT ++ ⟨#[124]⟩) ++ (oT ++ (t ++ cT)) := by rw [eb]; simp only [ByteArray.append_assoc]
  have hz : (oT ++ s ++ barT ++ t ++ cT).size = s.size + t.size + 5 := by simp only [ByteArray.size_append]; show 1 + s.size + 3 + t.size + 1 = _; omega
  have hz2 : (oT ++ s ++ cT ++ ⟨#[124]⟩).size = s.size + 3 := by simp only [ByteArray.size_append]; show 1 + s.size + 1 + 1 = _; omega
  have g1 := (group_at ByteArray.empty s (barT ++ (t ++ cT)) ⟨by simp only [ByteArray.size_append]; show 0 < 3 + _; omega, bt_l (a := barT) (by decide)⟩).1 A h
  have g2 := (group_at (oT ++ s ++ cT ++ ⟨#[124]⟩) t cT ⟨by decide, by decide⟩).1 B h'
  rw [← e1] at g1
  rw [← e2, hz2] at g2
  rw [show (ByteArray.empty.size + s.size + 2 : Nat) = s.size + 2 by simp] at g1
  have hb : isB (oT ++ s ++ barT ++ t ++ cT) (s.size + 2) 124 = true := by
    have e3 : oT ++ s ++ barT ++ t ++ cT = (oT ++ s) ++ (barT ++ (t ++ cT)) := by simp only [ByteArray.append_assoc]
    have k := is_r (oT ++ s) (barT ++ (t ++ cT)) 1 124
    rw [e3, show s.size + 2 = (oT ++ s).size + 1 by rw [ByteArray.size_append]; show _ = 1 + s.size + 1; omega, k]
    have e4 : bt (barT ++ (t ++ cT)) 1 = 124 := bt_l (a := barT) (by decide)
    simp [isB, e4, ByteArray.size_append]
    show 1 < 3 + _
    omega
  rw [show s.size + 3 + t.size + 2 = (oT ++ s ++ barT ++ t ++ cT).size by rw [hz]; omega] at g2
  generalize oT ++ s ++ barT ++ t ++ cT = u at *
  have hn : ∀ c, isB u u.size c = false := fun c => by simp [isB]
  exact xparse_of rfl (by omega) (pat_two (part_one (piece_end g1 (not_is hb (by decide)) (not_is hb (by decide))) (.inr hb)) hb (part_one (piece_end g2 (hn _) (hn _)) (.inl rfl)) (hn _))

def askT : ByteArray := ⟨#[41, 63]⟩
/-- (s)? -/
theorem maybe (hs : s.size ≤ 60) (h : pat s 19 false 0 = .ok (A, s.size)) : xparse (oT ++ s ++ askT) = .ok (.rep 0 1 A) := by
  have e1 : oT ++ s ++ askT = ByteArray.empty ++ (oT ++ (s ++ askT)) := by rw [ByteArray.empty_append]; simp only [ByteArray.append_assoc]
  have hz : (oT ++ s ++ askT).size = s.size + 3 := by simp only [ByteArray.size_append]; show 1 + s.size + 2 = _; omega
  have g1 := (group_at ByteArray.empty s askT ⟨by decide, by decide⟩).1 A h
  rw [← e1] at g1
  rw [show (ByteArray.empty.size + s.size + 2 : Nat) = s.size + 2 by simp] at g1
  have hb : isB (oT ++ s ++ askT) (s.size + 2) 63 = true := by
    have k := is_r (oT ++ s) askT 1 63
    rw [show s.size + 2 = (oT ++ s).size + 1 by rw [ByteArray.size_append]; show _ = 1 + s.size + 1; omega, k]
    decide
  generalize oT ++ s ++ askT = u at *
  have hn : ∀ c, isB u u.size c = false := fun c => by simp [isB]
  have hst : repStep u A (s.size + 2) = some (.ok (.rep 0 1 A, u.size)) := by unfold repStep; rw [if_pos hb, hz]
  exact xparse_of rfl (by omega) (pat_one (part_one (piece_rep g1 hst (by omega) (hn _) (hn _)) (.inl rfl)) (hn _))

def digT (n : Nat) : ByteArray := if n < 10 then ⟨#[(48 + n).toUInt8]⟩ else ⟨#[(48 + n / 10).toUInt8, (48 + n % 10).toUInt8]⟩
def opT : ByteArray := ⟨#[41, 123]⟩
def comT : ByteArray := ⟨#[44]⟩
def clT : ByteArray := ⟨#[125]⟩
def tailT (m n : Nat) : ByteArray := digT m ++ comT ++ digT n ++ clT
def timesOk (m n : Nat) : Bool := match cTimes (tailT m n) 0 with
  | .ok ((a, b), p) => a == (m : Int) && b == (n : Int) && p == (tailT m n).size && decide ((tailT m n).size ≤ 6)
  | .error _ => false
theorem times_all : ∀ m, m < 33 → ∀ n, n < 33 → 1 ≤ n → m ≤ n → timesOk m n = true := by decide +kernel
theorem times_tail {m n : Nat} (hn : n ≤ 32) (h1 : 1 ≤ n) (hm : m ≤ n) : cTimes (tailT m n) 0 = .ok (((m : Int), (n : Int)), (tailT m n).size) ∧ (tailT m n).size ≤ 6 := by
  have k := times_all m (by omega) n (by omega) h1 hm
  unfold timesOk at k
  split at k
  · rename_i a b p e
    simp at k
    obtain ⟨⟨⟨rfl, rfl⟩, rfl⟩, k⟩ := k
    exact ⟨e, k⟩
  · cases k
/-- (s){m,n} -/
theorem repeated {m n : Nat} (hs : s.size ≤ 60) (hn : n ≤ 32) (h1 : 1 ≤ n) (hm : m ≤ n) (h : pat s 19 false 0 = .ok (A, s.size)) : xparse (oT ++ s ++ opT ++ digT m ++ comT ++ digT n ++ clT) = .ok (.rep m n A) := by
  obtain ⟨ht, hw⟩ := times_tail hn h1 hm
  have e0 : oT ++ s ++ opT ++ digT m ++ comT ++ digT n ++ clT = (oT ++ s ++ opT) ++ (tailT m n ++ ByteArray.empty) := by rw [ByteArray.append_empty]; unfold tailT; simp only [ByteArray.append_assoc]
  have e1 : oT ++ s ++ opT ++ digT m ++ comT ++ digT n ++ clT = ByteArray.empty ++ (oT ++ (s ++ (opT ++ tailT m n))) := by rw [ByteArray.empty_append]; unfold tailT; simp only [ByteArray.append_assoc]
  have hz : (oT ++ s ++ opT ++ digT m ++ comT ++ digT n ++ clT).size = s.size + 3 + (tailT m n).size := by rw [e0]; simp only [ByteArray.size_append, ByteArray.size_empty]; show 1 + s.size + 2 + (tailT m n).size + 0 = _; omega
  have g1 := (group_at ByteArray.empty s (opT ++ tailT m n) ⟨by simp only [ByteArray.size_append]; show 0 < 2 + _; omega, bt_l (a := opT) (by decide)⟩).1 A h
  rw [← e1] at g1
  rw [show (ByteArray.empty.size + s.size + 2 : Nat) = s.size + 2 by simp] at g1
  have hb : isB (oT ++ s ++ opT ++ digT m ++ comT ++ digT n ++ clT) (s.size + 2) 123 = true := by
    have e3 : oT ++ s ++ opT ++ digT m ++ comT ++ digT n ++ clT = (oT ++ s) ++ (opT ++ tailT m n) := by unfold tailT; simp only [ByteArray.append_assoc]
    have k := is_r (oT ++ s) (opT ++ tailT m n) 1 123
    rw [e3, show s.size + 2 = (oT ++ s).size + 1 by rw [ByteArray.size_append]; show _ = 1 + s.size + 1; omega, k]
    have e4 : bt (opT ++ tailT m n) 1 = 123 := bt_l (a := opT) (by decide)
    simp [isB, e4, ByteArray.size_append]
    show 1 < 2 + _
    have : 0 < (tailT m n).size := by unfold tailT; rw [ByteArray.size_append]; show 0 < _ + 1; omega
    omega
  have hin : In (tailT m n) (oT ++ s ++ opT ++ digT m ++ comT ++ digT n ++ clT) (s.size + 3) := by
    rw [e0, show s.size + 3 = (oT ++ s ++ opT).size by simp only [ByteArray.size_append]; show _ = 1 + s.size + 2; omega]
    exact In.mid _ _ _ fun h => by simp at h
  have ht' := hin.times (b := false) (p := 0) (Nat.zero_le _)
  rw [ht] at ht'
  have ht2 : cTimes (oT ++ s ++ opT ++ digT m ++ comT ++ digT n ++ clT) (s.size + 3) = .ok (((m : Int), (n : Int)), s.size + 3 + (tailT m n).size) := by simpa [Sim] using ht'
  rw [← hz] at ht2
  generalize oT ++ s ++ opT ++ digT m ++ comT ++ digT n ++ clT = u at *
  have hn : ∀ c, isB u u.size c = false := fun c => by simp [isB]
  have hst : repStep u A (s.size + 2) = some (.ok (.rep m n A, u.size)) := by
    unfold repStep
    rw [if_neg (by rw [not_is hb (by decide)]; decide), if_pos hb, ht2]
    rfl
  exact xparse_of rfl (by omega) (pat_one (part_one (piece_rep g1 hst (by omega) (hn _) (hn _)) (.inl rfl)) (hn _))
end

/-! Without brackets. -/
def altsT (t : T) : List T := if t.op = 3 then t.kids else [t]
section
variable {s : ByteArray} {d : Option (Nat → R T)} (hb : ∀ i, i < s.size → bt s i ≠ 40)
include hb
theorem bare_atom {p q : Nat} {t : T} (h : cAtom s d p = .ok (t, q)) : t.op = 1 := by
  unfold cAtom at h
  by_cases hlt : p < s.size
  · rw [if_pos hlt, if_neg (hb p hlt)] at h
    split at h
    · cases hc : cClass s (p + 1) with
      | error e => rw [hc] at h; cases h
      | ok x => rw [hc] at h; injection h with h; injection h with h _; rw [← h]; rfl
    · split at h
      · injection h with h; injection h with h _; rw [← h]; rfl
      · split at h
        · split at h
          · injection h with h; injection h with h _; rw [← h]; rfl
          · cases hc : cEsc s (p + 1) with
            | error e => rw [hc] at h; cases h
            | ok x => rw [hc] at h; injection h with h; injection h with h _; rw [← h]; rfl
        · split at h
          · cases h
          · split at h
            · cases h
            · injection h with h; injection h with h _; rw [← h]; rfl
  · rw [if_neg hlt] at h; cases h
omit hb in
theorem rep_loop : ∀ (n : Nat) (t : T) (p : Nat) (t' : T) (q : Nat), t.op ≠ 3 → loopR (repStep s) n t p = .ok (t', q) → t'.op ≠ 3
  | 0, t, p, t', q, h0, h => by unfold loopR at h; injection h with h; injection h with h _; rw [← h]; exact h0
  | n + 1, t, p, t', q, h0, h => by
    unfold loopR repStep at h
    by_cases h63 : isB s p 63 = true
    · rw [if_pos h63] at h
      exact rep_loop n _ _ t' q (by show (4 : Int) ≠ 3; decide) h
    · rw [if_neg h63] at h
      by_cases h123 : isB s p 123 = true
      · rw [if_pos h123] at h
        cases hc : cTimes s (p + 1) with
        | error e => rw [hc] at h; cases h
        | ok x => rw [hc] at h; exact rep_loop n _ _ t' q (by show (4 : Int) ≠ 3; decide) h
      · rw [if_neg h123] at h
        injection h with h; injection h with h _; rw [← h]; exact h0
theorem bare_piece {p q : Nat} {t : T} (h : cPiece s d p = .ok (t, q)) : t.op ≠ 3 := by
  unfold cPiece at h
  cases hc : cAtom s d p with
  | error e => rw [hc] at h; cases h
  | ok x =>
    rw [hc] at h
    exact rep_loop _ x.1 x.2 t q (by rw [bare_atom hb hc]; decide) h
theorem bare_ploop : ∀ (n : Nat) (l : List T) (p : Nat) (l' : List T) (q : Nat), (∀ x ∈ l, x.op ≠ 3) → loopR (partStep s d false) n l p = .ok (l', q) → ∀ x ∈ l', x.op ≠ 3
  | 0, l, p, l', q, h0, h => by unfold loopR at h; injection h with h; injection h with h _; rw [← h]; exact h0
  | n + 1, l, p, l', q, h0, h => by
    unfold loopR partStep at h
    split at h
    · injection h with h; injection h with h _; rw [← h]; exact h0
    · cases h
    · rename_i a' p' e
      split at e
      · cases hc : cPiece s d p with
        | error e' => rw [hc] at e; injection e with e; cases e
        | ok x =>
          rw [hc] at e
          injection e with e
          injection e with e
          injection e with e1 e2
          refine bare_ploop n a' p' l' q (fun y hy => ?_) h
          rw [← e1] at hy
          rcases List.mem_append.1 hy with hy | hy
          · exact h0 y hy
          · simp at hy
            rw [hy]
            exact bare_piece (q := x.2) hb hc
      · cases e
theorem bare_part {p q : Nat} {t : T} (h : cPart s d false p = .ok (t, q)) : t.op ≠ 3 := by
  unfold cPart at h
  cases hc : cPiece s d p with
  | error e => rw [hc] at h; cases h
  | ok x =>
    rw [hc] at h
    simp only [thenR] at h
    cases hl : loopR (partStep s d false) (s.size + 1) [x.1] x.2 with
    | error e => rw [hl] at h; cases h
    | ok y =>
      rw [hl] at h
      have k := bare_ploop hb _ [x.1] x.2 y.1 y.2 (fun z hz => by simp at hz; rw [hz]; exact bare_piece (q := x.2) hb hc) hl
      injection h with h
      injection h with h _
      rw [← h]
      unfold T.many
      split
      · rename_i z e
        exact k z (by rw [e]; simp)
      · show (2 : Int) ≠ 3; decide
theorem bare_loop : ∀ (n : Nat) (l : List T) (p : Nat) (l' : List T) (q : Nat), (∀ x ∈ l, x.op ≠ 3) → loopR (patStep s d false) n l p = .ok (l', q) → (∀ x ∈ l', x.op ≠ 3) ∧ l.length ≤ l'.length
  | 0, l, p, l', q, h0, h => by unfold loopR at h; injection h with h; injection h with h _; rw [← h]; exact ⟨h0, Nat.le_refl _⟩
  | n + 1, l, p, l', q, h0, h => by
    unfold loopR patStep at h
    split at h
    · injection h with h; injection h with h _; rw [← h]; exact ⟨h0, Nat.le_refl _⟩
    · cases h
    · rename_i a' p' e
      split at e
      · cases hc : cPart s d false (p + 1) with
        | error e' => rw [hc] at e; injection e with e; cases e
        | ok x =>
          rw [hc] at e
          injection e with e
          injection e with e
          injection e with e1 e2
          have k := bare_loop n a' p' l' q (fun y hy => by
            rw [← e1] at hy
            rcases List.mem_append.1 hy with hy | hy
            · exact h0 y hy
            · simp at hy
              rw [hy]
              exact bare_part (q := x.2) hb hc) h
          have e3 := congrArg List.length e1
          simp at e3
          exact ⟨k.1, by omega⟩
      · cases e
theorem bare_pat {A : T} (h : cPat s d false 0 = .ok (A, s.size)) : ∃ t0 p0, cPart s d false 0 = .ok (t0, p0) ∧ loopR (patStep s d false) (s.size + 1) [t0] p0 = .ok (altsT A, s.size) ∧ 1 ≤ (altsT A).length := by
  unfold cPat at h
  cases hc : cPart s d false 0 with
  | error e => rw [hc] at h; cases h
  | ok x =>
    rw [hc] at h
    simp only [thenR] at h
    cases hl : loopR (patStep s d false) (s.size + 1) [x.1] x.2 with
    | error e => rw [hl] at h; cases h
    | ok y =>
      obtain ⟨l, q⟩ := y
      rw [hl] at h
      have k := bare_loop hb _ [x.1] x.2 l q (fun z hz => by simp at hz; rw [hz]; exact bare_part (q := x.2) hb hc) hl
      injection h with h
      injection h with h1 h2
      have e : altsT A = l := by
        rw [← h1]
        unfold T.many altsT
        split
        · rename_i z
          have := k.1 z (by simp)
          rw [if_neg this]
        · rfl
      refine ⟨x.1, x.2, rfl, ?_, by rw [e]; simpa using k.2⟩
      rw [hl, e, h2]
end
theorem pat_acc {u : ByteArray} {d : Option (Nat → R T)} (l0 : List T) : ∀ (n : Nat) (l : List T) (p : Nat), loopR (patStep u d false) n (l0 ++ l) p = thenR (loopR (patStep u d false) n l p) fun l' q => .ok (l0 ++ l', q)
  | 0, l, p => rfl
  | n + 1, l, p => by
    unfold loopR patStep
    by_cases h : isB u p 124 = true
    · rw [if_pos h, if_pos h]
      cases hc : cPart u d false (p + 1) with
      | error e => rfl
      | ok x =>
        simp only [thenR]
        rw [List.append_assoc]
        exact pat_acc l0 n (l ++ [x.1]) x.2
    · rw [if_neg h, if_neg h]
      rfl
def oneT : ByteArray := ⟨#[124]⟩
theorem bare_bar {s t : ByteArray} {A B : T} (hs : s.size ≤ 60) (ht : t.size ≤ 60) (h : xparse s = .ok A) (h' : xparse t = .ok B) (b1 : ∀ i, i < s.size → bt s i ≠ 40) (b2 : ∀ i, i < t.size → bt t i ≠ 40) :
    xparse (s ++ oneT ++ t) = .ok (.mk 3 noneP 0 0 (altsT A ++ altsT B)) ∧ 1 ≤ (altsT A).length ∧ 1 ≤ (altsT B).length := by
  have e1 : s ++ oneT ++ t = ByteArray.empty ++ (s ++ (oneT ++ t)) := by rw [ByteArray.empty_append]; simp only [ByteArray.append_assoc]
  have e2 : s ++ oneT ++ t = (s ++ oneT) ++ (t ++ ByteArray.empty) := by rw [ByteArray.append_empty]
  have hz : (s ++ oneT ++ t).size = s.size + 1 + t.size := by simp only [ByteArray.size_append]; rfl
  have i1 : In s (s ++ oneT ++ t) 0 := by rw [e1]; exact In.mid ByteArray.empty s _ fun _ => .inr (bt_l (a := oneT) (by decide))
  have i2 : In t (s ++ oneT ++ t) (s.size + 1) := by rw [e2, show s.size + 1 = (s ++ oneT).size by rw [ByteArray.size_append]; rfl]; exact In.mid _ _ _ fun h => by simp at h
  have hbar : isB (s ++ oneT ++ t) s.size 124 = true := by
    have k := is_r s (oneT ++ t) 0 124
    rw [ByteArray.append_assoc, show s.size = s.size + 0 from rfl, k]
    have e4 : bt (oneT ++ t) 0 = 124 := bt_l (a := oneT) (by decide)
    simp [isB, e4, ByteArray.size_append]
    show 0 < 1 + _
    omega
  obtain ⟨t0, p0, k1, k2, k3⟩ := bare_pat (d := some (pat s 19 false)) b1 (A := A) (xparse_read h).2
  obtain ⟨t1, p1, m1, m2, m3⟩ := bare_pat (d := some (pat t 19 false)) b2 (A := B) (xparse_read h').2
  refine ⟨?_, k3, m3⟩
  generalize s ++ oneT ++ t = u at *
  have f1 : ∀ f, some (pat s 19 false) = some f → ∀ p, p ≤ s.size → Fwd s p (f p) := fun f e p _ => by cases e; exact pat_fwd s 19 false p
  have f2 : ∀ f, some (pat t 19 false) = some f → ∀ p, p ≤ t.size → Fwd t p (f p) := fun f e p _ => by cases e; exact pat_fwd t 19 false p
  have q1 : ∀ p, p ≤ s.size → Sim false 0 (cPart s (some (pat s 19 false)) false p) (cPart u (some (pat u 19 false)) false (0 + p)) := fun p hp => i1.part f1 (fun ⟨i, x, y⟩ => absurd y (b1 i x)) hp
  have q2 : ∀ p, p ≤ t.size → Sim false (s.size + 1) (cPart t (some (pat t 19 false)) false p) (cPart u (some (pat u 19 false)) false (s.size + 1 + p)) := fun p hp => i2.part f2 (fun ⟨i, x, y⟩ => absurd y (b2 i x)) hp
  have w1 := part_fwd s _ f1 false 0
  rw [k1] at w1
  have w2 := part_fwd t _ f2 false 0
  rw [m1] at w2
  have c1 : cPart u (some (pat u 19 false)) false 0 = .ok (t0, 0 + p0) := by
    have := q1 0 (Nat.zero_le _)
    rw [k1] at this
    simpa [Sim] using this
  have c2 : cPart u (some (pat u 19 false)) false (s.size + 1) = .ok (t1, s.size + 1 + p1) := by
    have := q2 0 (Nat.zero_le _)
    rw [m1] at this
    simpa [Sim] using this
  have hst : ∀ (x : ByteArray) (off : Nat), In x u off → (∀ p, p ≤ x.size → Sim false off (cPart x (some (pat x 19 false)) false p) (cPart u (some (pat u 19 false)) false (off + p))) → ∀ a p a' p', p ≤ x.size → patStep x (some (pat x 19 false)) false a p = some (.ok (a', p')) → patStep u (some (pat u 19 false)) false a (off + p) = some (.ok (a', off + p')) := by
    intro x off hin hq a p a' p' hp e
    unfold patStep at e ⊢
    by_cases h124 : isB x p 124 = true
    · have hlt := (isB_lt h124).1
      rw [if_pos h124] at e
      rw [if_pos (by rw [hin.is' hlt]; exact h124)]
      have k := hq (p + 1) (by omega)
      cases hc : cPart x (some (pat x 19 false)) false (p + 1) with
      | error e' => rw [hc] at e; injection e with e; cases e
      | ok y =>
        rw [hc] at k e
        injection e with e
        injection e with e
        injection e with e3 e4
        have k' : cPart u (some (pat u 19 false)) false (off + (p + 1)) = .ok (y.1, off + y.2) := by simpa [Sim] using k
        rw [show off + p + 1 = off + (p + 1) from rfl, k', ← e3, ← e4]
        rfl
    · rw [if_neg h124] at e; cases e
  obtain ⟨_, n1, n2, n3⟩ := loop_on i1.size (hst s 0 i1 q1) (fun a p r _ h => patStep_fwd s _ f1 false a p r h) (s.size + 1) (u.size + 1) [t0] p0 (altsT A) s.size w1.2 (by omega) (by omega) k2
  rw [Nat.zero_add s.size] at n2 n3
  obtain ⟨n4, rfl⟩ : ∃ m, n1 = m + 1 := ⟨n1 - 1, by omega⟩
  have n5 : loopR (patStep u (some (pat u 19 false)) false) (n4 + 1) (altsT A) s.size = loopR (patStep u (some (pat u 19 false)) false) n4 (altsT A ++ [t1]) (s.size + 1 + p1) := by
    conv => lhs; unfold loopR patStep
    rw [if_pos hbar, c2]
    rfl
  have hp1 := w2.1
  obtain ⟨_, n6, n7, n8⟩ := loop_on i2.size (hst t (s.size + 1) i2 q2) (fun a p r _ h => patStep_fwd t _ f2 false a p r h) (t.size + 1) n4 [t1] p1 (altsT B) t.size w2.2 (by omega) (by omega) m2
  have n9 : loopR (patStep u (some (pat u 19 false)) false) n6 (altsT B) (s.size + 1 + t.size) = .ok (altsT B, s.size + 1 + t.size) := by
    cases n6 with
    | zero => rfl
    | succ n =>
      unfold loopR
      rw [show patStep u (some (pat u 19 false)) false (altsT B) (s.size + 1 + t.size) = none by
        unfold patStep
        rw [if_neg]
        intro k
        have := (isB_lt k).1
        omega]
  refine xparse_of rfl (by omega) ?_
  unfold cPat
  rw [c1]
  simp only [thenR]
  rw [n3, n5, pat_acc, n8, n9]
  simp only [thenR]
  rw [hz]
  congr 1
  congr 1
  unfold T.many
  split
  · rename_i z e
    have := congrArg List.length e
    simp at this
    omega
  · rfl

end Go.Proofs.Ytpiieonlbfhbaaa
