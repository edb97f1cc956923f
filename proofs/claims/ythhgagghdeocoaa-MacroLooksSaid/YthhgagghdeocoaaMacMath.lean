/-
  Runs of instructions on a machine of cells, and the instructions of Look, as plain mathematics. No statement of its own.
-/
import Derived.Test.YthhgagghdeocoaaCtNext
set_option linter.unusedVariables false
set_option linter.unusedSimpArgs false
namespace Go.Proofs.Ythhgagghdeocoaa
open Go Go.RowKit

/-- What a run leaves in the cells. -/
def runF (m : Nat) : List Ins → (Int → Int) → (Int → Int)
  | [], f => f
  | x :: l, f => if may x m = true then runF m l (nextF x f) else f
/-- Its trace. -/
def runT (m : Nat) : List Ins → List Ins → List Ins
  | [], tr => tr
  | x :: l, tr => if may x m = true then runT m l (tr ++ [trc x]) else tr
/-- What it tells: none, if an instruction may not be. -/
def runO (m : Nat) : List Ins → (Int → Int) → List Int → Option (List Int)
  | [], f, o => some o
  | x :: l, f, o => if may x m = true then runO m l (nextF x f) (if x.op = 11 then o ++ [f x.a] else o) else none
theorem runT_len (m : Nat) : ∀ (l tr : List Ins), (runT m l tr).length ≤ tr.length + l.length
  | [], tr => by simp [runT]
  | x :: l, tr => by
    unfold runT
    split
    · have := runT_len m l (tr ++ [trc x])
      simp at this ⊢
      omega
    · simp
theorem runO_len (m : Nat) : ∀ (l : List Ins) (f : Int → Int) (o out : List Int), runO m l f o = some out → out.length ≤ o.length + l.length
  | [], f, o, out, h => by
    unfold runO at h
    injection h with h
    subst h
    simp
  | x :: l, f, o, out, h => by
    unfold runO at h
    split at h
    · have := runO_len m l _ _ out h
      split at this
      · simp at this ⊢; omega
      · simp; omega
    · cases h
/-- All of them may be. -/
def Mays (m : Nat) (l : List Ins) : Prop := ∀ x ∈ l, may x m = true
theorem runF_app {m : Nat} : ∀ {a : List Ins} (b : List Ins) (f : Int → Int), Mays m a → runF m (a ++ b) f = runF m b (runF m a f)
  | [], b, f, h => rfl
  | x :: a, b, f, h => by
    have h1 := h x (by simp)
    have h2 : Mays m a := fun y hy => h y (by simp [hy])
    have e1 : runF m (x :: (a ++ b)) f = runF m (a ++ b) (nextF x f) := by rw [runF, if_pos h1]
    have e2 : runF m (x :: a) f = runF m a (nextF x f) := by rw [runF, if_pos h1]
    rw [List.cons_append, e1, e2]
    exact runF_app b _ h2
theorem runO_app {m : Nat} : ∀ {a : List Ins} (b : List Ins) (f : Int → Int) (o : List Int), Mays m a → (∀ x ∈ a, ¬ x.op = 11) → runO m (a ++ b) f o = runO m b (runF m a f) o
  | [], b, f, o, h, h' => rfl
  | x :: a, b, f, o, h, h' => by
    have h1 := h x (by simp)
    have h2 : Mays m a := fun y hy => h y (by simp [hy])
    have h3 := h' x (by simp)
    have e1 : runO m (x :: (a ++ b)) f o = runO m (a ++ b) (nextF x f) o := by rw [runO, if_pos h1, if_neg h3]
    have e2 : runF m (x :: a) f = runF m a (nextF x f) := by rw [runF, if_pos h1]
    rw [List.cons_append, e1, e2]
    exact runO_app b _ _ h2 fun y hy => h' y (by simp [hy])
/-- The numbers that Look compares. -/
def numN (step : Int) (k : Nat) : Int := ((k : Int) * (step % 18446744073709551616)) % 18446744073709551616
theorem numN_u64 (step : Int) (k : Nat) : U64 (numN step k) := by unfold numN U64; omega
theorem numN_succ (step : Int) (k : Nat) : (numN step k + step % 18446744073709551616) % 18446744073709551616 = numN step (k + 1) := by
  unfold numN
  rw [Int.emod_add_emod]
  congr 1
  rw [show ((k + 1 : Nat) : Int) = (k : Int) + 1 by omega, Int.add_mul, Int.one_mul]
def wrapI (v : Int) : Int := IntKind.i64.wrap v
def lookAt (dst key base step tmp : Int) (k : Nat) : List Ins := [⟨0, tmp, 0, 0, 0, numN step k⟩, ⟨2, tmp, tmp, key, 0, 0⟩, ⟨1, dst, tmp, wrapI (base + k), dst, 0⟩]
/-- Look's instructions. -/
def lookL (dst key base step tmp : Int) : Nat → List Ins
  | 0 => [⟨0, dst, 0, 0, 0, 0⟩]
  | k + 1 => lookL dst key base step tmp k ++ lookAt dst key base step tmp k
theorem lookL_len (dst key base step tmp : Int) : ∀ n, (lookL dst key base step tmp n).length = 1 + 3 * n
  | 0 => rfl
  | k + 1 => by
    unfold lookL
    rw [List.length_append, lookL_len dst key base step tmp k]
    simp [lookAt]
    omega
/-- What Look finds. -/
def wantN (tb : List Int) (key step : Int) : Nat → Int
  | 0 => 0
  | k + 1 => if numN step k = key then tb.getD k 0 else wantN tb key step k
/-- The table's instructions. -/
def constL (tb : List Int) : Nat → List Ins
  | 0 => []
  | k + 1 => constL tb k ++ [⟨0, 10 + (k : Int), 0, 0, 0, tb.getD k 0⟩]
theorem constL_len (tb : List Int) : ∀ n, (constL tb n).length = n
  | 0 => rfl
  | k + 1 => by
    unfold constL
    rw [List.length_append, constL_len tb k]
    rfl
/-- All of MacroLooks's instructions. -/
def macL (tb : List Int) (key step : Int) : List Ins :=
  constL tb tb.length ++ ([⟨10, 1, 0, 0, 0, key⟩, ⟨0, 2, 0, 0, 0, 99⟩] ++ (lookL 2 1 10 step 3 tb.length ++ ([⟨1, 4, 2, 2, 2, 0⟩] ++ [⟨11, 0, 2, 0, 0, 0⟩, ⟨11, 0, 4, 0, 0, 0⟩])))
theorem const_run (tb : List Int) (m : Nat) : ∀ n, n + 10 ≤ m → Mays m (constL tb n) ∧ (∀ x ∈ constL tb n, ¬ x.op = 11) ∧ ∀ i : Nat, i < n → runF m (constL tb n) (fun _ => 0) (10 + (i : Int)) = tb.getD i 0
  | 0, h => ⟨fun x hx => by simp [constL] at hx, fun x hx => by simp [constL] at hx, fun i hi => by omega⟩
  | k + 1, h => by
    obtain ⟨h1, h2, h3⟩ := const_run tb m k (by omega)
    have hm : may ⟨0, 10 + (k : Int), 0, 0, 0, tb.getD k 0⟩ m = true := by simp [may, there]; omega
    unfold constL
    refine ⟨fun x hx => ?_, fun x hx => ?_, fun i hi => ?_⟩
    · rw [List.mem_append, List.mem_singleton] at hx
      rcases hx with hx | rfl
      · exact h1 x hx
      · exact hm
    · rw [List.mem_append, List.mem_singleton] at hx
      rcases hx with hx | rfl
      · exact h2 x hx
      · simp
    · rw [runF_app _ _ h1]
      unfold runF
      rw [if_pos hm]
      unfold runF nextF put worth
      by_cases e : i = k
      · subst e
        simp
      · simp
        rw [if_neg (by omega)]
        have := h3 i (by omega)
        simpa using this
/-- What the cells hold behind Look of the first k. -/
theorem look_run (tb : List Int) (key step : Int) (m : Nat) (f : Int → Int) (h1 : f 1 = key) (hT : ∀ i : Nat, i < tb.length → f (10 + (i : Int)) = tb.getD i 0) (hm : tb.length + 10 ≤ m) (hM : m ≤ 1000) :
    ∀ k, k ≤ tb.length → Mays m (lookL 2 1 10 step 3 k) ∧ (∀ x ∈ lookL 2 1 10 step 3 k, ¬ x.op = 11) ∧ runF m (lookL 2 1 10 step 3 k) f 2 = wantN tb key step k ∧ runF m (lookL 2 1 10 step 3 k) f 1 = key ∧ ∀ i : Nat, i < tb.length → runF m (lookL 2 1 10 step 3 k) f (10 + (i : Int)) = tb.getD i 0
  | 0, h => by
    have hm0 : may ⟨0, 2, 0, 0, 0, 0⟩ m = true := by simp [may, there]; omega
    unfold lookL
    refine ⟨fun x hx => ?_, fun x hx => ?_, ?_, ?_, fun i hi => ?_⟩
    · rw [List.mem_singleton] at hx; subst hx; exact hm0
    · rw [List.mem_singleton] at hx; subst hx; simp
    · simp [runF, hm0, nextF, put, worth, wantN]
    · simp [runF, hm0, nextF, put, worth, h1]
    · have e : ¬ (10 + (i : Int)) = 2 := by omega
      have := hT i hi
      simp [runF, hm0, nextF, put, worth, e]
      simpa using this
  | k + 1, h => by
    obtain ⟨a1, a2, a3, a4, a5⟩ := look_run tb key step m f h1 hT hm hM k (by omega)
    have hw : wrapI (10 + (k : Int)) = 10 + (k : Int) := IntWalk.i64_in _ (by omega)
    have m1 : may ⟨0, 3, 0, 0, 0, numN step k⟩ m = true := by simp [may, there]; omega
    have m2 : may ⟨2, 3, 3, 1, 0, 0⟩ m = true := by simp [may, there]; omega
    have m3 : may ⟨1, 2, 3, 10 + (k : Int), 2, 0⟩ m = true := by simp [may, there]; omega
    have hk := a5 k (by omega)
    unfold lookL lookAt
    rw [hw]
    obtain ⟨g, hg⟩ : ∃ g, runF m (lookL 2 1 10 step 3 k) f = g := ⟨_, rfl⟩
    have hrun : runF m (lookL 2 1 10 step 3 k ++ [⟨0, 3, 0, 0, 0, numN step k⟩, ⟨2, 3, 3, 1, 0, 0⟩, ⟨1, 2, 3, 10 + (k : Int), 2, 0⟩]) f = nextF ⟨1, 2, 3, 10 + (k : Int), 2, 0⟩ (nextF ⟨2, 3, 3, 1, 0, 0⟩ (nextF ⟨0, 3, 0, 0, 0, numN step k⟩ g)) := by
      rw [runF_app _ _ a1, hg]
      simp [runF, m1, m2, m3]
    rw [hg] at a3 a4 a5 hk
    rw [hrun]
    refine ⟨fun x hx => ?_, fun x hx => ?_, ?_, ?_, fun i hi => ?_⟩
    · simp at hx
      rcases hx with hx | rfl | rfl | rfl
      · exact a1 x hx
      · exact m1
      · exact m2
      · exact m3
    · simp at hx
      rcases hx with hx | rfl | rfl | rfl
      · exact a2 x hx
      · simp
      · simp
      · simp
    · have e1 : ¬ (10 + (k : Int)) = 3 := by omega
      simp [nextF, put, worth, wantN, a3, a4, hk, e1]
    · simp [nextF, put, worth, a4]
    · have e1 : ¬ (10 + (i : Int)) = 3 := by omega
      have e2 : ¬ (10 + (i : Int)) = 2 := by omega
      have := a5 i hi
      simp [nextF, put, worth, e1, e2]
      simpa using this
/-- What MacroLooks's instructions tell. -/
theorem mac_run (tb : List Int) (key step : Int) (h : tb.length ≤ 100) : runO (10 + tb.length) (macL tb key step) (fun _ => 0) [] = some [wantN tb key step tb.length, wantN tb key step tb.length] := by
  obtain ⟨m, hm⟩ : ∃ m, 10 + tb.length = m := ⟨_, rfl⟩
  obtain ⟨c1, c2, c3⟩ := const_run tb m tb.length (by omega)
  rw [hm]
  unfold macL
  rw [runO_app _ _ _ c1 c2]
  obtain ⟨g, hg⟩ : ∃ g, runF m (constL tb tb.length) (fun _ => 0) = g := ⟨_, rfl⟩
  rw [hg] at c3 ⊢
  have m1 : may ⟨10, 1, 0, 0, 0, key⟩ m = true := by simp [may, there]; omega
  have m2 : may ⟨0, 2, 0, 0, 0, 99⟩ m = true := by simp [may, there]; omega
  rw [runO_app (a := [⟨10, 1, 0, 0, 0, key⟩, ⟨0, 2, 0, 0, 0, 99⟩]) _ _ _ (fun x hx => by simp at hx; rcases hx with rfl | rfl; exact m1; exact m2) (fun x hx => by simp at hx; rcases hx with rfl | rfl <;> simp)]
  have hr : runF m [⟨10, 1, 0, 0, 0, key⟩, ⟨0, 2, 0, 0, 0, 99⟩] g = nextF ⟨0, 2, 0, 0, 0, 99⟩ (nextF ⟨10, 1, 0, 0, 0, key⟩ g) := by simp [runF, m1, m2]
  rw [hr]
  obtain ⟨g2, hg2⟩ : ∃ g2, nextF ⟨0, 2, 0, 0, 0, 99⟩ (nextF ⟨10, 1, 0, 0, 0, key⟩ g) = g2 := ⟨_, rfl⟩
  have q1 : g2 1 = key := by rw [← hg2]; simp [nextF, put, worth]
  have q2 : ∀ i : Nat, i < tb.length → g2 (10 + (i : Int)) = tb.getD i 0 := fun i hi => by
    rw [← hg2]
    have e1 : ¬ (10 + (i : Int)) = 1 := by omega
    have e2 : ¬ (10 + (i : Int)) = 2 := by omega
    have := c3 i hi
    simp [nextF, put, worth, e1, e2]
    simpa using this
  rw [hg2]
  obtain ⟨a1, a2, a3, a4, a5⟩ := look_run tb key step m g2 q1 q2 (by omega) (by omega) tb.length (Nat.le_refl _)
  rw [runO_app _ _ _ a1 a2]
  obtain ⟨g3, hg3⟩ : ∃ g3, runF m (lookL 2 1 10 step 3 tb.length) g2 = g3 := ⟨_, rfl⟩
  rw [hg3] at a3 ⊢
  have m3 : may ⟨1, 4, 2, 2, 2, 0⟩ m = true := by simp [may, there]; omega
  have m4 : may ⟨11, 0, 2, 0, 0, 0⟩ m = true := by simp [may, there]; omega
  have m5 : may ⟨11, 0, 4, 0, 0, 0⟩ m = true := by simp [may, there]; omega
  simp [runO, m3, m4, m5, nextF, put, worth, a3]
end Go.Proofs.Ythhgagghdeocoaa
