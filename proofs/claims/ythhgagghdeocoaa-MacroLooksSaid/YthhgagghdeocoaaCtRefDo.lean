/-
  The document's machine: what Do does, whatever the instruction. Contracts for other texts; no statement of its own.
-/
import Derived.Test.YthhgagghdeocoaaCtRefDo0
import Derived.Test.YthhgagghdeocoaaCtRefDo1
import Derived.Test.YthhgagghdeocoaaCtRefDo2
import Derived.Test.YthhgagghdeocoaaCtRefDo3
import Derived.Test.YthhgagghdeocoaaCtRefDo4
import Derived.Test.YthhgagghdeocoaaCtRefDo5
import Derived.Test.YthhgagghdeocoaaCtRefDo6
import Derived.Test.YthhgagghdeocoaaCtRefDo7
import Derived.Test.YthhgagghdeocoaaCtRefDo8
import Derived.Test.YthhgagghdeocoaaCtRefDo9
import Derived.Test.YthhgagghdeocoaaCtRefDo10
import Derived.Test.YthhgagghdeocoaaCtRefDo11
set_option linter.unusedVariables false
set_option linter.unusedSimpArgs false
namespace Go.Proofs.Ythhgagghdeocoaa
open Go Go.RowKit

def RetDoc (w : World) (F : Nat → Prop) (q m : Nat) (f : Int → Int) (tr : List Ins) (x : Ins) (e : Ending) (w' : World) : Prop :=
  e = .returned (.tuple #[.int .u64 (toldM x m f), .int .i64 (if may x m = true then 0 else 1)]) ∧ ∃ F', Doc w' F' q m (nextM x m f) (nextT x m tr) ∧ Kept F w w' ∧ (∀ b, F' b → F b ∨ w.heap.size ≤ b)

set_option maxRecDepth 20000 in
set_option maxHeartbeats 2000000 in
theorem ddo_no {w : World} {F : Nat → Prop} {q m : Nat} {f : Int → Int} {tr : List Ins} {mb : Nat} {lv : Value} {D : MapD} (h : DocE w F q m f tr mb lv D) (x : Ins) (hx : x.fits) (hm : m ≤ 200000) (hmay : may x m = false) :
    Calls Try.prog 51 #[.pointer (some ⟨q, 0, none⟩), insV x] w (RetDoc w F q m f tr x) := by
  have hcm := fun (W : World) (hb : Below w.heap.size w W) => dmay_p (w := W) (cell_stays h.c0 hb) hm x hx
  rw [hmay] at hcm
  unfold RetDoc toldM nextM nextT
  rw [hmay]
  have hb0 : Below w.heap.size w (w.alloc (.cells #[.int .i64 x.op, .int .i64 x.d, .int .i64 x.a, .int .i64 x.b, .int .i64 x.c, .int .u64 x.n] 68)) := (Below.refl _ _).alloc (Nat.le_refl _) _
  have HB := Lib.hid hb0
  have HC := Lib.hid hcm
  have H := Lib.hid h
  unfold insV at HC ⊢
  simp only [Bool.false_eq_true, if_false]
  clear h hcm hb0 hx hmay
  go_enter Try.func51, Try.ntmps51
  go_wp2_with (first
    | (go_at_call 76; (with_reducible refine (HC.out _ HB.out).mono ?_); rintro e w1 ⟨rfl, b1⟩; have B1 := Lib.hid (gro HB.out b1); clear b1)
    | fail)
  go_ret2
  exact ⟨rfl, F, ⟨_, _, _, H.out.stays B1.out⟩, Kept.of_below F B1.out, fun b e => .inl e⟩
theorem ddo_p {w : World} {F : Nat → Prop} {q m : Nat} {f : Int → Int} {tr : List Ins} (h : Doc w F q m f tr) (x : Ins) (hx : x.fits) (hm : m ≤ 200000) (hlen : tr.length ≤ 99999) :
    Calls Try.prog 51 #[.pointer (some ⟨q, 0, none⟩), insV x] w (RetDoc w F q m f tr x) := by
  obtain ⟨mb, lv, D, h⟩ := h
  cases hmay : may x m
  · exact ddo_no h x hx hm hmay
  · have key : Calls Try.prog 51 #[.pointer (some ⟨q, 0, none⟩), insV x] w fun e w' => e = .returned (.tuple #[.int .u64 (told x f), .int .i64 0]) ∧ ∃ F', Doc w' F' q m (nextF x f) (tr ++ [trc x]) ∧ Kept F w w' ∧ (∀ b, F' b → F b ∨ w.heap.size ≤ b) := by
      obtain ⟨o, d, a, b, c', n⟩ := x
      rcases op_cases o with e | e | e | e | e | e | e | e | e | e | e | e | e
      · subst e; exact ddo_0 h d a b c' n hx hm hlen hmay
      · subst e; exact ddo_1 h d a b c' n hx hm hlen hmay
      · subst e; exact ddo_2 h d a b c' n hx hm hlen hmay
      · subst e; exact ddo_3 h d a b c' n hx hm hlen hmay
      · subst e; exact ddo_4 h d a b c' n hx hm hlen hmay
      · subst e; exact ddo_5 h d a b c' n hx hm hlen hmay
      · subst e; exact ddo_6 h d a b c' n hx hm hlen hmay
      · subst e; exact ddo_7 h d a b c' n hx hm hlen hmay
      · subst e; exact ddo_8 h d a b c' n hx hm hlen hmay
      · subst e; exact ddo_9 h d a b c' n hx hm hlen hmay
      · subst e; exact ddo_10 h d a b c' n hx hm hlen hmay
      · subst e; exact ddo_11 h d a b c' n hx hm hlen hmay
      · obtain ⟨q0, q1, q2, q3, q4, q5, q6, q7, q8, q9, q10, q11⟩ := e
        simp [may, q0, q1, q2, q3, q4, q5, q6, q7, q8, q9, q10, q11] at hmay
    refine key.mono fun e w' ⟨h1, h2⟩ => ?_
    unfold RetDoc toldM nextM nextT
    rw [hmay]
    simp only [if_true]
    exact ⟨h1, h2⟩
end Go.Proofs.Ythhgagghdeocoaa
