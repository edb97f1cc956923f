/-
  The law RxParts of layer 2. No statement of its own: the statement's proof is another text.
-/
import Derived.Test.YtpiieonlbfhbaaaLaw2c
import Derived.Deep.CutRange
import Derived.Deep.DeepCutAuto
import Derived.Deep.RegionLaw
import Derived.StillTailTactics
import Derived.Deep.LoopGhost
set_option linter.unusedVariables false
set_option linter.unusedSimpArgs false
namespace Go.Proofs.Ytpiieonlbfhbaaa
open Go Go.RowKit
attribute [local go_sem ↓] Go.wp_at_zero Go.wp_at_succ

/-- Whatever Parse tells: a node, and an error or none. -/
def XAny (w : World) (e : Ending) (w' : World) : Prop := ∃ t k v, e = .returned (.tuple #[nodeV t k, v]) ∧ Tree w' (fun b => w.heap.size ≤ b) t k ∧ (v = .nilIface ∨ ∃ p, v = .iface 42 p) ∧ Below w.heap.size w w'
theorem xany_p (w : World) (s : ByteArray) (hm : s.size ≤ 9223372036854775807) : Calls Try.prog 6 #[.string s] w (XAny w) := by
  refine (xparse_p w s hm).mono fun e w' h => ?_
  unfold XParse at h
  split at h
  · obtain ⟨k, rfl, h1, h2⟩ := h
    exact ⟨_, k, _, rfl, h1, .inl rfl, h2⟩
  · obtain ⟨gs, rfl, _, _, h2⟩ := h
    exact ⟨_, _, _, rfl, .nil _ rfl, .inr ⟨_, rfl⟩, h2⟩
/-- A text that reads. -/
theorem xok_p {s : ByteArray} {A : T} (w : World) (hm : s.size ≤ 9223372036854775807) (h : xparse s = .ok A) : Calls Try.prog 6 #[.string s] w fun e w' => ∃ k, e = .returned (.tuple #[nodeV A k, .nilIface]) ∧ Tree w' (fun b => w.heap.size ≤ b) A k ∧ Below w.heap.size w w' := by
  refine (xparse_p w s hm).mono fun e w' hx => ?_
  unfold XParse at hx
  rw [h] at hx
  exact hx
theorem xbad_p {s : ByteArray} {c a : Int} (w : World) (hm : s.size ≤ 9223372036854775807) (h : xparse s = .error (c, a)) : Calls Try.prog 6 #[.string s] w fun e w' => ∃ gs, e = .returned (.tuple #[nodeV T.zero (.slice none 0 0), .iface 42 (.pointer (some ⟨gs, 0, none⟩))]) ∧ w'.heap[gs]? = some (.cells #[.int .i64 a, .int .i64 c] 45 (0, 0)) ∧ w.heap.size ≤ gs ∧ Below w.heap.size w w' := by
  refine (xparse_p w s hm).mono fun e w' hx => ?_
  unfold XParse at hx
  rw [h] at hx
  exact hx
/-- A text in brackets. -/
def PR (w : World) (A : T) (deep : Prop) (e : Ending) (w' : World) : Prop :=
  ∃ C k v, e = .returned (.tuple #[nodeV C k, v]) ∧ Tree w' (fun b => w.heap.size ≤ b) C k ∧ Below w.heap.size w w' ∧
    ((v = .nilIface ∧ C = A ∧ deep) ∨ ∃ gs x, v = .iface 42 (.pointer (some ⟨gs, 0, none⟩)) ∧ C = T.zero ∧ w'.heap[gs]? = some (.cells #[.int .i64 x, .int .i64 4] 45 (0, 0)))
theorem paren_p {s : ByteArray} {A : T} (hs : s.size ≤ 60) (h : xparse s = .ok A) (w : World) : Calls Try.prog 6 #[.string (oT ++ s ++ cT)] w (PR w A (pat s 19 false 0 = .ok (A, s.size))) := by
  have hz : (oT ++ s ++ cT).size = s.size + 2 := by simp only [ByteArray.size_append]; show 1 + s.size + 1 = _; omega
  rcases paren hs h with ⟨h1, h2⟩ | ⟨x, h2⟩
  · refine (xok_p w (by omega) h2).mono ?_
    rintro e w' ⟨k, rfl, k1, k2⟩
    exact ⟨_, _, _, rfl, k1, k2, .inl ⟨rfl, rfl, h1⟩⟩
  · refine (xbad_p w (by omega) h2).mono ?_
    rintro e w' ⟨gs, rfl, k1, k2, k3⟩
    exact ⟨_, _, _, rfl, .nil _ rfl, k3, .inr ⟨gs, x, rfl, rfl, k1⟩⟩

def RetHead (w : World) (e : Ending) (w' : World) : Prop := e = .returned (.bool true) ∧ Below w.heap.size w w'
set_option maxRecDepth 100000 in
set_option maxHeartbeats 2000000 in
theorem rxparts_big (w : World) (s t : ByteArray) (m n : Int) (hs : s.size ≤ 9223372036854775807) (ht : t.size ≤ 9223372036854775807) (h : 60 < s.size ∨ 60 < t.size) :
    Calls Try.prog 4 #[.string s, .string t, .int .i64 m, .int .i64 n] w (RetHead w) := by
  by_cases hl : 60 < s.size
  · go_enter Try.func4, Try.ntmps4
    go_wp2_with (go_at_call 5; (with_reducible refine (up_p _).mono ?_); rintro e w1 ⟨rfl, hb1⟩)
    go_ret
    exact ⟨rfl, hb1⟩
  · have hl2 : 60 < t.size := by omega
    go_enter Try.func4, Try.ntmps4
    go_wp2_with (go_at_call 5; (with_reducible refine (up_p _).mono ?_); rintro e w1 ⟨rfl, hb1⟩)
    go_ret
    exact ⟨rfl, hb1⟩

set_option maxRecDepth 100000 in
set_option maxHeartbeats 2000000 in
theorem rxparts_bad (w : World) (s t : ByteArray) (m n : Int) (hs : s.size ≤ 60) (ht : t.size ≤ 60) (h : (∃ x, xparse s = .error x) ∨ ∃ x, xparse t = .error x) :
    Calls Try.prog 4 #[.string s, .string t, .int .i64 m, .int .i64 n] w (RetHead w) := by
  cases hx : xparse s with
  | error x =>
    obtain ⟨c, a⟩ := x
    have HS := Lib.hid (fun w => xbad_p w (by omega) hx)
    have HT := Lib.hid (fun w => xany_p w t (by omega))
    clear h hx
    go_enter Try.func4, Try.ntmps4
    go_wp2_with (first
      | (go_at_call 5; (with_reducible refine (up_p _).mono ?_); rintro e w1 ⟨rfl, hb1⟩)
      | (go_at_call 6; (with_reducible refine (HS.out _).mono ?_); rintro e w2 ⟨gs, rfl, hgs, _, hb2⟩; unfold nodeV)
      | (go_at_call 6; (with_reducible refine (HT.out _).mono ?_); rintro e w3 ⟨B, kB, v, rfl, hB, _, hb3⟩; obtain ⟨A', tn', tc', rfl⟩ := hB.form; unfold nodeV))
    go_ret
    exact ⟨rfl, (gro1 (gro hb1 hb2) hb3).alloc (gro1 (gro hb1 hb2) hb3).size _⟩
  | ok A =>
    have hy : ∃ x, xparse t = .error x := by
      rcases h with ⟨x, h⟩ | h
      · rw [hx] at h; cases h
      · exact h
    obtain ⟨⟨c, a⟩, hy⟩ := hy
    have HS := Lib.hid (fun w => xok_p w (by omega) hx)
    have HT := Lib.hid (fun w => xbad_p w (by omega) hy)
    clear h hx hy
    go_enter Try.func4, Try.ntmps4
    go_wp2_with (first
      | (go_at_call 5; (with_reducible refine (up_p _).mono ?_); rintro e w1 ⟨rfl, hb1⟩)
      | (go_at_call 6; (with_reducible refine (HS.out _).mono ?_); rintro e w2 ⟨k, rfl, hA, hb2⟩; obtain ⟨A', tn', tc', rfl⟩ := hA.form; unfold nodeV)
      | (go_at_call 6; (with_reducible refine (HT.out _).mono ?_); rintro e w3 ⟨gs, rfl, hgs, _, hb3⟩; unfold nodeV))
    go_ret
    exact ⟨rfl, (gro1 (gro hb1 hb2) hb3).alloc (gro1 (gro hb1 hb2) hb3).size _⟩

theorem spot_g (w : World) (v : Value) (h : v = .nilIface ∨ ∃ gs x, v = .iface 42 (.pointer (some ⟨gs, 0, none⟩)) ∧ w.heap[gs]? = some (.cells #[.int .i64 x, .int .i64 4] 45 (0, 0))) :
    Calls Try.prog 8 #[v] w fun e w' => ∃ c a : Int, e = .returned (.tuple #[.int .i64 c, .int .i64 a]) ∧ (v = .nilIface ∨ c = 4) ∧ ∃ n, w' = w.drewN n := by
  rcases h with rfl | ⟨gs, x, rfl, h⟩
  · refine (spot_nil w).mono ?_
    rintro e w' ⟨rfl, rfl⟩
    exact ⟨0, 0, rfl, .inl rfl, 0, rfl⟩
  · refine (spot_p w gs x 4 h).mono ?_
    rintro e w' ⟨rfl, n, rfl⟩
    exact ⟨4, x, rfl, .inr rfl, n, rfl⟩
theorem same_g {w : World} {ok ok' : Nat → Prop} {A C : T} {kA kC : Value} (hA : Tree w ok A kA) (hC : Tree w ok' C kC) (h : C = A ∨ (C = T.zero ∧ A.op ≠ 0)) :
    Calls Try.prog 9 #[nodeA A kA, nodeA C kC] w fun e w' => ∃ b : Bool, e = .returned (.bool b) ∧ (C = A → b = true) ∧ Below w.heap.size w w' := by
  rcases h with rfl | ⟨rfl, h⟩
  · refine (same_p _ _ _ _ _ _ hA hC).mono ?_
    rintro e w' ⟨rfl, hb⟩
    exact ⟨true, rfl, fun _ => rfl, hb⟩
  · obtain ⟨aA, nA, cA, rfl⟩ := hA.form
    obtain ⟨aC, nC, cC, rfl⟩ := hC.form
    refine (same_zero A h w aA aC nA cA nC cC).mono ?_
    rintro e w' ⟨rfl, hb⟩
    exact ⟨false, rfl, fun e => absurd (by rw [← e]; rfl) h, hb⟩

/-- What is known all along: both patterns' boxes, their kids, and that nothing older has changed. -/
structure Base (w wx : World) (gA gB : Nat) (A B : T) (kA kB : Value) : Prop where
  bA : Box8 wx gA A kA
  bB : Box8 wx gB B kB
  tA : Tree wx (fun _ => True) A kA
  tB : Tree wx (fun _ => True) B kB
  hb : Below w.heap.size w wx
section
variable {w wx wy : World} {gA gB : Nat} {A B : T} {kA kB : Value}
theorem Base.stays (h : Base w wx gA gB A B kA kB) (hb : Below wx.heap.size wx wy) : Base w wy gA gB A B kA kB := ⟨h.bA.stays hb, h.bB.stays hb, h.tA.stays hb, h.tB.stays hb, gro h.hb hb⟩
theorem Base.alloc (h : Base w wx gA gB A B kA kB) (o : Obj) : Base w (wx.alloc o) gA gB A B kA kB := h.stays ((Below.refl _ _).alloc (Nat.le_refl _) _)
theorem Base.drewN (h : Base w wx gA gB A B kA kB) (n : Nat) : Base w (wx.drewN n) gA gB A B kA kB := h.stays (below_drewN (Below.refl _ _) n)
theorem Base.drew (h : Base w wx gA gB A B kA kB) : Base w wx.drew gA gB A B kA kB := h.stays (Below.refl _ _).drew
end
/-- What an error in a box says of a text in brackets. -/
def Err (v : Value) (wx : World) (C A : T) (deep : Prop) : Prop := (v = .nilIface ∧ C = A ∧ deep) ∨ ∃ gs x, v = .iface 42 (.pointer (some ⟨gs, 0, none⟩)) ∧ C = T.zero ∧ wx.heap[gs]? = some (.cells #[.int .i64 x, .int .i64 4] 45 (0, 0))
theorem Err.stays {v : Value} {wx wy : World} {C A : T} {deep : Prop} (h : Err v wx C A deep) (hb : Below wx.heap.size wx wy) : Err v wy C A deep := by
  rcases h with h | ⟨gs, x, h1, h2, h3⟩
  · exact .inl h
  · exact .inr ⟨gs, x, h1, h2, (hb.block gs (lt_of_some h3)).trans h3⟩
theorem Err.alloc {v : Value} {wx : World} {C A : T} {deep : Prop} (h : Err v wx C A deep) (o : Obj) : Err v (wx.alloc o) C A deep := h.stays ((Below.refl _ _).alloc (Nat.le_refl _) _)
theorem Err.spot {v : Value} {wx : World} {C A : T} {deep : Prop} (h : Err v wx C A deep) : v = .nilIface ∨ ∃ gs x, v = .iface 42 (.pointer (some ⟨gs, 0, none⟩)) ∧ wx.heap[gs]? = some (.cells #[.int .i64 x, .int .i64 4] 45 (0, 0)) := by
  rcases h with ⟨h, _⟩ | ⟨gs, x, h1, _, h3⟩
  · exact .inl h
  · exact .inr ⟨gs, x, h1, h3⟩
theorem Err.same {v : Value} {wx : World} {C A : T} {deep : Prop} (h : Err v wx C A deep) (hA : A.op ≠ 0) : C = A ∨ (C = T.zero ∧ A.op ≠ 0) := by
  rcases h with ⟨_, h, _⟩ | ⟨gs, x, _, h, _⟩
  · exact .inl h
  · exact .inr ⟨h, hA⟩
theorem Err.flat {v : Value} {wx : World} {C A : T} {deep : Prop} (h : Err v wx C A deep) : (v = .nilIface ∧ C = A ∧ deep) ∨ ∃ p, v = .iface 42 p := by
  rcases h with h | ⟨gs, x, h1, _, h3⟩
  · exact .inl h
  · exact .inr ⟨_, h1⟩
theorem kid8 {w : World} {ok : Nat → Prop} {t u : T} {A : Option Addr} {n c : Nat} (h : Tree w ok t (.slice A n c)) (i : Nat) (hu : t.kids[i]? = some u) :
    ∃ g B m d, A = some ⟨g, 0, none⟩ ∧ g < w.heap.size ∧ Tree w ok u (.slice B m d) ∧ ∀ q v, (nodeC u (.slice B m d))[q]? = some v → w.cell? ⟨g, 8 * i + q, none⟩ = some v := by
  obtain ⟨hi, e⟩ := List.getElem?_eq_some_iff.1 hu
  obtain ⟨g, cap, kk, e1, hg1, htk, hcells⟩ := h.kidAt i hi
  rw [e] at htk hcells
  obtain ⟨B, m, d, rfl⟩ := htk.form
  exact ⟨g, B, m, d, by injection e1, hg1, htk, hcells⟩
def XRow (v1 wx : World) (v : Value) (l : List T) (ks : List Value) : Prop :=
  ∃ g cap, v = .slice (some ⟨g, 0, none⟩) l.length cap ∧ (∀ j u, (cellsOf l ks)[j]? = some u → wx.cell? ⟨g, j, none⟩ = some u) ∧ g < wx.heap.size ∧ Below v1.heap.size v1 wx

set_option maxRecDepth 100000 in
set_option maxHeartbeats 4000000 in
theorem rxparts_good (w : World) (s t : ByteArray) (m n : Int) (hs : s.size ≤ 60) (ht : t.size ≤ 60) (A B : T) (hA : xparse s = .ok A) (hB : xparse t = .ok B) :
    Calls Try.prog 4 #[.string s, .string t, .int .i64 m, .int .i64 n] w (RetHead w) := by
  have HS := Lib.hid (fun w => xok_p w (by omega) hA)
  have HT := Lib.hid (fun w => xok_p w (by omega) hB)
  have HPS : Hid (∀ w, Calls Try.prog 6 #[.string (⟨#[40]⟩ ++ s ++ ⟨#[41]⟩)] w (PR w A (pat s 19 false 0 = .ok (A, s.size)))) := fun w => paren_p hs hA w
  have HPT : Hid (∀ w, Calls Try.prog 6 #[.string (⟨#[40]⟩ ++ t ++ ⟨#[41]⟩)] w (PR w B (pat t 19 false 0 = .ok (B, t.size)))) := fun w => paren_p ht hB w
  have HA := Lib.hid hA
  have HBB := Lib.hid hB
  have hAop := Lib.hid ((op_made _).xparse hA)
  have hlA := (alts_made _).xparse hA
  have hlB := (alts_made _).xparse hB
  clear hA hB
  go_enter Try.func4, Try.ntmps4
  go_upto_region 8 with (first
    | (go_at_call 5; (with_reducible refine (up_p _).mono ?_); rintro e w1 ⟨rfl, hb1⟩)
    | (go_at_call 6; (with_reducible refine (HS.out _).mono ?_); rintro e w2 ⟨kA, rfl, tA, hb2⟩; obtain ⟨aA, nA, cA, rfl⟩ := tA.form; clear HS; unfold nodeV)
    | (go_at_call 6; (with_reducible refine (HT.out _).mono ?_); rintro e w3 ⟨kB, rfl, tB, hb3⟩; obtain ⟨aB, nB, cB, rfl⟩ := tB.form; clear HT; unfold nodeV))
  have base0 : Base w (w3.alloc (.cells #[.int .i64 B.op, .int .u64 (word B.set 0), .int .u64 (word B.set 1), .int .u64 (word B.set 2), .int .u64 (word B.set 3), .int .i64 B.lo, .int .i64 B.hi, .slice aB nB cB] 28)) w2.heap.size w3.heap.size A B (.slice aA nA cA) (.slice aB nB cB) :=
    ⟨((Box8.new w2 A _).stays hb3).alloc _, Box8.new w3 B _, (((tA.weak fun _ _ _ => trivial).alloc _).stays hb3).alloc _, (tB.weak fun _ _ _ => trivial).alloc _, (gro1 (gro hb1 hb2) hb3).alloc (gro1 (gro hb1 hb2) hb3).size _⟩
  have gAB : w2.heap.size < w3.heap.size := by have := hb3.size; simp at this; omega
  have gBB : w3.heap.size < (w3.alloc (.cells #[.int .i64 B.op, .int .u64 (word B.set 0), .int .u64 (word B.set 1), .int .u64 (word B.set 2), .int .u64 (word B.set 3), .int .i64 B.lo, .int .i64 B.hi, .slice aB nB cB] 28)).heap.size := by simp
  generalize w3.alloc (.cells #[.int .i64 B.op, .int .u64 (word B.set 0), .int .u64 (word B.set 1), .int .u64 (word B.set 2), .int .u64 (word B.set 3), .int .i64 B.lo, .int .i64 B.hi, .slice aB nB cB] 28) = v0 at *
  generalize w2.heap.size = gA at *
  generalize w3.heap.size = gB at *
  clear hb1 hb2 hb3 tA tB
  go_upto_region 12 with (first
    | (go_at_call 6; (with_reducible refine (HPS.out _).mono ?_); rintro e w4 ⟨C, kC, vC, rfl, tC, hb4, eC⟩; obtain ⟨aC, nC, cC, rfl⟩ := tC.form; clear HPS; unfold nodeV; change Err _ _ _ _ _ at eC; replace tC := tC.weak (ok' := fun _ => True) (fun _ _ _ => trivial); have base4 := base0.stays hb4; have hz4 := hb4.size)
    | (go_at_call 6; (with_reducible refine (HPT.out _).mono ?_); rintro e w5 ⟨D, kD, vD, rfl, tD, hb5, eD⟩; obtain ⟨aD, nD, cD, rfl⟩ := tD.form; clear HPT; unfold nodeV; change Err _ _ _ _ _ at eD; have base5 := (base4.alloc _).stays hb5; have eC5 := (eC.stays ((Below.refl _ _).alloc (Nat.le_refl _) _)).stays hb5; have bC5 := (Box8.new w4 C (.slice aC nC cC)).stays hb5; have tC5 := (tC.alloc _).stays hb5; have hz5 : w4.heap.size < w5.heap.size := (by have := hb5.size; simp at this; omega); clear hb4 hb5 tD; obtain ⟨x0, x1, x2, x3, x4, x5, x6, x7⟩ := base5.bA.cell; obtain ⟨y0, y1, y2, y3, y4, y5, y6, y7⟩ := bC5.cell; have n1 : gA ≠ w5.heap.size := (by omega); have n2 : w4.heap.size ≠ w5.heap.size := (by omega))
    | (go_at_call 8; (with_reducible refine (spot_g _ _ (eC5.alloc _).spot).mono ?_); rintro e w6 ⟨cc, aa, rfl, hcc, n6, hw6⟩; have base6 : Base w w6 gA gB A B (.slice aA nA cA) (.slice aB nB cB) := (by rw [hw6]; exact (base5.alloc _).drewN n6); have bC6 : Box8 w6 w4.heap.size C (.slice aC nC cC) := (by rw [hw6]; exact (bC5.alloc _).drewN n6); have tC6 : Tree w6 (fun _ => True) C (.slice aC nC cC) := (by rw [hw6]; exact (tC5.alloc _).drewN n6); have eD6 : Err vD w6 D B (pat t 19 false 0 = .ok (B, t.size)) := (by rw [hw6]; exact (eD.alloc _).stays (below_drewN (Below.refl _ _) n6)); clear hw6 base5 tC5 bC5 eD x0 x1 x2 x3 x4 x5 x6 x7 y0 y1 y2 y3 y4 y5 y6 y7; obtain ⟨x0, x1, x2, x3, x4, x5, x6, x7⟩ := base6.bA.cell; obtain ⟨y0, y1, y2, y3, y4, y5, y6, y7⟩ := bC6.cell)
    | (go_at_call 9; (refine (same_g base6.tA tC6 (eC5.same hAop.out)).mono ?_); rintro e w7 ⟨sb, rfl, hsb, hb7⟩; have base7 := base6.stays hb7; have eD7 := eD6.stays hb7; clear hb7 base6 tC6 bC6 eD6 x0 x1 x2 x3 x4 x5 x6 x7 y0 y1 y2 y3 y4 y5 y6 y7))
  have fC := eC5.flat
  have fD := eD7.flat
  clear eC5 eD7 base4 base0 tC eC hz4 hz5 n1 n2 gBB
  generalize hw4 : w4.heap.size = gC at *
  generalize hw5 : w5.heap.size = gD at *
  clear hw4 hw5
  go_cut [98] from 36 to 98 (fun s98 wx => s98 = .bool false ∧ wx = w7)
  case first =>
    clear base7
    rcases fC with ⟨rfl, h2, _⟩ | ⟨p, rfl⟩
    · have hb := hsb h2
      subst hb
      go_wp2
      go_meet
      exact ⟨rfl, rfl⟩
    · have hc4 : cc = 4 := by simpa using hcc
      subst hc4
      go_wp2
      go_meet
      exact ⟨rfl, rfl⟩
  case rest =>
  obtain ⟨rfl, rfl⟩ := hcut
  go_upto_region 14 with fail
  go_cut [104] from 99 to 104 (fun s104 wx => s104 = .bool (bareB s && bareB t) ∧ wx = wc)
  case first =>
    cases hbs : bareB s
    · have HBS : Hid (∀ w, Calls Try.prog 10 #[.string s] w fun e w' => e = .returned (.bool false) ∧ w = w') := fun w => (bare_p w s (by omega)).mono fun e w' h => by rw [hbs] at h; exact h
      have HH := Lib.hid hbs
      clear hbs
      go_wp2_with (go_at_call 10; (with_reducible refine (HBS.out _).mono ?_); rintro e w8 ⟨rfl, rfl⟩)
      go_meet
      exact ⟨by rw [HH.out]; rfl, rfl⟩
    · have HBS : Hid (∀ w, Calls Try.prog 10 #[.string s] w fun e w' => e = .returned (.bool true) ∧ w = w') := fun w => (bare_p w s (by omega)).mono fun e w' h => by rw [hbs] at h; exact h
      have HBT := Lib.hid (fun w => bare_p w t (by omega))
      have HH := Lib.hid hbs
      clear hbs
      go_wp2_with (first
        | (go_at_call 10; (with_reducible refine (HBS.out _).mono ?_); rintro e w8 ⟨rfl, rfl⟩)
        | (go_at_call 10; (with_reducible refine (HBT.out _).mono ?_); rintro e w8 ⟨rfl, rfl⟩))
      go_meet
      exact ⟨by rw [HH.out]; rfl, rfl⟩
  case rest =>
  obtain ⟨rfl, rfl⟩ := hcut
  go_upto_if 104 with fail
  go_cut [21, 22, 23, 24, 25] from 99 to 152 (fun s21 s22 s23 s24 s25 wx => Base w wx gA gB A B (.slice aA nA cA) (.slice aB nB cB))
  case first =>
    cases hbb : (bareB s && bareB t)
    · clear hbb
      go_wp2
      go_meet
      exact base7
    · simp only [Bool.and_eq_true] at hbb
      obtain ⟨hx, o1, o2⟩ := bare_bar hs ht HA.out HBB.out (bareB_spec hbb.1) (bareB_spec hbb.2)
      have HX : Hid (∀ w, Calls Try.prog 6 #[.string (s ++ ⟨#[124]⟩ ++ t)] w fun e w' => ∃ k, e = .returned (.tuple #[nodeV (.mk 3 noneP 0 0 (altsT A ++ altsT B)) k, .nilIface]) ∧ Tree w' (fun b => w.heap.size ≤ b) (.mk 3 noneP 0 0 (altsT A ++ altsT B)) k ∧ Below w.heap.size w w') := fun w => xok_p w (by have hz : (s ++ ⟨#[124]⟩ ++ t).size = s.size + 1 + t.size := (by simp only [ByteArray.size_append]; rfl); omega) hx
      clear hbb hx
      go_upto_region 16 with (go_at_call 6; (with_reducible refine (HX.out _).mono ?_); rintro e w8 ⟨kX, rfl, tX, hb8⟩; obtain ⟨aX, nX, cX, rfl⟩ := tX.form; clear HX; unfold nodeV)
      obtain ⟨v1, hv1⟩ : ∃ v1, v1 = w8.alloc (.cells #[.int .i64 (T.mk 3 noneP 0 0 (altsT A ++ altsT B)).op, .int .u64 (word (T.mk 3 noneP 0 0 (altsT A ++ altsT B)).set 0), .int .u64 (word (T.mk 3 noneP 0 0 (altsT A ++ altsT B)).set 1), .int .u64 (word (T.mk 3 noneP 0 0 (altsT A ++ altsT B)).set 2), .int .u64 (word (T.mk 3 noneP 0 0 (altsT A ++ altsT B)).set 3), .int .i64 (T.mk 3 noneP 0 0 (altsT A ++ altsT B)).lo, .int .i64 (T.mk 3 noneP 0 0 (altsT A ++ altsT B)).hi, .slice aX nX cX] 28) := ⟨_, rfl⟩
      have bX : Box8 v1 w8.heap.size (T.mk 3 noneP 0 0 (altsT A ++ altsT B)) (.slice aX nX cX) := by rw [hv1]; exact Box8.new w8 _ _
      have base1 : Base w v1 gA gB A B (.slice aA nA cA) (.slice aB nB cB) := by rw [hv1]; exact (base7.stays hb8).alloc _
      have tX1 : Tree v1 (fun _ => True) (T.mk 3 noneP 0 0 (altsT A ++ altsT B)) (.slice aX nX cX) := by rw [hv1]; exact (tX.weak fun _ _ _ => trivial).alloc _
      have gX : w8.heap.size < v1.heap.size := by rw [hv1]; simp
      rw [← hv1]
      clear hv1 hb8 tX base7
      generalize w8.heap.size = gX8 at *
      generalize hX : T.mk 3 noneP 0 0 (altsT A ++ altsT B) = X at *
      have hXk := Lib.hid (congrArg T.kids hX)
      have hX3 := Lib.hid (congrArg T.op hX)
      have hXo := congrArg T.op hX
      change (3 : Int) = X.op at hXo
      obtain ⟨ksA, lA, ktA, o1A, qA⟩ := alts_q base1.tA o1
      obtain ⟨ksB, lB, ktB, o1B, qB⟩ := alts_q base1.tB o2
      obtain ⟨x0, x1, x2, x3, x4, x5, x6, x7⟩ := base1.bA.cell
      obtain ⟨y0, y1, y2, y3, y4, y5, y6, y7⟩ := base1.bB.cell
      obtain ⟨z0, z1, z2, z3, z4, z5, z6, z7⟩ := bX.cell
      rw [← hXo] at z0
      unfold nodeA at qA qB
      have HLA := Lib.hid lA
      have HLB := Lib.hid lB
      clear lA lB hX hXo
      obtain ⟨i0, hi, hz0, hz1, hz2⟩ := info_parts Try.infoNode
      go_cut [23] from 113 to 119 (fun s23 wx => XRow v1 wx s23 (altsT A ++ altsT B) (ksA ++ ksB))
      case first =>
        have hle : (altsT A).length + (altsT B).length ≤ 1000 := by omega
        have own1 : ∀ W : World, v1.heap.size ≤ W.heap.size → (W.alloc (.cells #[] 28)).ownsRow v1.heap.size 28 8 (.slice (some ⟨W.heap.size, 0, none⟩) 0 0) 0 [] := fun W h => World.ownsRow_lit W #[] 0 h (by decide) rfl
        have HO1 := Lib.hid own1
        have HLE := Lib.hid hle
        have n1 : gA ≠ v1.heap.size := by have := base1.bA.lt; omega
        have n2 : gB ≠ v1.heap.size := by have := base1.bB.lt; omega
        have m1 : gA < v1.heap.size := base1.bA.lt
        have m2 : gB < v1.heap.size := base1.bB.lt
        clear own1 hle hlA hlB
        go_region_law (first
          | (go_simp; go_at_call 11; (with_reducible refine (qA _ (by first | exact (Below.refl _ _).drew | exact ((Below.refl _ _).alloc (Nat.le_refl _) _).drew)).mono ?_); rintro e w9 ⟨adA, capA, rfl, hcA, hb9⟩; have hB9 : Below v1.heap.size v1 w9 := (by first | exact ((Below.refl v1.heap.size v1).drew).trans hb9 | exact (((Below.refl v1.heap.size v1).alloc (Nat.le_refl _) _).drew).trans (hb9.mono (by simp))); have hz9 := hb9.size; (try simp at hz9); obtain ⟨p0, p1, p2, p3, p4, p5, p6, p7⟩ := (base1.bB.stays hB9).cell; have n3 : gB < w9.heap.size := (by have := hB9.size; omega))
          | ((refine step_app _ (by rfl) _ _ 26 (by rfl) v1.heap.size 28 i0 _ 8 80 Try.underlying26 hi hz0 hz1 hz2 rfl (by decide) _ 0 [] (by rfl) (by first | exact HO1.out w9 (by omega) | exact own_stays (HO1.out v1 (Nat.le_refl _)) (undrew hb9)) adA _ capA (cellsOf (altsT A) ksA) (by rfl) (by rw [cellsOf_len _ _ HLA.out]) (by intro h; cases h) (by intro ad h j u hu; cases h; first | exact hcA j u hu | exact cell_stays (hcA j u hu) ((Below.refl _ _).alloc (Nat.le_refl _) _)) o1A (by have := HLE.out; unfold maxLen; omega) (by have := HLE.out; omega) (by first | omega | (simp; omega)) ?_; intro v10 w10 own10 hg10; have hB10 : Below v1.heap.size v1 w10 := (by first | exact hB9.grown hg10 hB9.size (fun j e => ((own_stays (HO1.out v1 (Nat.le_refl _)) (undrew hb9)).lt j e).1) | exact (hB9.alloc hB9.size _).grown hg10 (hB9.alloc hB9.size _).size (fun j e => ((HO1.out w9 hB9.size).lt j e).1)); obtain ⟨q0, q1, q2, q3, q4, q5, q6, q7⟩ := (base1.bB.stays hB10).cell))
          | (go_simp; go_at_call 11; (with_reducible refine (qB w10 (by exact hB10)).mono ?_); rintro e w11 ⟨adB, capB, rfl, hcB, hb11⟩; have own11 := own_stays own10 hb11; have hB11 := hB10.trans (hb11.mono hB10.size))
          | (refine step_app _ (by rfl) _ _ 26 (by rfl) v1.heap.size 28 i0 _ 8 80 Try.underlying26 hi hz0 hz1 hz2 rfl (by decide) _ (0 + (altsT A).length) _ (by rfl) own11 (some adB) _ capB (cellsOf (altsT B) ksB) (by rfl) (by rw [cellsOf_len _ _ HLB.out]) (by intro h; cases h) (by intro ad h j u hu; cases h; exact hcB j u hu) o1B (by have := HLE.out; unfold maxLen; omega) (by have := HLE.out; omega) hB11.size ?_; intro v12 w12 own12 hg12; have hB12 := hB11.grown hg12 hB11.size (fun j e => (own11.lt j e).1))
          | fail)
        all_goals
          go_wp2
          go_meet
          rw [Nat.zero_add, List.nil_append, cellsOf_cat _ _ _ _ HLA.out] at own12
          rcases own12.2 with ⟨rfl, h0⟩ | ⟨g, cap, cur, rfl, _⟩
          · omega
          · exact ⟨g, cap, by rw [List.length_append], fun j u hu => by rw [← add_at]; exact own12.cells rfl j u hu, (own12.lt g rfl).2, hB12⟩
      case rest =>
      obtain ⟨gZ, capZ, rfl, hcZ, lZ, hBZ⟩ := hcut
      have base2 := base1.stays hBZ
      have bX2 := bX.stays hBZ
      have tX2 := tX1.stays hBZ
      obtain ⟨e1, e2⟩ := tX2.bound
      unfold maxLen at e2
      have e3 := congrArg List.length hXk.out
      change (altsT A ++ altsT B).length = X.kids.length at e3
      rw [← e3] at e1
      subst e1
      have KT : ∀ (i : Nat) t' k', (altsT A ++ altsT B)[i]? = some t' → (ksA ++ ksB)[i]? = some k' → Tree wc (fun _ => True) t' k' := by
        intro i t' k' h1 h2
        by_cases hi : i < (altsT A).length
        · rw [List.getElem?_append_left hi] at h1
          rw [List.getElem?_append_left (by rw [HLA.out]; exact hi)] at h2
          exact (ktA i t' k' h1 h2).stays hBZ
        · rw [List.getElem?_append_right (by omega)] at h1
          rw [List.getElem?_append_right (by rw [HLA.out]; omega), HLA.out] at h2
          exact (ktB _ t' k' h1 h2).stays hBZ
      have HK := Lib.hid KT
      have HC := Lib.hid hcZ
      have hlk : (ksA ++ ksB).length = (altsT A ++ altsT B).length := by rw [List.length_append, List.length_append, HLA.out, HLB.out]
      have HLK := Lib.hid hlk
      have HE := Lib.hid e3
      have h3 : X.op = 3 := by rw [← hX3.out]; rfl
      clear KT hcZ hlk e3 base1 bX tX1 hBZ ktA ktB o1A o1B qA qB x0 x1 x2 x3 x4 x5 x6 x7 y0 y1 y2 y3 y4 y5 y6 y7 z0 z1 z2 z3 z4 z5 z6 z7
      obtain ⟨z0, z1, z2, z3, z4, z5, z6, z7⟩ := bX2.cell
      rw [h3] at z0
      clear h3
      generalize hL : altsT A ++ altsT B = L at *
      generalize hKS : ksA ++ ksB = KS at *
      clear hL hKS hlA hlB o1 o2
      have hXL : L = X.kids := hXk.out
      subst hXL
      have HTX := Lib.hid tX2
      have HB2 := Lib.hid base2
      have HX2 := Lib.hid bX2
      have HM := Lib.hid e2
      clear tX2 base2 bX2
      go_wp2_with fail
      clear z0 z1 z2 z3 z4 z5 z6 z7
      go_loopg [24] X.kids.length (fun m i wr => ∃ j : Nat, i = .int .i64 (j : Int) ∧ j ≤ X.kids.length ∧ m = X.kids.length - j ∧ Base w wr gA gB A B (.slice aA nA cA) (.slice aB nB cB) ∧ Box8 wr gX8 X (.slice aX X.kids.length cX) ∧ Below wc.heap.size wc wr)
      case atStart => exact ⟨0, rfl, Nat.zero_le _, rfl, HB2.out, HX2.out, Below.refl _ _⟩
      case round =>
        obtain ⟨j, rfl, hj, hmj, base3, bX3, hW⟩ := hrel
        have HMJ := Lib.hid hmj
        obtain ⟨c0, c1, c2, c3, c4, c5, c6, c7⟩ := bX3.cell
        clear hmj
        by_cases hlt : j < X.kids.length
        · obtain ⟨g, cap, kk, e1, hg1, htk, hcells⟩ := HTX.out.kidAt j hlt
          have hjk : j < KS.length := by rw [HLK.out]; exact hlt
          have htk' := HK.out j _ _ (List.getElem?_eq_getElem hlt) (List.getElem?_eq_getElem hjk)
          have hcells' : ∀ q v, (nodeC (X.kids[j]'hlt) (KS[j]'hjk))[q]? = some v → wc.cell? ⟨gZ, 8 * j + q, none⟩ = some v := fun q v h => by
            have hq : q < 8 := by
              have := List.getElem?_eq_some_iff.1 h
              simpa [nodeC] using this.1
            exact HC.out _ _ ((cellsOf_get X.kids KS j q _ _ (List.getElem?_eq_getElem hlt) (List.getElem?_eq_getElem hjk) hq).trans h)
          obtain ⟨B1, m1, m2, rfl⟩ := htk.form
          obtain ⟨B2, l1, l2, hkk⟩ := htk'.form
          rw [hkk] at htk' hcells'
          have a1 : aX = some ⟨g, 0, none⟩ := by injection e1
          have a2 : cX = cap := by injection e1
          clear e1 hkk
          subst a1 a2
          generalize X.kids[j] = u at *
          have HC1 : ∀ q v, (nodeC u (.slice B1 m1 m2))[q]? = some v → wr.cell? ⟨g, j * 8 + q, none⟩ = some v := fun q v h => by rw [Nat.mul_comm j 8]; exact (hW.cell (p := ⟨g, 8 * j + q, none⟩) hg1).trans (hcells q v h)
          have HC2 : ∀ q v, (nodeC u (.slice B2 l1 l2))[q]? = some v → wr.cell? ⟨gZ, j * 8 + q, none⟩ = some v := fun q v h => by rw [Nat.mul_comm j 8]; exact (hW.cell (p := ⟨gZ, 8 * j + q, none⟩) lZ).trans (hcells' q v h)
          have k0 : wr.cell? ⟨g, j * 8, none⟩ = _ := HC1 0 _ rfl
          have k1 := HC1 1 _ rfl
          have k2 := HC1 2 _ rfl
          have k3 := HC1 3 _ rfl
          have k4 := HC1 4 _ rfl
          have k5 := HC1 5 _ rfl
          have k6 := HC1 6 _ rfl
          have k7 := HC1 7 _ rfl
          have q0 : wr.cell? ⟨gZ, j * 8, none⟩ = _ := HC2 0 _ rfl
          have q1 := HC2 1 _ rfl
          have q2 := HC2 2 _ rfl
          have q3 := HC2 3 _ rfl
          have q4 := HC2 4 _ rfl
          have q5 := HC2 5 _ rfl
          have q6 := HC2 6 _ rfl
          have q7 := HC2 7 _ rfl
          have HS2 := Lib.hid (fun w' (hb : Below wr.heap.size wr w') => same_p u w' _ _ _ _ ((htk'.stays hW).stays hb) ((htk.stays hW).stays hb))
          clear HC1 HC2 hcells hcells' htk htk'
          have j0 : (0 : Int) ≤ (j : Int) := by omega
          have j1 : (j : Int) < (X.kids.length : Int) := by omega
          go_wp2_with fail
          go_still_tail 9, (by kernel_rfl)
          change wpList _ _ _ _ _ wr.drew
          go_wp2_with (go_at_call 9; (refine (HS2.out wr.drew ((Below.refl _ _).drew)).mono ?_); rintro e w5 ⟨rfl, hb5⟩)
          have hb6 : Below wr.heap.size wr w5 := undrew hb5
          go_roundg (X.kids.length - (j + 1))
          case measure => have := HMJ.out; omega
          case rel => exact ⟨j + 1, by go_num, by omega, rfl, base3.stays hb6, bX3.stays hb6, gro hW hb6⟩
        · go_wp2
          go_meet
          exact base3
  case rest =>
  have base8 := hcut
  clear hcut hsb hlA hlB hcc
  generalize wc = w8 at *
  rcases fC with ⟨rfl, _, dS⟩ | ⟨p, rfl⟩
  rotate_left
  · go_wp2
    go_ret
    exact ⟨rfl, base8.hb⟩
  rcases fD with ⟨rfl, _, dT⟩ | ⟨p, rfl⟩
  rotate_left
  · go_wp2
    go_ret
    exact ⟨rfl, base8.hb⟩
  have HY : Hid (∀ w, Calls Try.prog 6 #[.string (⟨#[40]⟩ ++ s ++ ⟨#[41, 124, 40]⟩ ++ t ++ ⟨#[41]⟩)] w fun e w' => ∃ k, e = .returned (.tuple #[nodeV (.mk 3 noneP 0 0 [A, B]) k, .nilIface]) ∧ Tree w' (fun b => w.heap.size ≤ b) (.mk 3 noneP 0 0 [A, B]) k ∧ Below w.heap.size w w') := fun w => xok_p w (by have hz : (oT ++ s ++ barT ++ t ++ cT).size = s.size + t.size + 5 := (by simp only [ByteArray.size_append]; show 1 + s.size + 3 + t.size + 1 = _; omega); exact Nat.le_trans (Nat.le_of_eq hz) (by omega)) (either hs ht dS dT)
  have HDS := Lib.hid dS
  clear dS dT
  go_upto_region 28 with (go_at_call 6; (with_reducible refine (HY.out _).mono ?_); rintro e w9 ⟨kY, rfl, tY, hb9⟩; obtain ⟨aY, nY, cY, rfl⟩ := tY.form; clear HY; unfold nodeV)
  obtain ⟨v2, hv2⟩ : ∃ v2, v2 = w9.alloc (.cells #[.int .i64 (T.mk 3 noneP 0 0 [A, B]).op, .int .u64 (word (T.mk 3 noneP 0 0 [A, B]).set 0), .int .u64 (word (T.mk 3 noneP 0 0 [A, B]).set 1), .int .u64 (word (T.mk 3 noneP 0 0 [A, B]).set 2), .int .u64 (word (T.mk 3 noneP 0 0 [A, B]).set 3), .int .i64 (T.mk 3 noneP 0 0 [A, B]).lo, .int .i64 (T.mk 3 noneP 0 0 [A, B]).hi, .slice aY nY cY] 28) := ⟨_, rfl⟩
  have bY : Box8 v2 w9.heap.size (T.mk 3 noneP 0 0 [A, B]) (.slice aY nY cY) := by rw [hv2]; exact Box8.new w9 _ _
  have base9 : Base w v2 gA gB A B (.slice aA nA cA) (.slice aB nB cB) := by rw [hv2]; exact (base8.stays hb9).alloc _
  have tY2 : Tree v2 (fun _ => True) (T.mk 3 noneP 0 0 [A, B]) (.slice aY nY cY) := by rw [hv2]; exact (tY.weak fun _ _ _ => trivial).alloc _
  rw [← hv2]
  clear hv2 hb9 tY base8
  generalize w9.heap.size = gY at *
  obtain rfl : nY = 2 := tY2.bound.1
  obtain ⟨z0, z1, z2, z3, z4, z5, z6, z7⟩ := bY.cell
  replace z0 : v2.cell? ⟨gY, 0, none⟩ = some (.int .i64 3) := z0
  obtain ⟨gK, B1, m1, d1, rfl, lK, tK1, hK1⟩ := kid8 tY2 0 (u := A) rfl
  obtain ⟨gK', B2, m2, d2, eK, _, tK2, hK2⟩ := kid8 tY2 1 (u := B) rfl
  obtain rfl : gK' = gK := by injection eK with eK; injection eK with eK; exact eK.symm
  clear eK
  have k0 : v2.cell? ⟨gK', 0, none⟩ = _ := hK1 0 _ rfl
  have k1 : v2.cell? ⟨gK', 1, none⟩ = _ := hK1 1 _ rfl
  have k2 : v2.cell? ⟨gK', 2, none⟩ = _ := hK1 2 _ rfl
  have k3 : v2.cell? ⟨gK', 3, none⟩ = _ := hK1 3 _ rfl
  have k4 : v2.cell? ⟨gK', 4, none⟩ = _ := hK1 4 _ rfl
  have k5 : v2.cell? ⟨gK', 5, none⟩ = _ := hK1 5 _ rfl
  have k6 : v2.cell? ⟨gK', 6, none⟩ = _ := hK1 6 _ rfl
  have k7 : v2.cell? ⟨gK', 7, none⟩ = _ := hK1 7 _ rfl
  obtain ⟨x0, x1, x2, x3, x4, x5, x6, x7⟩ := base9.bA.cell
  have HS1 := Lib.hid (fun w' (hb : Below v2.heap.size v2 w') => same_p A w' _ _ _ _ (tK1.stays hb) (base9.tA.stays hb))
  have HK2 := Lib.hid hK2
  clear hK1 hK2
  go_upto_region 30 with fail
  go_still_tail 5, (by kernel_rfl)
  change wpList _ _ _ _ _ v2.drew
  go_upto_region 31 with (go_at_call 9; (refine (HS1.out v2.drew ((Below.refl _ _).drew)).mono ?_); rintro e w10 ⟨rfl, hb10⟩)
  replace hb10 := undrew hb10
  have base10 := base9.stays hb10
  have tK2' := tK2.stays hb10
  have hK2 : ∀ q v, (nodeC B (.slice B2 m2 d2))[q]? = some v → w10.cell? ⟨gK', 8 * 1 + q, none⟩ = some v := fun q v h => cell_stays (HK2.out q v h) hb10
  have bY' := bY.stays hb10
  clear x0 x1 x2 x3 x4 x5 x6 x7 z0 z1 z2 z3 z4 z5 z6 z7 k0 k1 k2 k3 k4 k5 k6 k7 tK1 tK2 bY tY2 base9 HK2 HS1 hb10
  obtain ⟨z0, z1, z2, z3, z4, z5, z6, z7⟩ := bY'.cell
  obtain ⟨x0, x1, x2, x3, x4, x5, x6, x7⟩ := base10.bB.cell
  have k0 : w10.cell? ⟨gK', 8, none⟩ = _ := hK2 0 _ rfl
  have k1 : w10.cell? ⟨gK', 9, none⟩ = _ := hK2 1 _ rfl
  have k2 : w10.cell? ⟨gK', 10, none⟩ = _ := hK2 2 _ rfl
  have k3 : w10.cell? ⟨gK', 11, none⟩ = _ := hK2 3 _ rfl
  have k4 : w10.cell? ⟨gK', 12, none⟩ = _ := hK2 4 _ rfl
  have k5 : w10.cell? ⟨gK', 13, none⟩ = _ := hK2 5 _ rfl
  have k6 : w10.cell? ⟨gK', 14, none⟩ = _ := hK2 6 _ rfl
  have k7 : w10.cell? ⟨gK', 15, none⟩ = _ := hK2 7 _ rfl
  have HS1 := Lib.hid (fun w' (hb : Below w10.heap.size w10 w') => same_p B w' _ _ _ _ (tK2'.stays hb) (base10.tB.stays hb))
  clear hK2
  go_still_tail 5, (by kernel_rfl)
  change wpList _ _ _ _ _ w10.drew
  go_upto_region 34 with (go_at_call 9; (refine (HS1.out w10.drew ((Below.refl _ _).drew)).mono ?_); rintro e w11 ⟨rfl, hb11⟩)
  replace hb11 := undrew hb11
  have base11 := base10.stays hb11
  clear x0 x1 x2 x3 x4 x5 x6 x7 z0 z1 z2 z3 z4 z5 z6 z7 k0 k1 k2 k3 k4 k5 k6 k7 tK2' bY' base10 HS1 hb11
  by_cases h1 : m < 0
  · go_wp2
    go_ret
    exact ⟨rfl, base11.hb⟩
  by_cases h2 : n < m
  · go_wp2
    go_ret
    exact ⟨rfl, base11.hb⟩
  by_cases h3 : n < 1
  · go_wp2
    go_ret
    exact ⟨rfl, base11.hb⟩
  by_cases h4 : 32 < n
  · go_wp2
    go_ret
    exact ⟨rfl, base11.hb⟩
  have HDM : Hid (∀ w, Calls Try.prog 12 #[.int .i64 m] w fun e w' => e = .returned (.string (digT m.toNat)) ∧ Below w.heap.size w w') := fun w => by
    have h := dig_p w m.toNat (by omega)
    rwa [Int.toNat_of_nonneg (by omega)] at h
  have HDN : Hid (∀ w, Calls Try.prog 12 #[.int .i64 n] w fun e w' => e = .returned (.string (digT n.toNat)) ∧ Below w.heap.size w w') := fun w => by
    have h := dig_p w n.toNat (by omega)
    rwa [Int.toNat_of_nonneg (by omega)] at h
  have HR : Hid (∀ w, Calls Try.prog 6 #[.string (⟨#[40]⟩ ++ s ++ ⟨#[41, 123]⟩ ++ digT m.toNat ++ ⟨#[44]⟩ ++ digT n.toNat ++ ⟨#[125]⟩)] w fun e w' => ∃ k, e = .returned (.tuple #[nodeV (.rep m n A) k, .nilIface]) ∧ Tree w' (fun b => w.heap.size ≤ b) (.rep m n A) k ∧ Below w.heap.size w w') := fun w => by
    have hr := repeated (m := m.toNat) (n := n.toNat) hs (by omega) (by omega) (by omega) HDS.out
    rw [Int.toNat_of_nonneg (by omega), Int.toNat_of_nonneg (by omega)] at hr
    exact xok_p w (Nat.le_trans (xparse_read hr).1 (by decide)) hr
  have HQ : Hid (∀ w, Calls Try.prog 6 #[.string (⟨#[40]⟩ ++ s ++ ⟨#[41, 63]⟩)] w fun e w' => ∃ k, e = .returned (.tuple #[nodeV (.rep 0 1 A) k, .nilIface]) ∧ Tree w' (fun b => w.heap.size ≤ b) (.rep 0 1 A) k ∧ Below w.heap.size w w') := fun w => by
    have hr := maybe hs HDS.out
    exact xok_p w (Nat.le_trans (xparse_read hr).1 (by decide)) hr
  have hd1 : (digT m.toNat).size ≤ 2 := by
    unfold digT
    split
    · show 1 ≤ 2; omega
    · show 2 ≤ 2; omega
  have hd2 : (digT n.toNat).size ≤ 2 := by
    unfold digT
    split
    · show 1 ≤ 2; omega
    · show 2 ≤ 2; omega
  clear HDS
  generalize digT m.toNat = dm at *
  generalize digT n.toNat = dn at *
  go_upto_region 38 with (first
    | (go_at_call 12; (with_reducible refine (HDM.out _).mono ?_); rintro e w12 ⟨rfl, hb12⟩; clear HDM)
    | (go_at_call 12; (with_reducible refine (HDN.out _).mono ?_); rintro e w13 ⟨rfl, hb13⟩; clear HDN)
    | (go_at_call 6; (with_reducible refine (HR.out _).mono ?_); rintro e w14 ⟨kR, rfl, tR, hb14⟩; obtain ⟨aR, nR, cR, rfl⟩ := tR.form; clear HR; unfold nodeV)
    | (go_at_call 6; (with_reducible refine (HQ.out _).mono ?_); rintro e w15 ⟨kQ, rfl, tQ, hb15⟩; obtain ⟨aQ, nQ, cQ, rfl⟩ := tQ.form; clear HQ; unfold nodeV))
  obtain ⟨v3, hv3⟩ : ∃ v3, v3 = w15.alloc (.cells #[.int .i64 (T.rep 0 1 A).op, .int .u64 (word (T.rep 0 1 A).set 0), .int .u64 (word (T.rep 0 1 A).set 1), .int .u64 (word (T.rep 0 1 A).set 2), .int .u64 (word (T.rep 0 1 A).set 3), .int .i64 (T.rep 0 1 A).lo, .int .i64 (T.rep 0 1 A).hi, .slice aQ nQ cQ] 28) := ⟨_, rfl⟩
  have bQ : Box8 v3 w15.heap.size (T.rep 0 1 A) (.slice aQ nQ cQ) := by rw [hv3]; exact Box8.new w15 _ _
  have bR : Box8 v3 w14.heap.size (T.rep m n A) (.slice aR nR cR) := by rw [hv3]; exact ((Box8.new w14 _ _).stays hb15).alloc _
  have base12 : Base w v3 gA gB A B (.slice aA nA cA) (.slice aB nB cB) := by rw [hv3]; exact (((((base11.stays hb12).stays hb13).stays hb14).alloc _).stays hb15).alloc _
  have tQ2 : Tree v3 (fun _ => True) (T.rep 0 1 A) (.slice aQ nQ cQ) := by rw [hv3]; exact (tQ.weak fun _ _ _ => trivial).alloc _
  have tR2 : Tree v3 (fun _ => True) (T.rep m n A) (.slice aR nR cR) := by rw [hv3]; exact (((tR.weak fun _ _ _ => trivial).alloc _).stays hb15).alloc _
  rw [← hv3]
  clear hv3 hb12 hb13 hb14 hb15 tQ tR base11 hd1 hd2
  generalize w15.heap.size = gQ at *
  generalize w14.heap.size = gR at *
  obtain rfl : nQ = 1 := tQ2.bound.1
  obtain rfl : nR = 1 := tR2.bound.1
  obtain ⟨y0, y1, y2, y3, y4, y5, y6, y7⟩ := bQ.cell
  obtain ⟨z0, z1, z2, z3, z4, z5, z6, z7⟩ := bR.cell
  replace z0 : v3.cell? ⟨gR, 0, none⟩ = some (.int .i64 4) := z0
  replace y0 : v3.cell? ⟨gQ, 0, none⟩ = some (.int .i64 4) := y0
  obtain ⟨g1, B1, m1, d1, rfl, lK, tK1, hK1⟩ := kid8 tR2 0 (u := A) rfl
  obtain ⟨g2, B2, m2, d2, rfl, _, tK2, hK2⟩ := kid8 tQ2 0 (u := A) rfl
  have k0 : v3.cell? ⟨g1, 0, none⟩ = _ := hK1 0 _ rfl
  have k1 : v3.cell? ⟨g1, 1, none⟩ = _ := hK1 1 _ rfl
  have k2 : v3.cell? ⟨g1, 2, none⟩ = _ := hK1 2 _ rfl
  have k3 : v3.cell? ⟨g1, 3, none⟩ = _ := hK1 3 _ rfl
  have k4 : v3.cell? ⟨g1, 4, none⟩ = _ := hK1 4 _ rfl
  have k5 : v3.cell? ⟨g1, 5, none⟩ = _ := hK1 5 _ rfl
  have k6 : v3.cell? ⟨g1, 6, none⟩ = _ := hK1 6 _ rfl
  have k7 : v3.cell? ⟨g1, 7, none⟩ = _ := hK1 7 _ rfl
  obtain ⟨x0, x1, x2, x3, x4, x5, x6, x7⟩ := base12.bA.cell
  have HS1 := Lib.hid (fun w' (hb : Below v3.heap.size v3 w') => same_p A w' _ _ _ _ (tK1.stays hb) (base12.tA.stays hb))
  have HK2 := Lib.hid hK2
  clear hK1 hK2
  go_upto_region 40 with fail
  go_still_tail 5, (by kernel_rfl)
  change wpList _ _ _ _ _ v3.drew
  go_upto_region 41 with (go_at_call 9; (refine (HS1.out v3.drew ((Below.refl _ _).drew)).mono ?_); rintro e w16 ⟨rfl, hb16⟩)
  replace hb16 := undrew hb16
  have base13 := base12.stays hb16
  have tK2' := tK2.stays hb16
  have hK2 : ∀ q v, (nodeC A (.slice B2 m2 d2))[q]? = some v → w16.cell? ⟨g2, 8 * 0 + q, none⟩ = some v := fun q v h => cell_stays (HK2.out q v h) hb16
  have bQ' := bQ.stays hb16
  have bR' := bR.stays hb16
  clear x0 x1 x2 x3 x4 x5 x6 x7 z0 z1 z2 z3 z4 z5 z6 z7 y0 y1 y2 y3 y4 y5 y6 y7 k0 k1 k2 k3 k4 k5 k6 k7 tK1 tK2 bQ bR tQ2 tR2 base12 HK2 HS1 hb16
  obtain ⟨y0, y1, y2, y3, y4, y5, y6, y7⟩ := bQ'.cell
  obtain ⟨x0, x1, x2, x3, x4, x5, x6, x7⟩ := base13.bA.cell
  have k0 : w16.cell? ⟨g2, 0, none⟩ = _ := hK2 0 _ rfl
  have k1 : w16.cell? ⟨g2, 1, none⟩ = _ := hK2 1 _ rfl
  have k2 : w16.cell? ⟨g2, 2, none⟩ = _ := hK2 2 _ rfl
  have k3 : w16.cell? ⟨g2, 3, none⟩ = _ := hK2 3 _ rfl
  have k4 : w16.cell? ⟨g2, 4, none⟩ = _ := hK2 4 _ rfl
  have k5 : w16.cell? ⟨g2, 5, none⟩ = _ := hK2 5 _ rfl
  have k6 : w16.cell? ⟨g2, 6, none⟩ = _ := hK2 6 _ rfl
  have k7 : w16.cell? ⟨g2, 7, none⟩ = _ := hK2 7 _ rfl
  have HS1 := Lib.hid (fun w' (hb : Below w16.heap.size w16 w') => same_p A w' _ _ _ _ (tK2'.stays hb) (base13.tA.stays hb))
  clear hK2
  go_still_tail 5, (by kernel_rfl)
  change wpList _ _ _ _ _ w16.drew
  go_upto_region 42 with (go_at_call 9; (refine (HS1.out w16.drew ((Below.refl _ _).drew)).mono ?_); rintro e w17 ⟨rfl, hb17⟩)
  replace hb17 := undrew hb17
  have base14 := base13.stays hb17
  have bQ2 := bQ'.stays hb17
  have bR2 := bR'.stays hb17
  clear x0 x1 x2 x3 x4 x5 x6 x7 y0 y1 y2 y3 y4 y5 y6 y7 k0 k1 k2 k3 k4 k5 k6 k7 tK2' bQ' bR' base13 HS1 hb17
  obtain ⟨y0, y1, y2, y3, y4, y5, y6, y7⟩ := bQ2.cell
  obtain ⟨z0, z1, z2, z3, z4, z5, z6, z7⟩ := bR2.cell
  replace z5 : w17.cell? ⟨gR, 5, none⟩ = some (.int .i64 m) := z5
  replace z6 : w17.cell? ⟨gR, 6, none⟩ = some (.int .i64 n) := z6
  replace y5 : w17.cell? ⟨gQ, 5, none⟩ = some (.int .i64 0) := y5
  replace y6 : w17.cell? ⟨gQ, 6, none⟩ = some (.int .i64 1) := y6
  go_wp2
  go_ret
  exact ⟨rfl, base14.hb⟩

theorem rxparts_p (w : World) (s t : ByteArray) (m n : Int) (hs : s.size ≤ 9223372036854775807) (ht : t.size ≤ 9223372036854775807) : Calls Try.prog 4 #[.string s, .string t, .int .i64 m, .int .i64 n] w (RetHead w) := by
  by_cases h1 : 60 < s.size
  · exact rxparts_big w s t m n hs ht (.inl h1)
  by_cases h2 : 60 < t.size
  · exact rxparts_big w s t m n hs ht (.inr h2)
  cases hA : xparse s with
  | error x => exact rxparts_bad w s t m n (by omega) (by omega) (.inl ⟨x, hA⟩)
  | ok A =>
    cases hB : xparse t with
    | error x => exact rxparts_bad w s t m n (by omega) (by omega) (.inr ⟨x, hB⟩)
    | ok B => exact rxparts_good w s t m n (by omega) (by omega) A B hA hB

end Go.Proofs.Ytpiieonlbfhbaaa
