/-
  ct: what was done is kept, the walk. Contracts for other texts; no statement of its own.
-/
import Derived.Test.YthhgagghdeocoaaCtKeep
import Derived.BigQuiet
import Derived.Deep.RegionHeld3
import Derived.Deep.RegionLaw
set_option linter.unusedVariables false
set_option linter.unusedSimpArgs false
namespace Go.Proofs.Ythhgagghdeocoaa
open Go Go.RowKit

theorem own_form {w : World} {B e size n : Nat} {v : Value} {xs : List Value} (h : w.ownsRow B e size v n xs) : ∃ A c, v = .slice A n c := by
  rcases h.2 with ⟨e, e0⟩ | ⟨g, cap, cur, e, _⟩
  · subst e0
    exact ⟨_, _, e⟩
  · exact ⟨_, _, e⟩
theorem own_has {w : World} {B e size n cap g : Nat} {xs : List Value} (h : w.ownsRow B e size (.slice (some ⟨g, 0, none⟩) n cap) n xs) : ∃ cur, w.heap[g]? = some (.cells cur e (0, 0)) := own_kind h rfl
/-- What a machine is like at its last piece. -/
structure Last (w wr : World) (F F4 : Nat → Prop) (p m c : Nat) (f : Int → Int) (tr : List Ins) (x : Ins) (gd k cd : Nat) (v : Value) (vs : List Value) (ls : List (List Ins)) (l : List Ins) : Prop where
  mach : MachE wr F4 p m f c (.slice (some ⟨gd, 0, none⟩) (k + 1) cd) vs ls
  len : vs.length = k + 1
  atv : vs[k]? = some v
  atl : ls[k]? = some l
  flat : ls.flatten = tr
  box : HasO wr w.heap.size (.cells #[.int .i64 x.op, .int .i64 x.d, .int .i64 x.a, .int .i64 x.b, .int .i64 x.c, .int .u64 x.n] 68 (0, 0))
  keep : Kept F w wr
  new : ∀ b, F4 b → F b ∨ w.heap.size ≤ b
  ne : ∀ (i : Nat) l', i ≠ k → ls[i]? = some l' → l' ≠ []
section
variable {w wr wi : World} {F F4 : Nat → Prop} {p m c : Nat} {f : Int → Int} {tr : List Ins} {x : Ins} {gd k cd : Nat} {v : Value} {vs : List Value} {ls : List (List Ins)} {l : List Ins}
theorem Last.stays (h : Last w wr F F4 p m c f tr x gd k cd v vs ls l) (hb : Below wr.heap.size wr wi) : Last w wi F F4 p m c f tr x gd k cd v vs ls l :=
  ⟨h.mach.stays hb, h.len, h.atv, h.atl, h.flat, has_stays h.box hb, h.keep.trans (Kept.of_below (fun _ => False) hb) (fun b e => e.elim), h.new, h.ne⟩
theorem Last.llen (h : Last w wr F F4 p m c f tr x gd k cd v vs ls l) : l.length ≤ tr.length := by
  rw [← h.flat]
  exact (List.sublist_flatten_of_mem (List.mem_of_getElem? h.atl)).length_le
theorem flatten_set : ∀ (ls : List (List Ins)) (k : Nat) (l : List Ins) (x : Ins), ls.length = k + 1 → ls[k]? = some l → (ls.set k (l ++ [x])).flatten = ls.flatten ++ [x]
  | [], k, l, x, h, e => by simp at e
  | [l0], 0, l, x, h, e => by simp at e; subst e; simp
  | l0 :: l1 :: ls, 0, l, x, h, e => by simp at h
  | l0 :: ls, k + 1, l, x, h, e => by
    have ih := flatten_set ls k l x (by simpa using h) (by simpa using e)
    simp only [List.set_cons_succ, List.flatten_cons, ih, List.append_assoc]
/-- The last piece has grown by x. -/
theorem Last.fin (h : Last w wr F F4 p m c f tr x gd k cd v vs ls l) {W W' : World} {v' : Value} (hb : Below wr.heap.size wr W) (hr : W'.ownsRow 0 68 6 v' (l.length + 1) (insL (l ++ [x]))) (hgr : W.grownBy W' v.ownBlock) (hv : v'.ownBlock = v.ownBlock ∨ v'.ownBlock = some W.heap.size) :
    ∃ F', Mach (W'.setCell ⟨gd, k, none⟩ v') F' p m f (tr ++ [x]) ∧ Kept F w (W'.setCell ⟨gd, k, none⟩ v') ∧ (∀ b, F' b → F b ∨ w.heap.size ≤ b) := by
  obtain ⟨h1, h2⟩ := h.mach.grew h.len h.atv h.atl hb hr hgr hv
  have hls : ls.length = k + 1 := by rw [← h.mach.len, h.len]
  have hws := h.keep.size
  refine ⟨_, ⟨c, _, _, _, h1, by rw [flatten_set ls k l x hls h.atl, h.flat], fun l' hl' => ?_⟩, h.keep.trans h2 fun b e => h.new b e, fun b e => ?_⟩
  · obtain ⟨i, hi⟩ := List.getElem?_of_mem hl'
    by_cases e : i = k
    · subst e
      rw [List.getElem?_set_self (by omega)] at hi
      injection hi with hi
      subst hi
      simp
    · rw [List.getElem?_set_ne (fun e' => e e'.symm)] at hi
      exact h.ne i l' e hi
  · rcases e with e | e
    · exact h.new b e
    · exact .inr (by omega)
end

set_option maxRecDepth 20000 in
set_option maxHeartbeats 2000000 in
theorem keep_room {w : World} {F : Nat → Prop} {p m c : Nat} {f : Int → Int} {dv : Value} {vs : List Value} {ls : List (List Ins)} (h : MachE w F p m f c dv vs ls) (x : Ins) (k : Nat) (hn : vs.length = k + 1) (l : List Ins) (hl : ls[k]? = some l) (hlr : l.length ≠ 256) (hlen : l.length ≤ 100000) (hk : k ≤ 100000) (hne : ∀ (i : Nat) l', i ≠ k → ls[i]? = some l' → l' ≠ []) :
    Calls Try.prog 73 #[.pointer (some ⟨p, 0, none⟩), insV x] w fun e w' => e = .returned (.tuple #[]) ∧ ∃ F', Mach w' F' p m f (ls.flatten ++ [x]) ∧ Kept F w w' ∧ (∀ b, F' b → F b ∨ w.heap.size ≤ b) := by
  unfold insV
  obtain ⟨w0, hw0⟩ : ∃ w0, w.alloc (.cells #[.int .i64 x.op, .int .i64 x.d, .int .i64 x.a, .int .i64 x.b, .int .i64 x.c, .int .u64 x.n] 68) = w0 := ⟨_, rfl⟩
  have h0 : MachE w0 F p m f c dv vs ls := by rw [← hw0]; exact h.alloc _
  have hx0 : HasO w0 w.heap.size (.cells #[.int .i64 x.op, .int .i64 x.d, .int .i64 x.a, .int .i64 x.b, .int .i64 x.c, .int .u64 x.n] 68 (0, 0)) := by rw [← hw0]; exact has_new _ _ _ _ rfl
  have hk0 : Kept F w w0 := by rw [← hw0]; exact (Kept.refl F w).alloc _
  obtain ⟨gd, cd, rfl⟩ : ∃ gd cd, dv = .slice (some ⟨gd, 0, none⟩) (k + 1) cd := by
    rcases h.row.2 with ⟨e, e0⟩ | ⟨g, cap, cur, e, _⟩
    · omega
    · rw [hn] at e; exact ⟨_, _, e⟩
  obtain ⟨v, hv⟩ : ∃ v, vs[k]? = some v := ⟨_, List.getElem?_eq_getElem (by omega)⟩
  obtain ⟨A, ca, rfl⟩ := own_form (h.pie k v l hv hl).1
  have HL0 : Hid (Last w w0 F F p m c f ls.flatten x gd k cd (.slice A l.length ca) vs ls l) := Lib.hid ⟨h0, hn, hv, hl, rfl, hx0, hk0, fun b e => .inl e, hne⟩
  have hcell : w0.cell? ⟨gd, k, none⟩ = some (.slice A l.length ca) := by
    have hr := h0.row
    rw [hn] at hr
    exact (World.ownsRow.cellAt hr k (by omega)).trans hv
  have c1 := h0.c1
  have hw0' := Lib.hid hw0
  obtain ⟨N, hN⟩ : ∃ N, l.length = N := ⟨_, rfl⟩
  rw [hN] at hcell hlr hlen HL0
  have HNN := Lib.hid hN
  have hl256 : ((N : Int) == 256) = false := by simp; omega
  have hk1 : ((k : Int) + 1 == 0) = false := by simp; omega
  have HLN := Lib.hid hlen
  clear hw0 h0 hx0 hk0 h hv hl hn hlen
  go_enter Try.func73, Try.ntmps73
  go_wp2
  rw [hw0'.out]
  go_quiet (fail)
  have B1 : Below w0.heap.size w0 (w0.drewN nq) := below_dn (Below.refl _ _) nq
  generalize w0.drewN nq = wr at *
  have HL := Lib.hid (HL0.out.stays B1)
  go_wp2
  have q1 := HL.out.mach.c1
  go_quiet (fail)
  have B2 : Below wr.heap.size wr (wr.drewN nq) := below_dn (Below.refl _ _) nq
  generalize wr.drewN nq = ws at *
  have hl2 := HL.out.stays B2
  go_wp2
  have hrow := hl2.mach.row
  rw [hl2.len] at hrow
  have p1 : ws.cell? ⟨gd, k, none⟩ = some (.slice A N ca) := (World.ownsRow.cellAt hrow k (by omega)).trans hl2.atv
  have p2 := cell_al p1 (.cells #[.int .i64 x.op, .int .i64 x.d, .int .i64 x.a, .int .i64 x.b, .int .i64 x.c, .int .u64 x.n] 68)
  have p1d := cell_dr p1
  have p2d := cell_dr p2
  have b0 : ws.cell? ⟨w.heap.size, 0, none⟩ = some (.int .i64 x.op) := cell_of_row ws w.heap.size 0 _ _ (0, 0) hl2.box
  have b1 : ws.cell? ⟨w.heap.size, 1, none⟩ = some (.int .i64 x.d) := cell_of_row ws w.heap.size 1 _ _ (0, 0) hl2.box
  have b2 : ws.cell? ⟨w.heap.size, 2, none⟩ = some (.int .i64 x.a) := cell_of_row ws w.heap.size 2 _ _ (0, 0) hl2.box
  have b3 : ws.cell? ⟨w.heap.size, 3, none⟩ = some (.int .i64 x.b) := cell_of_row ws w.heap.size 3 _ _ (0, 0) hl2.box
  have b4 : ws.cell? ⟨w.heap.size, 4, none⟩ = some (.int .i64 x.c) := cell_of_row ws w.heap.size 4 _ _ (0, 0) hl2.box
  have b5 : ws.cell? ⟨w.heap.size, 5, none⟩ = some (.int .u64 x.n) := cell_of_row ws w.heap.size 5 _ _ (0, 0) hl2.box
  have hb5 : Below ws.heap.size ws ((ws.alloc (.cells #[.int .i64 x.op, .int .i64 x.d, .int .i64 x.a, .int .i64 x.b, .int .i64 x.c, .int .u64 x.n] 68)).drew) := ((Below.refl _ _).alloc (Nat.le_refl _) _).drew
  have hpie := own_stays (hl2.mach.pie k _ l hl2.atv hl2.atl).1 hb5
  obtain ⟨v', W', hr, r1, r2, r3⟩ := append6 (x := x) hpie (by rw [HNN.out]; exact HLN.out) (b := ws.heap.size) (has_drew (has_new _ _ _ _ rfl)) 1
  try rw [HNN.out] at hr
  obtain ⟨A', c', rfl⟩ := own_form r1
  have hg0 : HasO W' gd _ := has_grown r2 (has_drew (has_alloc _ (show HasO ws gd _ from (own_has hrow).choose_spec))) (fun e => (hl2.mach.npp hl2.atv hl2.atl gd e.symm).2.2 rfl)
  have f5 := frozen_of_row W' gd k _ _ hg0
  have q5 := World.ownsRow.cellAt (own_block hrow fun b e hb => by injection e with e; subst e; exact hg0.trans (own_has hrow).choose_spec.symm) k (by omega)
  rw [hl2.atv] at q5
  have HL2 := Lib.hid hl2
  have HB5 := Lib.hid hb5
  have R1 := Lib.hid r1
  have R2 := Lib.hid r2
  have R3 := Lib.hid r3
  clear hrow hl2 hb5 hpie r1 r2 r3 hg0
  go_region_law (first
    | (refine step_run (by rfl) _ _ (by rfl) (by rfl) (by rfl) _ (by rfl) hr ?_)
    | fail)
  all_goals
    obtain ⟨F', m1, m2, m3⟩ := HL2.out.fin HB5.out R1.out R2.out R3.out
    first
      | exact ⟨rfl, .tuple #[], by simp [results, Try.results73], rfl, F', m1, m2, m3⟩
      | (rw [HNN.out] at m1 m2; exact ⟨rfl, .tuple #[], by simp [results, Try.results73], rfl, F', m1, m2, m3⟩)

set_option maxRecDepth 20000 in
set_option maxHeartbeats 4000000 in
theorem keep_0 {w : World} {F : Nat → Prop} {p m c : Nat} {f : Int → Int} {dv : Value} {vs : List Value} {ls : List (List Ins)} (h : MachE w F p m f c dv vs ls) (x : Ins) (hn : vs.length = 0) (hne : ∀ (i : Nat) l', ls[i]? = some l' → l' ≠ []) :
    Calls Try.prog 73 #[.pointer (some ⟨p, 0, none⟩), insV x] w fun e w' => e = .returned (.tuple #[]) ∧ ∃ F', Mach w' F' p m f (ls.flatten ++ [x]) ∧ Kept F w w' ∧ (∀ b, F' b → F b ∨ w.heap.size ≤ b) := by
  unfold insV
  obtain ⟨w0, hw0⟩ : ∃ w0, w.alloc (.cells #[.int .i64 x.op, .int .i64 x.d, .int .i64 x.a, .int .i64 x.b, .int .i64 x.c, .int .u64 x.n] 68) = w0 := ⟨_, rfl⟩
  have h0 : MachE w0 F p m f c dv vs ls := by rw [← hw0]; exact h.alloc _
  have hx0 : HasO w0 w.heap.size (.cells #[.int .i64 x.op, .int .i64 x.d, .int .i64 x.a, .int .i64 x.b, .int .i64 x.c, .int .u64 x.n] 68 (0, 0)) := by rw [← hw0]; exact has_new _ _ _ _ rfl
  have hk0 : Kept F w w0 := by rw [← hw0]; exact (Kept.refl F w).alloc _
  obtain ⟨i0, hi, hz0, hz1, hz2⟩ := info_parts (show (Try.prog.info? 68).map (fun i => (i.zero, i.size, i.bytes)) = some (some (.agg #[.int .i64 0, .int .i64 0, .int .i64 0, .int .i64 0, .int .i64 0, .int .u64 0]), 6, 48) from by kernel_rfl)
  have hmk := fun W => run_make (P := Try.prog) (w := W) 63 68 i0 _ Try.underlying63 hi hz0 .i64 .i64 0 256 (by omega) (by omega) (by rw [hz2]; omega) (by omega)
  rw [hz1] at hmk
  obtain ⟨mc, hmc⟩ : ∃ mc, madeCells (Value.agg #[.int .i64 0, .int .i64 0, .int .i64 0, .int .i64 0, .int .i64 0, .int .u64 0]).cells (Int.toNat 256 * 6) = mc := ⟨_, rfl⟩
  have hmcs : mc.size = 256 * 6 := by rw [← hmc]; exact size_madeCells _ _
  rw [hmc] at hmk
  have hw0' := Lib.hid hw0
  obtain ⟨A, cd, rfl⟩ : ∃ A cd, dv = .slice A 0 cd := by
    have hr := h.row
    rw [hn] at hr
    exact own_form hr
  have c1 := h0.c1
  have HN := Lib.hid hn
  have HFL := Lib.hid h.fl
  have HSZ := Lib.hid (show w.heap.size ≤ w0.heap.size from hk0.size)
  clear hn
  have HMK := Lib.hid hmk
  have HMS := Lib.hid hmcs
  have HK0 := Lib.hid hk0
  have H0 := Lib.hid h0
  have HX0 := Lib.hid hx0
  have HNE := Lib.hid hne
  clear hi hz0 hz1 hz2 hmc hw0 h h0 hx0 hmk hmcs hk0 hne
  go_enter Try.func73, Try.ntmps73
  go_wp2
  rw [hw0'.out]
  go_quiet (fail)
  have B1 : Below w0.heap.size w0 (w0.drewN nq) := below_dn (Below.refl _ _) nq
  generalize w0.drewN nq = w1 at *
  have h1 := H0.out.stays B1
  have hx1 := has_stays HX0.out B1
  go_wp2
  have q1 := h1.c1
  have q2 := cell_al q1 (.cells mc 68)
  have q3 := cell_al q2 (.cells #[.slice (some ⟨w1.heap.size, 0, none⟩) 0 256] 63)
  have q1d := cell_dr q1
  have q2d := cell_dr q2
  have q3d := cell_dr q3
  have hbW : Below w1.heap.size w1 ((w1.alloc (.cells mc 68)).alloc (.cells #[.slice (some ⟨w1.heap.size, 0, none⟩) 0 256] 63)).drew := (((Below.refl _ _).alloc (Nat.le_refl _) _).alloc (by simp) _).drew
  have hpc : (((w1.alloc (.cells mc 68)).alloc (.cells #[.slice (some ⟨w1.heap.size, 0, none⟩) 0 256] 63)).drew).ownsRow 0 68 6 (.slice (some ⟨w1.heap.size, 0, none⟩) 0 256) 0 [] := ⟨rfl, .inr ⟨w1.heap.size, 256, mc, rfl, Nat.zero_le _, has_drew (has_alloc _ (has_new _ _ _ _ rfl)), by omega, by decide, HMS.out, rfl⟩⟩
  obtain ⟨v', W', hr, r1, r2, r3⟩ := h1.append1 (W := ((w1.alloc (.cells mc 68)).alloc (.cells #[.slice (some ⟨w1.heap.size, 0, none⟩) 0 256] 63)).drew) hbW (by rw [HN.out]; omega) (b := w1.heap.size + 1) (u := .slice (some ⟨w1.heap.size, 0, none⟩) 0 256) (cell_of_row _ _ 0 _ _ (0, 0) (has_drew (has_new _ _ _ _ (by simp)))) rfl 1
  obtain ⟨gd, cd, rfl⟩ : ∃ gd cd, v' = .slice (some ⟨gd, 0, none⟩) (vs.length + 1) cd := by
    rcases r1.2 with ⟨e, e0⟩ | ⟨g, cap, cur, e, _⟩
    · omega
    · exact ⟨_, _, e⟩
  have hx3 : HasO W' p _ := has_grown r2 (has_drew (has_alloc _ (has_alloc _ h1.hd))) (fun e => (h1.npd p e.symm).1 rfl)
  have f3 := frozen_of_row W' p 1 _ _ hx3
  have q4 : W'.cell? ⟨p, 1, none⟩ = some _ := cell_of_row W' p 1 _ _ (0, 0) hx3
  obtain ⟨m4, k4⟩ := h1.pushed hbW (Nat.le_refl _) hpc r1 r2 r3
  have hbx : HasO W' w.heap.size _ := has_grown r2 (has_stays hx1 hbW) (fun e => by have := H0.out.fl _ (h1.fd _ e.symm); have := HSZ.out; have := HFL.out _ (h1.fd _ e.symm); omega)
  have hbx4 := has_setCell (a := ⟨p, 1, none⟩) (.slice (some ⟨gd, 0, none⟩) (vs.length + 1) cd) hbx (fun e => by have := HFL.out _ h1.fp; have e' : w.heap.size = p := e; omega)
  have hl4 : Last w (W'.setCell ⟨p, 1, none⟩ (.slice (some ⟨gd, 0, none⟩) (vs.length + 1) cd)) F (wider F w1.heap.size W'.heap.size) p m c f ls.flatten x gd vs.length cd (.slice (some ⟨w1.heap.size, 0, none⟩) 0 256) (vs ++ [.slice (some ⟨w1.heap.size, 0, none⟩) 0 256]) (ls ++ [[]]) [] :=
    ⟨m4, by simp, by simp, by rw [h1.len]; simp, by simp, hbx4, (HK0.out.trans (Kept.of_below (fun _ => False) B1) (fun b e => e.elim)).trans k4 (fun b e => .inl e), fun b e => by
      rcases e with e | e
      · exact .inl e
      · have := HK0.out.size; have := B1.size; exact .inr (by omega), fun i l' hi e => by
      have hlen := h1.len
      have : i < ls.length := by
        have := (List.getElem?_eq_some_iff.1 e).1
        simp at this
        omega
      rw [List.getElem?_append_left this] at e
      exact HNE.out i l' e⟩
  obtain ⟨k, hk⟩ : ∃ k, vs.length = k := ⟨_, rfl⟩
  have hk5 : k ≤ 100000 := by rw [← hk, HN.out]; omega
  rw [hk] at hl4 hr
  try rw [hk] at f3
  try rw [hk] at q4
  have hmk := HMK.out
  have HL := Lib.hid hl4
  clear h1 hx1 r1 r2 r3 hpc m4 k4 hbx hbx4 hl4 hx3
  go_region_law (first
    | (refine step_run (by rfl) _ _ (by rfl) (by rfl) (by rfl) _ (by rfl) hr ?_)
    | fail)
  all_goals
    generalize W'.setCell ⟨p, 1, none⟩ (.slice (some ⟨gd, 0, none⟩) (k + 1) cd) = wr at *
    obtain ⟨A, N, ca, l, vs5, ls5, F5, hL5, hNN, hLN⟩ : ∃ A N ca l vs5 ls5 F5, Last w wr F F5 p m c f ls.flatten x gd k cd (.slice A N ca) vs5 ls5 l ∧ l.length = N ∧ N ≤ 100000 := ⟨_, _, _, _, _, _, _, HL.out, rfl, Nat.zero_le _⟩
    have HNN := Lib.hid hNN
    have HLN := Lib.hid hLN
    clear HL
    have HL := Lib.hid hL5
    clear hL5 hNN hLN hr hmk q1 q2 q3 q1d q2d q3d q4 f3 hbW HMK HMS HK0 H0 HX0 HNE
    go_wp2
    have q1 := HL.out.mach.c1
    go_quiet (fail)
    have B2 : Below wr.heap.size wr (wr.drewN nq) := below_dn (Below.refl _ _) nq
    generalize wr.drewN nq = ws at *
    have hl2 := HL.out.stays B2
    go_wp2
    have hrow := hl2.mach.row
    rw [hl2.len] at hrow
    have p1 : ws.cell? ⟨gd, k, none⟩ = some (.slice A N ca) := (World.ownsRow.cellAt hrow k (by omega)).trans hl2.atv
    have p2 := cell_al p1 (.cells #[.int .i64 x.op, .int .i64 x.d, .int .i64 x.a, .int .i64 x.b, .int .i64 x.c, .int .u64 x.n] 68)
    have p1d := cell_dr p1
    have p2d := cell_dr p2
    have b0 : ws.cell? ⟨w.heap.size, 0, none⟩ = some (.int .i64 x.op) := cell_of_row ws w.heap.size 0 _ _ (0, 0) hl2.box
    have b1 : ws.cell? ⟨w.heap.size, 1, none⟩ = some (.int .i64 x.d) := cell_of_row ws w.heap.size 1 _ _ (0, 0) hl2.box
    have b2 : ws.cell? ⟨w.heap.size, 2, none⟩ = some (.int .i64 x.a) := cell_of_row ws w.heap.size 2 _ _ (0, 0) hl2.box
    have b3 : ws.cell? ⟨w.heap.size, 3, none⟩ = some (.int .i64 x.b) := cell_of_row ws w.heap.size 3 _ _ (0, 0) hl2.box
    have b4 : ws.cell? ⟨w.heap.size, 4, none⟩ = some (.int .i64 x.c) := cell_of_row ws w.heap.size 4 _ _ (0, 0) hl2.box
    have b5 : ws.cell? ⟨w.heap.size, 5, none⟩ = some (.int .u64 x.n) := cell_of_row ws w.heap.size 5 _ _ (0, 0) hl2.box
    have hb5 : Below ws.heap.size ws ((ws.alloc (.cells #[.int .i64 x.op, .int .i64 x.d, .int .i64 x.a, .int .i64 x.b, .int .i64 x.c, .int .u64 x.n] 68)).drew) := ((Below.refl _ _).alloc (Nat.le_refl _) _).drew
    have hpie := own_stays (hl2.mach.pie k _ l hl2.atv hl2.atl).1 hb5
    obtain ⟨v', W', hr, r1, r2, r3⟩ := append6 (x := x) hpie (by rw [HNN.out]; exact HLN.out) (b := ws.heap.size) (has_drew (has_new _ _ _ _ rfl)) 1
    try rw [HNN.out] at hr
    obtain ⟨A', c', rfl⟩ := own_form r1
    have hg0 : HasO W' gd _ := has_grown r2 (has_drew (has_alloc _ (show HasO ws gd _ from (own_has hrow).choose_spec))) (fun e => (hl2.mach.npp hl2.atv hl2.atl gd e.symm).2.2 rfl)
    have f5 := frozen_of_row W' gd k _ _ hg0
    have q5 := World.ownsRow.cellAt (own_block hrow fun b e hb => by injection e with e; subst e; exact hg0.trans (own_has hrow).choose_spec.symm) k (by omega)
    rw [hl2.atv] at q5
    have HL2 := Lib.hid hl2
    have HB5 := Lib.hid hb5
    have R1 := Lib.hid r1
    have R2 := Lib.hid r2
    have R3 := Lib.hid r3
    clear hrow hl2 hb5 hpie r1 r2 r3 hg0
    go_region_law (first
      | (refine step_run (by rfl) _ _ (by rfl) (by rfl) (by rfl) _ (by rfl) hr ?_)
      | fail)
    all_goals
      obtain ⟨F', m1, m2, m3⟩ := HL2.out.fin HB5.out R1.out R2.out R3.out
      first
        | exact ⟨rfl, .tuple #[], by simp [results, Try.results73], rfl, F', m1, m2, m3⟩
        | (rw [HNN.out] at m1 m2; exact ⟨rfl, .tuple #[], by simp [results, Try.results73], rfl, F', m1, m2, m3⟩)
set_option maxRecDepth 20000 in
set_option maxHeartbeats 4000000 in
theorem keep_full {w : World} {F : Nat → Prop} {p m c : Nat} {f : Int → Int} {dv : Value} {vs : List Value} {ls : List (List Ins)} (h : MachE w F p m f c dv vs ls) (x : Ins) (k0 : Nat) (hn : vs.length = k0 + 1) (l0 : List Ins) (hl : ls[k0]? = some l0) (hlr : l0.length = 256) (hk : k0 ≤ 99999) (hne : ∀ (i : Nat) l', ls[i]? = some l' → l' ≠ []) :
    Calls Try.prog 73 #[.pointer (some ⟨p, 0, none⟩), insV x] w fun e w' => e = .returned (.tuple #[]) ∧ ∃ F', Mach w' F' p m f (ls.flatten ++ [x]) ∧ Kept F w w' ∧ (∀ b, F' b → F b ∨ w.heap.size ≤ b) := by
  unfold insV
  obtain ⟨w0, hw0⟩ : ∃ w0, w.alloc (.cells #[.int .i64 x.op, .int .i64 x.d, .int .i64 x.a, .int .i64 x.b, .int .i64 x.c, .int .u64 x.n] 68) = w0 := ⟨_, rfl⟩
  have h0 : MachE w0 F p m f c dv vs ls := by rw [← hw0]; exact h.alloc _
  have hx0 : HasO w0 w.heap.size (.cells #[.int .i64 x.op, .int .i64 x.d, .int .i64 x.a, .int .i64 x.b, .int .i64 x.c, .int .u64 x.n] 68 (0, 0)) := by rw [← hw0]; exact has_new _ _ _ _ rfl
  have hk0 : Kept F w w0 := by rw [← hw0]; exact (Kept.refl F w).alloc _
  obtain ⟨i0, hi, hz0, hz1, hz2⟩ := info_parts (show (Try.prog.info? 68).map (fun i => (i.zero, i.size, i.bytes)) = some (some (.agg #[.int .i64 0, .int .i64 0, .int .i64 0, .int .i64 0, .int .i64 0, .int .u64 0]), 6, 48) from by kernel_rfl)
  have hmk := fun W => run_make (P := Try.prog) (w := W) 63 68 i0 _ Try.underlying63 hi hz0 .i64 .i64 0 256 (by omega) (by omega) (by rw [hz2]; omega) (by omega)
  rw [hz1] at hmk
  obtain ⟨mc, hmc⟩ : ∃ mc, madeCells (Value.agg #[.int .i64 0, .int .i64 0, .int .i64 0, .int .i64 0, .int .i64 0, .int .u64 0]).cells (Int.toNat 256 * 6) = mc := ⟨_, rfl⟩
  have hmcs : mc.size = 256 * 6 := by rw [← hmc]; exact size_madeCells _ _
  rw [hmc] at hmk
  have hw0' := Lib.hid hw0
  obtain ⟨g0, cd0, rfl⟩ : ∃ gd cd, dv = .slice (some ⟨gd, 0, none⟩) (k0 + 1) cd := by
    rcases h.row.2 with ⟨e, e0⟩ | ⟨g, cap, cur, e, _⟩
    · omega
    · rw [hn] at e; exact ⟨_, _, e⟩
  obtain ⟨v0, hv⟩ : ∃ v, vs[k0]? = some v := ⟨_, List.getElem?_eq_getElem (by omega)⟩
  obtain ⟨A0, ca0, rfl⟩ := own_form (h.pie k0 v0 l0 hv hl).1
  rw [hlr] at hv
  have hcell : w0.cell? ⟨g0, k0, none⟩ = some (.slice A0 256 ca0) := by
    have hr := h0.row
    rw [hn] at hr
    exact (World.ownsRow.cellAt hr k0 (by omega)).trans hv
  have c1 := h0.c1
  have hk1 : ((k0 : Int) + 1 == 0) = false := by simp; omega
  have HN := Lib.hid hn
  have HFL := Lib.hid h.fl
  have HSZ := Lib.hid (show w.heap.size ≤ w0.heap.size from hk0.size)
  clear hn hv hl hlr
  have HMK := Lib.hid hmk
  have HMS := Lib.hid hmcs
  have HK0 := Lib.hid hk0
  have H0 := Lib.hid h0
  have HX0 := Lib.hid hx0
  have HNE := Lib.hid hne
  clear hi hz0 hz1 hz2 hmc hw0 h h0 hx0 hmk hmcs hk0 hne
  go_enter Try.func73, Try.ntmps73
  go_wp2
  rw [hw0'.out]
  go_quiet (fail)
  have B1 : Below w0.heap.size w0 (w0.drewN nq) := below_dn (Below.refl _ _) nq
  generalize w0.drewN nq = w1 at *
  have h1 := H0.out.stays B1
  have hx1 := has_stays HX0.out B1
  go_wp2
  have q1 := h1.c1
  have q2 := cell_al q1 (.cells mc 68)
  have q3 := cell_al q2 (.cells #[.slice (some ⟨w1.heap.size, 0, none⟩) 0 256] 63)
  have q1d := cell_dr q1
  have q2d := cell_dr q2
  have q3d := cell_dr q3
  have hbW : Below w1.heap.size w1 ((w1.alloc (.cells mc 68)).alloc (.cells #[.slice (some ⟨w1.heap.size, 0, none⟩) 0 256] 63)).drew := (((Below.refl _ _).alloc (Nat.le_refl _) _).alloc (by simp) _).drew
  have hpc : (((w1.alloc (.cells mc 68)).alloc (.cells #[.slice (some ⟨w1.heap.size, 0, none⟩) 0 256] 63)).drew).ownsRow 0 68 6 (.slice (some ⟨w1.heap.size, 0, none⟩) 0 256) 0 [] := ⟨rfl, .inr ⟨w1.heap.size, 256, mc, rfl, Nat.zero_le _, has_drew (has_alloc _ (has_new _ _ _ _ rfl)), by omega, by decide, HMS.out, rfl⟩⟩
  obtain ⟨v', W', hr, r1, r2, r3⟩ := h1.append1 (W := ((w1.alloc (.cells mc 68)).alloc (.cells #[.slice (some ⟨w1.heap.size, 0, none⟩) 0 256] 63)).drew) hbW (by rw [HN.out]; omega) (b := w1.heap.size + 1) (u := .slice (some ⟨w1.heap.size, 0, none⟩) 0 256) (cell_of_row _ _ 0 _ _ (0, 0) (has_drew (has_new _ _ _ _ (by simp)))) rfl 1
  obtain ⟨gd, cd, rfl⟩ : ∃ gd cd, v' = .slice (some ⟨gd, 0, none⟩) (vs.length + 1) cd := by
    rcases r1.2 with ⟨e, e0⟩ | ⟨g, cap, cur, e, _⟩
    · omega
    · exact ⟨_, _, e⟩
  have hx3 : HasO W' p _ := has_grown r2 (has_drew (has_alloc _ (has_alloc _ h1.hd))) (fun e => (h1.npd p e.symm).1 rfl)
  have f3 := frozen_of_row W' p 1 _ _ hx3
  have q4 : W'.cell? ⟨p, 1, none⟩ = some _ := cell_of_row W' p 1 _ _ (0, 0) hx3
  obtain ⟨m4, k4⟩ := h1.pushed hbW (Nat.le_refl _) hpc r1 r2 r3
  have hbx : HasO W' w.heap.size _ := has_grown r2 (has_stays hx1 hbW) (fun e => by have := H0.out.fl _ (h1.fd _ e.symm); have := HSZ.out; have := HFL.out _ (h1.fd _ e.symm); omega)
  have hbx4 := has_setCell (a := ⟨p, 1, none⟩) (.slice (some ⟨gd, 0, none⟩) (vs.length + 1) cd) hbx (fun e => by have := HFL.out _ h1.fp; have e' : w.heap.size = p := e; omega)
  have hl4 : Last w (W'.setCell ⟨p, 1, none⟩ (.slice (some ⟨gd, 0, none⟩) (vs.length + 1) cd)) F (wider F w1.heap.size W'.heap.size) p m c f ls.flatten x gd vs.length cd (.slice (some ⟨w1.heap.size, 0, none⟩) 0 256) (vs ++ [.slice (some ⟨w1.heap.size, 0, none⟩) 0 256]) (ls ++ [[]]) [] :=
    ⟨m4, by simp, by simp, by rw [h1.len]; simp, by simp, hbx4, (HK0.out.trans (Kept.of_below (fun _ => False) B1) (fun b e => e.elim)).trans k4 (fun b e => .inl e), fun b e => by
      rcases e with e | e
      · exact .inl e
      · have := HK0.out.size; have := B1.size; exact .inr (by omega), fun i l' hi e => by
      have hlen := h1.len
      have : i < ls.length := by
        have := (List.getElem?_eq_some_iff.1 e).1
        simp at this
        omega
      rw [List.getElem?_append_left this] at e
      exact HNE.out i l' e⟩
  obtain ⟨k, hk'⟩ : ∃ k, vs.length = k := ⟨_, rfl⟩
  have hk5 : k ≤ 100000 := by rw [← hk', HN.out]; omega
  rw [hk'] at hl4 hr
  try rw [hk'] at f3
  try rw [hk'] at q4
  have hmk := HMK.out
  have HL := Lib.hid hl4
  clear h1 hx1 r1 r2 r3 hpc m4 k4 hbx hbx4 hl4 hx3
  go_region_law (first
    | (refine step_run (by rfl) _ _ (by rfl) (by rfl) (by rfl) _ (by rfl) hr ?_)
    | fail)
  all_goals
    generalize W'.setCell ⟨p, 1, none⟩ (.slice (some ⟨gd, 0, none⟩) (k + 1) cd) = wr at *
    obtain ⟨A, N, ca, l, vs5, ls5, F5, hL5, hNN, hLN⟩ : ∃ A N ca l vs5 ls5 F5, Last w wr F F5 p m c f ls.flatten x gd k cd (.slice A N ca) vs5 ls5 l ∧ l.length = N ∧ N ≤ 100000 := ⟨_, _, _, _, _, _, _, HL.out, rfl, Nat.zero_le _⟩
    have HNN := Lib.hid hNN
    have HLN := Lib.hid hLN
    clear HL
    have HL := Lib.hid hL5
    clear hL5 hNN hLN hr hmk q1 q2 q3 q1d q2d q3d q4 f3 hbW HMK HMS HK0 H0 HX0 HNE
    go_wp2
    have q1 := HL.out.mach.c1
    go_quiet (fail)
    have B2 : Below wr.heap.size wr (wr.drewN nq) := below_dn (Below.refl _ _) nq
    generalize wr.drewN nq = ws at *
    have hl2 := HL.out.stays B2
    go_wp2
    have hrow := hl2.mach.row
    rw [hl2.len] at hrow
    have p1 : ws.cell? ⟨gd, k, none⟩ = some (.slice A N ca) := (World.ownsRow.cellAt hrow k (by omega)).trans hl2.atv
    have p2 := cell_al p1 (.cells #[.int .i64 x.op, .int .i64 x.d, .int .i64 x.a, .int .i64 x.b, .int .i64 x.c, .int .u64 x.n] 68)
    have p1d := cell_dr p1
    have p2d := cell_dr p2
    have b0 : ws.cell? ⟨w.heap.size, 0, none⟩ = some (.int .i64 x.op) := cell_of_row ws w.heap.size 0 _ _ (0, 0) hl2.box
    have b1 : ws.cell? ⟨w.heap.size, 1, none⟩ = some (.int .i64 x.d) := cell_of_row ws w.heap.size 1 _ _ (0, 0) hl2.box
    have b2 : ws.cell? ⟨w.heap.size, 2, none⟩ = some (.int .i64 x.a) := cell_of_row ws w.heap.size 2 _ _ (0, 0) hl2.box
    have b3 : ws.cell? ⟨w.heap.size, 3, none⟩ = some (.int .i64 x.b) := cell_of_row ws w.heap.size 3 _ _ (0, 0) hl2.box
    have b4 : ws.cell? ⟨w.heap.size, 4, none⟩ = some (.int .i64 x.c) := cell_of_row ws w.heap.size 4 _ _ (0, 0) hl2.box
    have b5 : ws.cell? ⟨w.heap.size, 5, none⟩ = some (.int .u64 x.n) := cell_of_row ws w.heap.size 5 _ _ (0, 0) hl2.box
    have hb5 : Below ws.heap.size ws ((ws.alloc (.cells #[.int .i64 x.op, .int .i64 x.d, .int .i64 x.a, .int .i64 x.b, .int .i64 x.c, .int .u64 x.n] 68)).drew) := ((Below.refl _ _).alloc (Nat.le_refl _) _).drew
    have hpie := own_stays (hl2.mach.pie k _ l hl2.atv hl2.atl).1 hb5
    obtain ⟨v', W', hr, r1, r2, r3⟩ := append6 (x := x) hpie (by rw [HNN.out]; exact HLN.out) (b := ws.heap.size) (has_drew (has_new _ _ _ _ rfl)) 1
    try rw [HNN.out] at hr
    obtain ⟨A', c', rfl⟩ := own_form r1
    have hg0 : HasO W' gd _ := has_grown r2 (has_drew (has_alloc _ (show HasO ws gd _ from (own_has hrow).choose_spec))) (fun e => (hl2.mach.npp hl2.atv hl2.atl gd e.symm).2.2 rfl)
    have f5 := frozen_of_row W' gd k _ _ hg0
    have q5 := World.ownsRow.cellAt (own_block hrow fun b e hb => by injection e with e; subst e; exact hg0.trans (own_has hrow).choose_spec.symm) k (by omega)
    rw [hl2.atv] at q5
    have HL2 := Lib.hid hl2
    have HB5 := Lib.hid hb5
    have R1 := Lib.hid r1
    have R2 := Lib.hid r2
    have R3 := Lib.hid r3
    clear hrow hl2 hb5 hpie r1 r2 r3 hg0
    go_region_law (first
      | (refine step_run (by rfl) _ _ (by rfl) (by rfl) (by rfl) _ (by rfl) hr ?_)
      | fail)
    all_goals
      obtain ⟨F', m1, m2, m3⟩ := HL2.out.fin HB5.out R1.out R2.out R3.out
      first
        | exact ⟨rfl, .tuple #[], by simp [results, Try.results73], rfl, F', m1, m2, m3⟩
        | (rw [HNN.out] at m1 m2; exact ⟨rfl, .tuple #[], by simp [results, Try.results73], rfl, F', m1, m2, m3⟩)
end Go.Proofs.Ythhgagghdeocoaa
