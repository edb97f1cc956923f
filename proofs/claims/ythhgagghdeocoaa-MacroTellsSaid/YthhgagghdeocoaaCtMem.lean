/-
  ct's machine in memory: its cells, and what was done, piece by piece; what an append, a store do to it. Laws for other texts; no statement of its own.
-/
import Derived.Test.YthhgagghdeocoaaCtMath
import Derived.Test.YthhgagghdeocoaaKept
import Derived.Test.YthhgagghdeocoaaApp2
import Derived.Laws.OwnMore
set_option linter.unusedVariables false
set_option linter.unusedSimpArgs false
namespace Go.Proofs.Ythhgagghdeocoaa
open Go Go.RowKit

def CellsAt (w : World) (c m : Nat) (f : Int → Int) : Prop := ∃ cur : Array Value, w.heap[c]? = some (.cells cur 49 (0, 0)) ∧ ∀ k : Nat, k < m → cur[k]? = some (.int .u64 (f k))
def wider (F : Nat → Prop) (a b : Nat) : Nat → Prop := fun x => F x ∨ (a ≤ x ∧ x < b)
/-- A machine at block p; F: the blocks that are its own. -/
structure MachE (w : World) (F : Nat → Prop) (p m : Nat) (f : Int → Int) (c : Nat) (dv : Value) (vs : List Value) (ls : List (List Ins)) : Prop where
  hd : HasO w p (.cells #[.slice (some ⟨c, 0, none⟩) m m, dv] 130 (0, 0))
  cs : CellsAt w c m f
  fu : ∀ z, U64 (f z)
  len : vs.length = ls.length
  row : w.ownsRow 0 63 1 dv vs.length vs
  fp : F p
  fc : F c
  fd : ∀ b, dv.ownBlock = some b → F b
  fl : ∀ b, F b → b < w.heap.size
  pie : ∀ (i : Nat) v l, vs[i]? = some v → ls[i]? = some l → w.ownsRow 0 68 6 v l.length (insL l) ∧ ∀ b, v.ownBlock = some b → F b
  apart : ∀ (i j : Nat) v u b, i < j → vs[i]? = some v → vs[j]? = some u → v.ownBlock = some b → u.ownBlock = some b → False
section
variable {w w' W W' : World} {F : Nat → Prop} {p m c : Nat} {f : Int → Int} {dv v v' : Value} {vs : List Value} {ls : List (List Ins)}
theorem MachE.keep (h : MachE w F p m f c dv vs ls) (hs : w.heap.size ≤ w'.heap.size) (hk : ∀ b, F b → w'.heap[b]? = w.heap[b]?) : MachE w' F p m f c dv vs ls where
  hd := (hk p h.fp).trans h.hd
  cs := by obtain ⟨cur, h1, h2⟩ := h.cs; exact ⟨cur, (hk c h.fc).trans h1, h2⟩
  fu := h.fu
  len := h.len
  row := own_block h.row fun b e _ => hk b (h.fd b e)
  fp := h.fp
  fc := h.fc
  fd := h.fd
  fl := fun b hb => Nat.lt_of_lt_of_le (h.fl b hb) hs
  pie := fun i v l e1 e2 => ⟨own_block (h.pie i v l e1 e2).1 fun b e _ => hk b ((h.pie i v l e1 e2).2 b e), (h.pie i v l e1 e2).2⟩
  apart := h.apart
theorem MachE.stays (h : MachE w F p m f c dv vs ls) (hb : Below w.heap.size w w') : MachE w' F p m f c dv vs ls := h.keep hb.size fun b e => hb.block b (h.fl b e)
theorem MachE.kept {Q : Nat → Prop} (h : MachE w F p m f c dv vs ls) (hb : Kept Q w w') (hq : ∀ b, F b → ¬ Q b) : MachE w' F p m f c dv vs ls := h.keep hb.size fun b e => hb.block b (h.fl b e) (hq b e)
theorem MachE.alloc (h : MachE w F p m f c dv vs ls) (o : Obj) : MachE (w.alloc o) F p m f c dv vs ls := h.stays ((Below.refl _ _).alloc (Nat.le_refl _) _)
theorem MachE.drew (h : MachE w F p m f c dv vs ls) : MachE w.drew F p m f c dv vs ls := h.stays (Below.refl _ _).drew
theorem MachE.c0 (h : MachE w F p m f c dv vs ls) : w.cell? ⟨p, 0, none⟩ = some (.slice (some ⟨c, 0, none⟩) m m) := cell_of_row w p 0 _ _ (0, 0) h.hd
theorem MachE.c1 (h : MachE w F p m f c dv vs ls) : w.cell? ⟨p, 1, none⟩ = some dv := cell_of_row w p 1 _ _ (0, 0) h.hd
theorem CellsAt.at (h : CellsAt w c m f) (k : Nat) (hk : k < m) : w.cell? ⟨c, k, none⟩ = some (.int .u64 (f k)) := by
  obtain ⟨cur, h1, h2⟩ := h
  rw [cell_of_row w c k _ _ (0, 0) h1]
  exact h2 k hk
theorem MachE.np (h : MachE w F p m f c dv vs ls) : p ≠ c := by
  obtain ⟨cur, h1, h2⟩ := h.cs
  exact kind_apart h.hd h1 (by decide)
theorem MachE.npd (h : MachE w F p m f c dv vs ls) : ∀ b, dv.ownBlock = some b → b ≠ p ∧ b ≠ c := fun b e => by
  obtain ⟨cur, hc⟩ := own_kind h.row e
  obtain ⟨cu, h1, h2⟩ := h.cs
  exact ⟨kind_apart hc h.hd (by decide), kind_apart hc h1 (by decide)⟩
theorem MachE.npp (h : MachE w F p m f c dv vs ls) {i : Nat} {v : Value} {l : List Ins} (e1 : vs[i]? = some v) (e2 : ls[i]? = some l) : ∀ b, v.ownBlock = some b → b ≠ p ∧ b ≠ c ∧ dv.ownBlock ≠ some b := fun b e => by
  obtain ⟨cur, hc⟩ := own_kind (h.pie i v l e1 e2).1 e
  obtain ⟨cu, h1, h2⟩ := h.cs
  refine ⟨kind_apart hc h.hd (by decide), kind_apart hc h1 (by decide), fun e' => ?_⟩
  obtain ⟨cv, h3⟩ := own_kind h.row e'
  exact kind_apart hc h3 (by decide) rfl
theorem MachE.put (h : MachE w F p m f c dv vs ls) {k : Nat} (hk : k < m) {x : Int} (hx : U64 x) : MachE (w.setCell ⟨c, k, none⟩ (.int .u64 x)) F p m (put f k x) c dv vs ls ∧ Kept F w (w.setCell ⟨c, k, none⟩ (.int .u64 x)) := by
  have hb : ∀ b, b ≠ c → (w.setCell ⟨c, k, none⟩ (.int .u64 x)).heap[b]? = w.heap[b]? := fun b e => Below.heap_setCell _ _ _ _ e
  have hsz : (w.setCell ⟨c, k, none⟩ (.int .u64 x)).heap.size = w.heap.size := by simp [World.setCell]
  refine ⟨⟨(hb p h.np).trans h.hd, ?_, fun z => ?_, h.len, own_block h.row fun b e _ => hb b (h.npd b e).2, h.fp, h.fc, h.fd, fun b e => by rw [hsz]; exact h.fl b e,
    fun i v l e1 e2 => ⟨own_block (h.pie i v l e1 e2).1 fun b e _ => hb b (h.npp e1 e2 b e).2.1, (h.pie i v l e1 e2).2⟩, h.apart⟩, (Kept.refl F w).setCell (a := ⟨c, k, none⟩) (.inl h.fc) _⟩
  · obtain ⟨cur, h1, h2⟩ := h.cs
    refine ⟨_, heap_setCell_same w c k _ _ _ h1, fun j hj => ?_⟩
    by_cases e : j = k
    · subst e
      have := (Array.getElem?_eq_some_iff.1 (h2 j hj)).1
      simp [Go.Proofs.Ythhgagghdeocoaa.put, this]
    · rw [Array.getElem?_setIfInBounds_ne (fun e' => e e'.symm), h2 j hj]
      unfold Go.Proofs.Ythhgagghdeocoaa.put
      rw [if_neg (by omega)]
  · unfold Go.Proofs.Ythhgagghdeocoaa.put
    split
    · exact hx
    · exact h.fu z
/-- One more piece. -/
theorem MachE.pushed (h : MachE w F p m f c dv vs ls) (hb : Below w.heap.size w W) {g cap : Nat} (hg : w.heap.size ≤ g) (hpc : W.ownsRow 0 68 6 (.slice (some ⟨g, 0, none⟩) 0 cap) 0 [])
    (hr : W'.ownsRow 0 63 1 v' (vs.length + 1) (vs ++ [.slice (some ⟨g, 0, none⟩) 0 cap])) (hgr : W.grownBy W' dv.ownBlock) (hv : v'.ownBlock = dv.ownBlock ∨ v'.ownBlock = some W.heap.size) :
    MachE (W'.setCell ⟨p, 1, none⟩ v') (wider F w.heap.size W'.heap.size) p m f c v' (vs ++ [.slice (some ⟨g, 0, none⟩) 0 cap]) (ls ++ [[]]) ∧ Kept F w (W'.setCell ⟨p, 1, none⟩ v') := by
  have hgl : g < W.heap.size := (World.ownsRow.lt hpc g rfl).2
  have hbs := hb.size
  have hgs := hgr.size
  have hpl := h.fl p h.fp
  have hW : ∀ b, F b → dv.ownBlock ≠ some b → W'.heap[b]? = w.heap[b]? := fun b hF e => (hgr.block b (Nat.lt_of_lt_of_le (h.fl b hF) hbs) fun e' => e e'.symm).trans (hb.block b (h.fl b hF))
  have hset : ∀ b, b ≠ p → (W'.setCell ⟨p, 1, none⟩ v').heap[b]? = W'.heap[b]? := fun b e => Below.heap_setCell _ _ _ _ e
  have hsz : (W'.setCell ⟨p, 1, none⟩ v').heap.size = W'.heap.size := by simp [World.setCell]
  have hpd : dv.ownBlock ≠ some p := fun e => (h.npd p e).1 rfl
  have hcd : dv.ownBlock ≠ some c := fun e => (h.npd c e).2 rfl
  have hv'p : ∀ b, v'.ownBlock = some b → b ≠ p := fun b e => by
    rcases hv with e' | e'
    · exact (h.npd b (e'.symm.trans e)).1
    · have : b = W.heap.size := by rw [e'] at e; injection e with e; exact e.symm
      omega
  have hdg : dv.ownBlock ≠ some g := fun e => by have := h.fl g (h.fd g e); omega
  have hlen := h.len
  refine ⟨⟨?_, ?_, h.fu, by simp [hlen], ?_, .inl h.fp, .inl h.fc, fun b e => ?_, fun b e => ?_, fun i v l e1 e2 => ?_, fun i j v u b hij e1 e2 k1 k2 => ?_⟩, ?_⟩
  · exact heap_setCell_same W' p 1 _ _ v' ((hW p h.fp hpd).trans h.hd)
  · obtain ⟨cur, h1, h2⟩ := h.cs
    exact ⟨cur, (hset c h.np.symm).trans ((hW c h.fc hcd).trans h1), h2⟩
  · rw [List.length_append, List.length_singleton]
    exact own_block hr fun b e _ => hset b (hv'p b e)
  · rcases hv with e' | e'
    · exact .inl (h.fd b (e'.symm.trans e))
    · have hb' : b = W.heap.size := by rw [e'] at e; injection e with e; exact e.symm
      subst hb'
      exact .inr ⟨hbs, (World.ownsRow.lt hr W.heap.size e).2⟩
  · rw [hsz]
    rcases e with e | e
    · have := h.fl b e; omega
    · exact e.2
  · by_cases hi : i < vs.length
    · rw [List.getElem?_append_left hi] at e1
      rw [List.getElem?_append_left (by omega)] at e2
      obtain ⟨a1, a2⟩ := h.pie i v l e1 e2
      exact ⟨own_block a1 fun b e _ => (hset b (h.npp e1 e2 b e).1).trans (hW b (a2 b e) (h.npp e1 e2 b e).2.2), fun b e => .inl (a2 b e)⟩
    · have hi' : i = vs.length := by
        have := (List.getElem?_eq_some_iff.1 e1).1
        simp at this
        omega
      subst hi'
      rw [List.getElem?_append_right (Nat.le_refl _), Nat.sub_self] at e1
      rw [hlen, List.getElem?_append_right (Nat.le_refl _), Nat.sub_self] at e2
      simp at e1 e2
      subst e1 e2
      refine ⟨own_block hpc fun b e _ => ?_, fun b e => ?_⟩
      · have e : g = b := by injection e
        subst e
        exact (hset g (by omega)).trans (hgr.block g hgl fun e => hdg e.symm)
      · have e : g = b := by injection e
        subst e
        exact .inr ⟨hg, by omega⟩
  · by_cases hj : j < vs.length
    · rw [List.getElem?_append_left (by omega)] at e1
      rw [List.getElem?_append_left hj] at e2
      exact h.apart i j v u b hij e1 e2 k1 k2
    · have hj' : j = vs.length := by
        have := (List.getElem?_eq_some_iff.1 e2).1
        simp at this
        omega
      subst hj'
      rw [List.getElem?_append_left hij] at e1
      rw [List.getElem?_append_right (Nat.le_refl _), Nat.sub_self] at e2
      simp at e2
      subst e2
      have e : g = b := by injection k2
      subst e
      obtain ⟨l, hl⟩ : ∃ l, ls[i]? = some l := ⟨_, List.getElem?_eq_getElem (by omega)⟩
      have := h.fl g ((h.pie i v l e1 hl).2 g k1)
      omega
  · refine (((Kept.of_below F hb).grown hgr fun b e => .inl (h.fd b e)).setCell (a := ⟨p, 1, none⟩) (.inl h.fp) _)
/-- The last piece has grown. -/
theorem MachE.grew {gd n cd k : Nat} {l : List Ins} {x : Ins} (h : MachE w F p m f c (.slice (some ⟨gd, 0, none⟩) n cd) vs ls) (hk : vs.length = k + 1) (hv0 : vs[k]? = some v) (hl0 : ls[k]? = some l) (hb : Below w.heap.size w W)
    (hr : W'.ownsRow 0 68 6 v' (l.length + 1) (insL (l ++ [x]))) (hgr : W.grownBy W' v.ownBlock) (hv : v'.ownBlock = v.ownBlock ∨ v'.ownBlock = some W.heap.size) :
    MachE (W'.setCell ⟨gd, k, none⟩ v') (wider F w.heap.size W'.heap.size) p m f c (.slice (some ⟨gd, 0, none⟩) n cd) (vs.set k v') (ls.set k (l ++ [x])) ∧ Kept F w (W'.setCell ⟨gd, k, none⟩ v') := by
  have hbs := hb.size
  have hgs := hgr.size
  have hgd := h.fd gd rfl
  have hgdl := h.fl gd hgd
  have hnd := h.npd gd rfl
  have hnv := h.npp hv0 hl0
  have hW : ∀ b, F b → v.ownBlock ≠ some b → W'.heap[b]? = w.heap[b]? := fun b hF e => (hgr.block b (Nat.lt_of_lt_of_le (h.fl b hF) hbs) fun e' => e e'.symm).trans (hb.block b (h.fl b hF))
  have hset : ∀ b, b ≠ gd → (W'.setCell ⟨gd, k, none⟩ v').heap[b]? = W'.heap[b]? := fun b e => Below.heap_setCell _ _ _ _ e
  have hsz : (W'.setCell ⟨gd, k, none⟩ v').heap.size = W'.heap.size := by simp [World.setCell]
  have hvF : ∀ b, v.ownBlock = some b → F b := (h.pie k v l hv0 hl0).2
  have hvg : v.ownBlock ≠ some gd := fun e => (hnv gd e).2.2 rfl
  have hv'g : ∀ b, v'.ownBlock = some b → b ≠ gd := fun b e e' => by
    subst e'
    rcases hv with e' | e'
    · exact hvg (e'.symm.trans e)
    · have : b = W.heap.size := by rw [e'] at e; injection e with e; exact e.symm
      omega
  have hlen := h.len
  have hkl : k < vs.length := by omega
  have hv'F : ∀ b, v'.ownBlock = some b → wider F w.heap.size W'.heap.size b := fun b e => by
    rcases hv with e' | e'
    · exact .inl (hvF b (e'.symm.trans e))
    · have hb' : b = W.heap.size := by rw [e'] at e; injection e with e; exact e.symm
      subst hb'
      exact .inr ⟨hbs, (World.ownsRow.lt hr W.heap.size e).2⟩
  have hset1 : ∀ i, i ≠ k → (vs.set k v')[i]? = vs[i]? := fun i e => List.getElem?_set_ne (fun e' => e e'.symm)
  have hset2 : ∀ i, i ≠ k → (ls.set k (l ++ [x]))[i]? = ls[i]? := fun i e => List.getElem?_set_ne (fun e' => e e'.symm)
  have hat1 : (vs.set k v')[k]? = some v' := by rw [List.getElem?_set_self hkl]
  have hat2 : (ls.set k (l ++ [x]))[k]? = some (l ++ [x]) := by rw [List.getElem?_set_self (by omega)]
  have hnew : ∀ (i : Nat) u b, i ≠ k → vs[i]? = some u → u.ownBlock = some b → v'.ownBlock = some b → False := fun i u b hi e1 k1 k2 => by
    obtain ⟨l', hl'⟩ : ∃ l', ls[i]? = some l' := ⟨_, List.getElem?_eq_getElem (by have := (List.getElem?_eq_some_iff.1 e1).1; omega)⟩
    rcases hv with e' | e'
    · have k3 := e'.symm.trans k2
      rcases Nat.lt_or_gt_of_ne hi with q | q
      · exact h.apart i k u v b q e1 hv0 k1 k3
      · exact h.apart k i v u b q hv0 e1 k3 k1
    · have hb' : b = W.heap.size := by rw [e'] at k2; injection k2 with e; exact e.symm
      have := h.fl b ((h.pie i u l' e1 hl').2 b k1)
      omega
  refine ⟨⟨?_, ?_, h.fu, by simp [hlen], ?_, .inl h.fp, .inl h.fc, fun b e => .inl (h.fd b e), fun b e => ?_, fun i u l' e1 e2 => ?_, fun i j u y b hij e1 e2 k1 k2 => ?_⟩, ?_⟩
  · exact (hset p hnd.1.symm).trans ((hW p h.fp fun e => (hnv p e).1 rfl).trans h.hd)
  · obtain ⟨cur, h1, h2⟩ := h.cs
    exact ⟨cur, (hset c hnd.2.symm).trans ((hW c h.fc fun e => (hnv c e).2.1 rfl).trans h1), h2⟩
  · rw [List.length_set]
    have r1 : W'.ownsRow 0 63 1 (.slice (some ⟨gd, 0, none⟩) n cd) vs.length vs := own_block h.row fun b e _ => hW b (h.fd b e) fun e' => (hnv b e').2.2 e
    have hn : n = vs.length := by
      rcases r1.2 with ⟨e, _⟩ | ⟨g', cap', cur, e, _⟩
      · cases e
      · injection e
    subst hn
    exact (World.ownsRow.stored r1 k v').1
  · rw [hsz]
    rcases e with e | e
    · have := h.fl b e; omega
    · exact e.2
  · by_cases hi : i = k
    · subst hi
      rw [hat1] at e1
      rw [hat2] at e2
      injection e1 with e1
      injection e2 with e2
      subst e1 e2
      refine ⟨?_, hv'F⟩
      rw [List.length_append, List.length_singleton]
      exact own_block hr fun b e _ => hset b (hv'g b e)
    · rw [hset1 i hi] at e1
      rw [hset2 i hi] at e2
      obtain ⟨a1, a2⟩ := h.pie i u l' e1 e2
      refine ⟨own_block a1 fun b e _ => (hset b fun e' => ?_).trans (hW b (a2 b e) fun e' => ?_), fun b e => .inl (a2 b e)⟩
      · subst e'
        exact (h.npp e1 e2 b e).2.2 rfl
      · rcases Nat.lt_or_gt_of_ne hi with q | q
        · exact h.apart i k u v b q e1 hv0 e e'
        · exact h.apart k i v u b q hv0 e1 e' e
  · by_cases hi : i = k
    · subst hi
      rw [hat1] at e1
      injection e1 with e1
      subst e1
      rw [hset1 j (by omega)] at e2
      exact hnew j y b (by omega) e2 k2 k1
    · rw [hset1 i hi] at e1
      by_cases hj : j = k
      · subst hj
        rw [hat1] at e2
        injection e2 with e2
        subst e2
        exact hnew i u b hi e1 k1 k2
      · rw [hset1 j hj] at e2
        exact h.apart i j u y b hij e1 e2 k1 k2
  · exact (((Kept.of_below F hb).grown hgr fun b e => .inl (hvF b e)).setCell (a := ⟨gd, k, none⟩) (.inl hgd) _)
/-- The machine: what was done since the last Trace is tr. -/
def Mach (w : World) (F : Nat → Prop) (p m : Nat) (f : Int → Int) (tr : List Ins) : Prop := ∃ c dv vs ls, MachE w F p m f c dv vs ls ∧ tr = ls.flatten ∧ ∀ l ∈ ls, l ≠ []
theorem Mach.kept {Q : Nat → Prop} {tr : List Ins} (h : Mach w F p m f tr) (hb : Kept Q w w') (hq : ∀ b, F b → ¬ Q b) : Mach w' F p m f tr := by
  obtain ⟨c, dv, vs, ls, h1, h2, h3⟩ := h
  exact ⟨c, dv, vs, ls, h1.kept hb hq, h2, h3⟩
theorem Mach.stays {tr : List Ins} (h : Mach w F p m f tr) (hb : Below w.heap.size w w') : Mach w' F p m f tr := by
  obtain ⟨c, dv, vs, ls, h1, h2, h3⟩ := h
  exact ⟨c, dv, vs, ls, h1.stays hb, h2, h3⟩
theorem many_le : ∀ (ls : List (List Ins)), (∀ l ∈ ls, l ≠ []) → ls.length ≤ ls.flatten.length
  | [], _ => by simp
  | l :: ls, h => by
    have h1 := many_le ls fun l' hl => h l' (List.mem_cons_of_mem _ hl)
    have h2 : 0 < l.length := List.length_pos_iff.2 (h l (List.mem_cons_self ..))
    simp only [List.length_cons, List.flatten_cons, List.length_append]
    omega
end
end Go.Proofs.Ythhgagghdeocoaa
