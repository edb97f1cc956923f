/-
  Several texts of this proof in one file: MooDocL, MooStep, ClassRef, OrdT, Places, RefRd6. No statement of its own.
-/
import Derived.Test.YtnkopcmkanibhaaMo11
import Derived.Test.YtnkopcmkanibhaaMo12
import Derived.Test.YtnkopcmkanibhaaMo10
import Derived.Test.YtnkopcmkanibhaaMo4
import Derived.Test.YtnkopcmkanibhaaMo7
import Derived.Test.YtnkopcmkanibhaaMo2
import Derived.BigQuiet
import Derived.Deep.RegionLaw
import Derived.Deep.RegionHeld3
import Derived.OrdersHeld
import Derived.Lib.Hide
import Derived.Test.YtnkopcmkanibhaaMo8
import Derived.Deep.LoopGhost
import Derived.Deep.DeepCutAuto
set_option linter.unusedVariables false
set_option linter.unusedSimpArgs false

/-
  A rule's sets appended to a row of sets; the zero of a machine. Laws for other texts; no statement of its own.
-/
namespace Go.Proofs.Ytnkopcmkanibhaa
open Go Go.RowKit

theorem Try.infoSetE : (Try.prog.info? 72).map (fun i => (i.zero, i.size, i.bytes)) = some (some (.agg #[.int .u64 0, .int .u64 0, .int .u64 0, .int .u64 0]), 4, 32) := by kernel_rfl
/-- A row of sets that grows. -/
def SetsG (w : World) (B : Nat) (v : Value) (S : List (Nat → Bool)) : Prop := w.ownsRow B 72 4 v S.length (setsC S)
section
variable {w w' : World} {B : Nat} {v u : Value} {S T : List (Nat → Bool)}
theorem setsC_app (S T : List (Nat → Bool)) : setsC (S ++ T) = setsC S ++ setsC T := by simp [setsC]
theorem setsC_one (T : List (Nat → Bool)) : ∀ u ∈ setsC T, u.oneCell' = true := by
  intro u hu
  simp only [setsC, List.mem_flatMap] at hu
  obtain ⟨p, _, hu⟩ := hu
  simp at hu
  rcases hu with rfl | rfl | rfl | rfl <;> rfl
theorem SetsG.nil (w : World) (B : Nat) : SetsG w B (.slice none 0 0) [] := World.ownsRow_nil w B _ 4
theorem SetsG.form (h : SetsG w B v S) : ∃ A c, v = .slice A S.length c := own_formM h
theorem SetsG.rd {A : Option Addr} {n c : Nat} (h : SetsG w B (.slice A n c) S) : RdS w w.heap.size A S := fun k hk => by
  obtain ⟨A', c', e⟩ := h.form
  injection e with e1 e2 e3
  subst e1 e2 e3
  unfold SetsG at h
  rcases h.2 with ⟨_, h0⟩ | ⟨g, cap, cur, e, hB, hg, _⟩
  · omega
  · injection e with e1 e2 e3
    subst e1
    refine ⟨g, 0, rfl, lt_of_some hg, fun q hq => ?_⟩
    rw [Nat.zero_add, World.ownsRow.cellAt h (k * 4 + q) (by omega)]
    exact setsC_get S k q hk hq
/-- append of a rule's sets. -/
theorem run_setsG (ty : TypeId) (h : SetsG w B v S) {A : Option Addr} {c : Nat} (hu : RdS w w.heap.size A T) (hl : S.length + T.length ≤ 100000) (hB : B ≤ w.heap.size) :
    ∃ v' w', (Builtin.append_ #[82, 82] ty #[v, .slice A T.length c]).run Try.prog w = .ok v' w' ∧ SetsG w' B v' (S ++ T) ∧ w.grownBy w' v.ownBlock ∧ (v'.ownBlock = v.ownBlock ∨ v'.ownBlock = some w.heap.size) := by
  obtain ⟨i0, hi, hz0, hz1, hz2⟩ := info_parts Try.infoSetE
  unfold SetsG at h ⊢
  rw [List.length_append, setsC_app]
  cases A with
  | none =>
    have hT : T = [] := by
      rcases T with _ | ⟨p, T⟩
      · rfl
      · obtain ⟨b, off, e, _⟩ := hu 0 (by simp)
        cases e
    subst hT
    refine ⟨v, w, ?_, by simpa [setsC] using h, ⟨rfl, rfl, rfl, Nat.le_refl _, fun _ _ _ => rfl⟩, .inl rfl⟩
    rcases h.2 with ⟨rfl, h0⟩ | ⟨g, cap, cur, rfl, _, _, hnc, _⟩
    · simp [Builtin.append_, run_underlying Try.underlying82, sizeOf, typeInfo, hi, Builtin.lenOf, Builtin.firstCells]
    · simp [Builtin.append_, run_underlying Try.underlying82, sizeOf, typeInfo, hi, Builtin.lenOf, Builtin.firstCells, hnc, storeCells]
  | some ad =>
    obtain ⟨v', w', hr, h2, h3, _, h5⟩ := run_append_own_at (P := Try.prog) w B 82 ty 72 i0 _ 4 32 Try.underlying82 hi hz0 hz1 hz2 rfl (by decide) v S.length _ h ad T.length c (setsC T) (setsC_len T) (by
      intro j x hx
      have hj : j < T.length * 4 := by rw [← setsC_len]; exact (List.getElem?_eq_some_iff.1 hx).1
      have hd : j = j / 4 * 4 + j % 4 := by omega
      have hk : j / 4 < T.length := by omega
      obtain ⟨b, off, e, _, hc⟩ := hu (j / 4) hk
      obtain rfl := Option.some.inj e
      have h1 := setsC_get T (j / 4) (j % 4) hk (by omega)
      rw [← hd, hx] at h1
      have h1 := Option.some.inj h1
      rw [h1, Addr.add_lit, show off + j = off + j / 4 * 4 + j % 4 by omega]
      exact hc (j % 4) (by omega)) (setsC_one T) (by unfold maxLen; omega) (by omega) hB
    exact ⟨v', w', hr, h2, h3, h5⟩
theorem wpList_setsG {ops : Array Oper} {rest : List Oper} {o : Oper} {a : Act} {Q : Exit → Act → World → Prop} (hgd : o.guard = none) (s x : Operand) (ho : o.op = .call { callee := .builtin .append, args := #[s, x], argTypes := #[82, 82] })
    {A : Option Addr} {n c : Nat} (hs : a.eval s = v) (hx : a.eval x = .slice A n c) (hn : n = T.length) (h : SetsG w B v S) (hu : RdS w w.heap.size A T) (hl : S.length + T.length ≤ 100000) (hB : B ≤ w.heap.size)
    (hK : ∀ v' w', SetsG w' B v' (S ++ T) → w.grownBy w' v.ownBlock → (v'.ownBlock = v.ownBlock ∨ v'.ownBlock = some w.heap.size) → wpList Try.prog ops Q rest (a.put o.dst v') w') : wpList Try.prog ops Q (o :: rest) a w := by
  subst hn
  obtain ⟨v', w', hr, h2, h3, h4⟩ := run_setsG o.type h (A := A) (c := c) hu hl hB
  refine wpList_plain hgd fun _ hK' => ?_
  unfold Oper.wp execOp
  simp only [ho, resolve, invoke, builtin, Sem.run_bind, Sem.run_pure, Result.andThen_ok, List.map_toArray, List.map_cons, List.map_nil, hs, hx, hr]
  exact hK' _ _ (hK v' w' h2 h3 h4)
end
/-- A rule's sets, as they are read. -/
theorem NfaIn.rdS {w : World} {B gm : Nat} {A1 : Option Addr} {m1 c1 : Nat} {v1 vf : Value} {s : Lay} {x : Str} (h : NfaIn w B (.slice A1 m1 c1) v1 gm vf s x) (hB : B ≤ w.heap.size) : RdS w w.heap.size A1 s.sets := fun k hk => by
  obtain ⟨g, c, e, hg, hc⟩ := h.sets k hk
  injection e with e1 e2 e3
  subst e1
  refine ⟨g, 0, rfl, by omega, fun q hq => ?_⟩
  rw [Nat.zero_add, hc q hq]
  simp [List.getD_eq_getElem?_getD, List.getElem?_eq_getElem hk]
/-- The zero of the document's machine, built. -/
def zeroD : Array Value := machC (fun _ => 0) 0 (.slice none 0 0) (.slice none 0 0)
theorem build_zeroD (w : World) : (Instr.build 43 #[]).run Try.prog w = .ok (.agg zeroD) w := by
  refine run_build w _ _ _ ?_
  kernel_rfl
theorem wpList_buildZ {w : World} {ops : Array Oper} {rest : List Oper} {o : Oper} {a : Act} {Q : Exit → Act → World → Prop} (hgd : o.guard = none) (ho : o.op = .build 43 #[]) (hk : wpList Try.prog ops Q rest (a.put o.dst (.agg zeroD)) w) : wpList Try.prog ops Q (o :: rest) a w := by
  refine wpList_plain hgd fun _ hK => ?_
  unfold Oper.wp execOp
  have e : (#[] : Array (Nat × Operand)).map (fun (i, x) => (i, a.eval x)) = #[] := by simp
  simp only [ho, e, Sem.run_bind, Sem.run_pure, Result.andThen_ok, build_zeroD]
  exact hK _ _ hk
end Go.Proofs.Ytnkopcmkanibhaa

/-
  The document's own Step: where a state goes by a byte. A contract for other texts; no statement of its own.
-/
namespace Go.Proofs.Ytnkopcmkanibhaa
open Go Go.RowKit
attribute [local go_sem ↓] Go.wp_at_zero Go.wp_at_succ

set_option maxRecDepth 20000 in
set_option maxHeartbeats 4000000 in
theorem step05_p {w : World} {A C : Option Addr} {ca cc lam : Nat} {b : Int} {L : List (Lay × Str)} {st : List Wd} (hL : RdNfas w w.heap.size A L) (hs : RdW w C st) (hok : OkRef L) (hst : OkSt L st) (hl : st.length ≤ 100000) (hLl : L.length ≤ 64) (hlam : lam ≤ 64) (hb : 0 ≤ b) (hb' : b ≤ 255)
    (hfin : (stepW L lam b.toNat st (fstN L b.toNat L.length)).length ≤ 100000) :
    Calls Try.prog 44 #[.slice A L.length ca, .int .i64 (lam : Int), .slice C st.length cc, .int .u8 b] w fun e w' => ∃ v', e = .returned v' ∧ Ws w' w.heap.size v' (stepW L lam b.toNat st (fstN L b.toNat L.length)) ∧ Below w.heap.size w w' := by
  obtain ⟨N, hN⟩ : ∃ N, st.length = N := ⟨_, rfl⟩
  obtain ⟨K, hK⟩ : ∃ K, L.length = K := ⟨_, rfl⟩
  have hf1 : (fstN L b.toNat L.length).length ≤ 100000 := Nat.le_trans (stepW_le L lam b.toNat st _) hfin
  rw [hN] at hl ⊢
  rw [hK] at hLl hfin hf1 ⊢
  have HN := Lib.hid hN
  have HK := Lib.hid hK
  have HL := Lib.hid hL
  have HS := Lib.hid hs
  have HOK := Lib.hid hok
  have HST := Lib.hid hst
  have HF1 := Lib.hid hf1
  have HFIN := Lib.hid hfin
  have HAS := Lib.hid (fun (p : Nat → Bool) (W : World) => rhas_p p b W hb hb')
  clear hN hK hL hs hok hst hf1 hfin
  go_enter Try.func44, Try.ntmps44
  go_wp2
  go_loopg [9, 10] K (fun mm v i wr => ∃ k : Nat, i = .int .i64 (k : Int) ∧ k ≤ K ∧ mm = K - k ∧ Ws wr w.heap.size v (fstN L b.toNat k) ∧ Below w.heap.size w wr)
  case atStart => exact ⟨0, rfl, Nat.zero_le _, rfl, Ws.nil _ _, Below.refl _ _⟩
  case round =>
    obtain ⟨k, rfl, hk, hmk, hv, hW⟩ := hrel
    obtain ⟨wo, hwo⟩ : ∃ x, x = wr := ⟨_, rfl⟩
    subst hwo
    have HMK := Lib.hid hmk
    have HV := Lib.hid hv
    have HW := Lib.hid hW
    clear hmk hv hW
    by_cases hkK : k < K
    · obtain ⟨⟨s, x⟩, hx⟩ : ∃ x, L[k]? = some x := ⟨_, List.getElem?_eq_getElem (by rw [HK.out]; exact hkK)⟩
      obtain ⟨g, off, A1, m1, c1, A2, m2, c2, gm, A3, m3, c3, rfl, hg, hc, q1, q2, q3, hin⟩ := HL.out k s x hx
      obtain ⟨hfst, hfn, -⟩ := HOK.out k s x hx
      have HPart := Lib.hid (fun q => fstN_part L b.toNat k s x hx q)
      have HNX := Lib.hid (show fstN L b.toNat (k + 1) = fstN L b.toNat k ++ fstOne k s b.toNat x.first by rw [fstN, hx])
      have HFST := Lib.hid hfst
      have hrd : ∀ W, Below w.heap.size w W → W.cell? ⟨g, off + k * 5, none⟩ = some (.slice A1 m1 c1) ∧ W.cell? ⟨g, off + k * 5 + 1, none⟩ = some (.slice A2 m2 c2) ∧ NfaIn W w.heap.size (.slice A1 m1 c1) (.slice A2 m2 c2) gm (.slice A3 m3 c3) s x := fun W hb => ⟨(hb.cell (p := ⟨g, off + k * 5, none⟩) hg).trans (hc 0 _ rfl), (hb.cell (p := ⟨g, off + k * 5 + 1, none⟩) hg).trans (hc 1 _ rfl), hin.below hb⟩
      have HRD := Lib.hid hrd
      obtain ⟨F, hF⟩ : ∃ F, x.first.length = F := ⟨_, rfl⟩
      have HF := Lib.hid hF
      obtain ⟨z, hz⟩ : ∃ z, s.sets.length = z := ⟨_, rfl⟩
      have HZ := Lib.hid hz
      rw [hF] at q2 hfn
      rw [hz] at q1
      subst q1 q2
      have i0 : (0 : Int) ≤ (k : Int) := by omega
      have i1 : (k : Int) < (K : Int) := by omega
      clear hx hc hin hfst hrd hF hz q3 hg
      go_wp2
      go_loopg [9, 11] m2 (fun mm v i wi => ∃ q : Nat, i = .int .i64 (q : Int) ∧ q ≤ m2 ∧ mm = m2 - q ∧ Ws wi w.heap.size v (fstN L b.toNat k ++ fstOne k s b.toNat (x.first.take q)) ∧ Below w.heap.size w wi)
      case atStart => exact ⟨0, rfl, Nat.zero_le _, rfl, by simpa [fstOne] using HV.out, HW.out⟩
      case round =>
        obtain ⟨q, rfl, hq, hmq, hvq, hWq⟩ := hrel
        have HMQ := Lib.hid hmq
        have HVQ := Lib.hid hvq
        have HWQ := Lib.hid hWq
        obtain ⟨y0, y1, hin⟩ := HRD.out wr hWq
        clear hmq hvq hWq
        by_cases hqF : q < m2
        · have hqs : q < x.first.length := by rw [HF.out]; exact hqF
          obtain ⟨g1, cc1, e1, _, hg1, hc1⟩ := hin.first.at q (by rw [ns_len]; exact hqs)
          simp only [Value.slice.injEq] at e1
          obtain ⟨rfl, -, rfl⟩ := e1
          have hce : (ns x.first)[q]'(by rw [ns_len]; exact hqs) = ((x.first[q]'hqs : Nat) : Int) := by simp [ns]
          rw [hce] at hc1
          obtain ⟨p, hp⟩ : ∃ p, x.first[q]'hqs = p := ⟨_, rfl⟩
          have hpz := HFST.out _ (List.getElem_mem hqs)
          rw [hp] at hc1 hpz
          have hsucc := fstOne_succ k s b.toNat x.first q p (by rw [List.getElem?_eq_getElem hqs, hp])
          obtain ⟨gs, cs, e2, hgs, hsc⟩ := hin.sets p hpz
          simp only [Value.slice.injEq] at e2
          obtain ⟨rfl, -, rfl⟩ := e2
          have s0 := hsc 0 (by decide)
          have s1 := hsc 1 (by decide)
          have s2 := hsc 2 (by decide)
          have s3 := hsc 3 (by decide)
          rw [Nat.add_zero] at s0
          rw [HZ.out] at hpz
          have hle := Nat.le_trans (HPart.out q) (by rw [HK.out]; exact HF1.out)
          obtain ⟨bb, hbb⟩ : ∃ bb, s.sets.getD p noneP b.toNat = bb := ⟨_, rfl⟩
          have hcall := HAS.out (s.sets.getD p noneP) wr
          rw [hbb] at hcall hsucc
          obtain ⟨a0, ha0⟩ : ∃ a, word (s.sets.getD p noneP) 0 = a := ⟨_, rfl⟩
          obtain ⟨a1, ha1⟩ : ∃ a, word (s.sets.getD p noneP) 1 = a := ⟨_, rfl⟩
          obtain ⟨a2, ha2⟩ : ∃ a, word (s.sets.getD p noneP) 2 = a := ⟨_, rfl⟩
          obtain ⟨a3, ha3⟩ : ∃ a, word (s.sets.getD p noneP) 3 = a := ⟨_, rfl⟩
          rw [ha0] at s0 hcall
          rw [ha1] at s1 hcall
          rw [ha2] at s2 hcall
          rw [ha3] at s3 hcall
          have HC := Lib.hid hcall
          have HSU := Lib.hid hsucc
          have HLE := Lib.hid hle
          have j0 : (0 : Int) ≤ (q : Int) := by omega
          have j1 : (q : Int) < (m2 : Int) := by omega
          have j2 : (0 : Int) ≤ (p : Int) := by omega
          have j3 : (p : Int) < (m1 : Int) := by omega
          clear hin hg1 hce hp hsucc hgs hsc hle hbb hcall ha0 ha1 ha2 ha3
          cases bb
          all_goals
            go_wp2_with (first
              | (go_at_call 64; (with_reducible refine HC.out.mono ?_); rintro e w5 ⟨rfl, h5⟩; have HW5 := Lib.hid (gro HWQ.out h5); have HV5 := Lib.hid (HVQ.out.stays h5); have hs5 := HW5.out.size; clear h5)
              | (at_builtin; refine wpList_ws (by rfl) _ _ (by rfl) (by rfl) (HV5.out.stays ((Below.refl _ _).alloc (Nat.le_refl _) _)) (by simp; omega) HLE.out ⟨k, p, 1⟩ ⟨w5.heap.size, 0, none⟩ 1 (by rfl) (wd_new w5 ⟨k, p, 1⟩) ?_; intro v6 w6 i6 g6 o6; have I6 := Lib.hid i6; have HW6 := Lib.hid ((HW5.out.alloc hs5 _).grown g6 (by simp; omega) fun u e => (HV5.out.in u e).1); clear i6 g6 o6)
              | fail)
          · go_roundg (m2 - (q + 1))
            case measure => have := HMQ.out; omega
            case rel => exact ⟨q + 1, by go_num, by omega, rfl, by rw [HSU.out, if_neg (by decide), List.append_nil]; exact HV5.out, HW5.out⟩
          · go_roundg (m2 - (q + 1))
            case measure => have := HMQ.out; omega
            case rel => exact ⟨q + 1, by go_num, by omega, rfl, by rw [HSU.out, if_pos trivial, ← List.append_assoc]; exact I6.out, HW6.out⟩
        · have hqn : q = x.first.length := by rw [HF.out]; omega
          have hv := HVQ.out
          rw [hqn, List.take_length, ← HNX.out] at hv
          have HV2 := Lib.hid hv
          clear hv hqn hin
          go_wp2
          go_roundg (K - (k + 1))
          case measure => have := HMK.out; omega
          case rel => exact ⟨k + 1, by go_num, by omega, rfl, HV2.out, HWQ.out⟩
    · have hkl : k = K := by omega
      subst hkl
      clear HMK HF1
      go_wp2
      have HV0 := Lib.hid HV.out
      have HW0 := Lib.hid HW.out
      clear HV HW hkK
      go_loopg [9, 14] N (fun mm v i wr => ∃ (j : Nat) (o : List Wd), i = .int .i64 (j : Int) ∧ j ≤ N ∧ mm = N - j ∧ Ws wr w.heap.size v o ∧ Below w.heap.size w wr ∧ stepW L lam b.toNat (st.drop j) o = stepW L lam b.toNat st (fstN L b.toNat k))
      case atStart => exact ⟨0, _, rfl, Nat.zero_le _, rfl, HV0.out, HW0.out, rfl⟩
      case round =>
        obtain ⟨j, o, rfl, hj, hmj, hv, hW, ho⟩ := hrel
        obtain ⟨wo, hwo⟩ : ∃ x, x = wr := ⟨_, rfl⟩
        subst hwo
        have HMJ := Lib.hid hmj
        have HV := Lib.hid hv
        have HW := Lib.hid hW
        have HO := Lib.hid ho
        clear hmj hv ho
        by_cases hjN : j < N
        · obtain ⟨x, hx⟩ : ∃ x, st[j]? = some x := ⟨_, List.getElem?_eq_getElem (by rw [HN.out]; exact hjN)⟩
          obtain ⟨s, t, e1, e2, e3⟩ := HST.out x (List.mem_of_getElem? hx)
          obtain ⟨gw, ow, rfl, hgw, z0, z1, z2⟩ := HS.out j x hx
          obtain ⟨g, off, A1, m1, c1, A2, m2, c2, gm, A3, m3, c3, rfl, hg, hc, q1, q2, q3, hin⟩ := HL.out x.rule s t e1
          obtain ⟨-, -, hfo⟩ := HOK.out x.rule s t e1
          obtain ⟨hfq, hfn⟩ := hfo x.place e2
          have hdr := stepW_drop L lam b.toNat st j x hx o
          rw [HO.out] at hdr
          have hone : stepOne L lam b.toNat x o = if x.age < lam then folOne s b.toNat x (s.follow.getD x.place []) o else o := by unfold stepOne; rw [e1]
          have hlo : (stepOne L lam b.toNat x o).length ≤ 100000 := by
            refine Nat.le_trans (stepW_le L lam b.toNat (st.drop (j + 1)) _) ?_
            rw [← hdr]
            exact HFIN.out
          rw [hone] at hdr hlo
          have hcc : ∀ q u, (nfaC (.slice A1 m1 c1) (.slice A2 m2 c2) (.slice (some ⟨gm, 0, none⟩) s.sets.length s.sets.length) (.slice A3 m3 c3) t.empty)[q]? = some u → wo.cell? ⟨g, off + x.rule * 5 + q, none⟩ = some u := fun q u hu => (hW.cell (p := ⟨g, off + x.rule * 5 + q, none⟩) hg).trans (hc q u hu)
          have n0 := hcc 0 _ rfl
          have n1 := hcc 1 _ rfl
          have n2 := hcc 2 _ rfl
          have n3 := hcc 3 _ rfl
          have n4 := hcc 4 _ rfl
          rw [Nat.add_zero] at n0
          have hxr : x.rule < k := by have := (List.getElem?_eq_some_iff.1 e1).1; have := HK.out; omega
          have HFQ := Lib.hid hfq
          have HX := Lib.hid hx
          obtain ⟨xr, xp, xa⟩ := x
          simp only at z0 z1 z2 n0 n1 n2 n3 n4 hxr e2 e3 hfn hdr hlo HFQ
          subst q1 q2 q3
          obtain ⟨gf, cf, vf, ef, hgf, hcf, hfi, hfb⟩ := hin.fols xp e2
          simp only [Value.slice.injEq, true_and] at ef
          obtain ⟨rfl, rfl⟩ := ef
          obtain ⟨Av, cv, ev, -, -⟩ := hfi.news
          rw [ns_len] at ev
          subst ev
          have hrd : ∀ W, Below w.heap.size w W → W.cell? ⟨gw, ow + j * 3, none⟩ = some (.int .i64 (xr : Int)) ∧ W.cell? ⟨gw, ow + j * 3 + 1, none⟩ = some (.int .i64 (xp : Int)) ∧ W.cell? ⟨gw, ow + j * 3 + 2, none⟩ = some (.int .i64 (xa : Int)) ∧ W.cell? ⟨gf, xp, none⟩ = some (.slice Av (s.follow.getD xp []).length cv) ∧ Ints W 0 (.slice Av (s.follow.getD xp []).length cv) (ns (s.follow.getD xp [])) ∧ NfaIn W w.heap.size (.slice A1 s.sets.length c1) (.slice A2 t.first.length c2) gm (.slice (some ⟨gf, 0, none⟩) s.sets.length c3) s t := fun W hb => ⟨(hb.cell (p := ⟨gw, ow + j * 3, none⟩) hgw).trans z0, (hb.cell (p := ⟨gw, ow + j * 3 + 1, none⟩) hgw).trans z1, (hb.cell (p := ⟨gw, ow + j * 3 + 2, none⟩) hgw).trans z2, (hb.cell (p := ⟨gf, xp, none⟩) hgf).trans hcf, hfi.block fun b e _ => hb.block b (hfb b e), hin.below hb⟩
          have HRD := Lib.hid hrd
          obtain ⟨y0, y1, y2, y3, -, -⟩ := hrd wo hW
          obtain ⟨fol, hfol⟩ : ∃ f, s.follow.getD xp [] = f := ⟨_, rfl⟩
          rw [hfol] at HRD HFQ hfn hdr hlo y3
          obtain ⟨F, hF⟩ : ∃ F, fol.length = F := ⟨_, rfl⟩
          have HF := Lib.hid hF
          rw [hF] at HRD hfn y3
          obtain ⟨z, hz⟩ : ∃ z, s.sets.length = z := ⟨_, rfl⟩
          have HZ := Lib.hid hz
          rw [hz] at HRD HFQ n0 n2 n3 e2
          obtain ⟨fin, hfi'⟩ : ∃ f, (if xa < lam then folOne s b.toNat ⟨xr, xp, xa⟩ fol o else o) = f := ⟨_, rfl⟩
          rw [hfi'] at hdr hlo
          have HFI := Lib.hid hfi'
          have HLO := Lib.hid hlo
          have HDR := Lib.hid hdr
          have i0 : (0 : Int) ≤ (j : Int) := by omega
          have i1 : (j : Int) < (N : Int) := by omega
          have i2 : (0 : Int) ≤ (xr : Int) := by omega
          have i3 : (xr : Int) < (k : Int) := by omega
          have hal : Below w.heap.size w (wo.alloc (.cells #[.slice A1 z c1, .slice A2 t.first.length c2, .slice (some ⟨gm, 0, none⟩) z z, .slice (some ⟨gf, 0, none⟩) z c3, .bool t.empty] 84)) := hW.alloc hW.size _
          have hbx := heap_alloc_new wo (.cells #[.slice A1 z c1, .slice A2 t.first.length c2, .slice (some ⟨gm, 0, none⟩) z z, .slice (some ⟨gf, 0, none⟩) z c3, .bool t.empty] 84)
          have HAL := Lib.hid hal
          have HBX := Lib.hid hbx
          have HWO := Lib.hid hW
          clear hx e1 hgw hg hc hcc hin hfo hfq hdr hone hW hlo hfol hF hz hfi' hrd hcf hfi hfb hgf z0 z1 z2 hal hbx y3 HX
          go_wp2
          go_loopg [9, 16] F (fun mm v i wi => ∃ (q : Nat) (o' : List Wd), i = .int .i64 (q : Int) ∧ q ≤ F ∧ mm = F - q ∧ Ws wi w.heap.size v o' ∧ Below w.heap.size w wi ∧ HasO wi wo.heap.size (.cells #[.slice A1 z c1, .slice A2 t.first.length c2, .slice (some ⟨gm, 0, none⟩) z z, .slice (some ⟨gf, 0, none⟩) z c3, .bool t.empty] 84 (0, 0)) ∧ (∀ e, v.ownBlock = some e → e ≠ wo.heap.size) ∧ (if xa < lam then folOne s b.toNat ⟨xr, xp, xa⟩ (fol.drop q) o' else o') = fin)
          case atStart => exact ⟨0, o, rfl, Nat.zero_le _, rfl, HV.out.stays ((Below.refl _ _).alloc (Nat.le_refl _) _), HAL.out, HBX.out, fun e he => by have := (HV.out.in e he).2; omega, HFI.out⟩
          case round =>
            obtain ⟨q, o', rfl, hq, hmq, hvq, hWq, hbq, hap, hof⟩ := hrel
            have HMQ := Lib.hid hmq
            have HVQ := Lib.hid hvq
            have HWQ := Lib.hid hWq
            have HBQ := Lib.hid hbq
            have HAP := Lib.hid hap
            have HOF := Lib.hid hof
            obtain ⟨y0, y1, y2, y3, hfi, hin⟩ := HRD.out wr hWq
            have u0 : wr.cell? ⟨wo.heap.size, 0, none⟩ = some (.slice A1 z c1) := cell_of_row wr _ 0 _ _ (0, 0) hbq
            have u3 : wr.cell? ⟨wo.heap.size, 3, none⟩ = some (.slice (some ⟨gf, 0, none⟩) z c3) := cell_of_row wr _ 3 _ _ (0, 0) hbq
            have j2 : (0 : Int) ≤ (xp : Int) := by omega
            have j3 : (xp : Int) < (z : Int) := by omega
            clear hmq hvq hWq hbq hap hof
            by_cases hqF : q < F
            · have hd1 : decide ((q : Int) < (F : Int)) = true := by simp; omega
              by_cases hxl : xa < lam
              · have hd2 : decide ((xa : Int) < (lam : Int)) = true := by simp; omega
                have hqs : q < fol.length := by rw [HF.out]; exact hqF
                obtain ⟨Ao, co, eo⟩ := HVQ.out.form
                subst eo
                obtain ⟨gv, cv', e4, _, hgv, hcv⟩ := hfi.at q (by rw [ns_len]; exact hqs)
                simp only [Value.slice.injEq] at e4
                obtain ⟨rfl, -, rfl⟩ := e4
                have hce : (ns fol)[q]'(by rw [ns_len]; exact hqs) = ((fol[q]'hqs : Nat) : Int) := by simp [ns]
                rw [hce] at hcv
                obtain ⟨f, hf⟩ : ∃ f, fol[q]'hqs = f := ⟨_, rfl⟩
                have hfz := HFQ.out _ (List.getElem_mem hqs)
                rw [hf] at hcv hfz
                have hfd := folOne_drop s b.toNat ⟨xr, xp, xa⟩ fol q f (by rw [List.getElem?_eq_getElem hqs, hf]) o'
                have ho2 := HOF.out
                rw [if_pos hxl, hfd] at ho2
                have hol : o'.length ≤ 100000 := Nat.le_trans (Nat.le_trans (folPut_le s b.toNat ⟨xr, xp, xa⟩ f o') (folOne_le s b.toNat ⟨xr, xp, xa⟩ (fol.drop (q + 1)) _)) (by rw [ho2]; exact HLO.out)
                obtain ⟨gs, cs, e5, hgs, hsc⟩ := hin.sets f (by rw [HZ.out]; exact hfz)
                simp only [Value.slice.injEq] at e5
                obtain ⟨rfl, -, rfl⟩ := e5
                have s0 := hsc 0 (by decide)
                have s1 := hsc 1 (by decide)
                have s2 := hsc 2 (by decide)
                have s3 := hsc 3 (by decide)
                rw [Nat.add_zero] at s0
                obtain ⟨bb, hbb⟩ : ∃ bb, s.sets.getD f noneP b.toNat = bb := ⟨_, rfl⟩
                obtain ⟨a0, ha0⟩ : ∃ a, word (s.sets.getD f noneP) 0 = a := ⟨_, rfl⟩
                obtain ⟨a1, ha1⟩ : ∃ a, word (s.sets.getD f noneP) 1 = a := ⟨_, rfl⟩
                obtain ⟨a2, ha2⟩ : ∃ a, word (s.sets.getD f noneP) 2 = a := ⟨_, rfl⟩
                obtain ⟨a3, ha3⟩ : ∃ a, word (s.sets.getD f noneP) 3 = a := ⟨_, rfl⟩
                have hcall := fun W => HAS.out (s.sets.getD f noneP) W
                simp only [ha0, ha1, ha2, ha3, hbb] at hcall
                rw [ha0] at s0
                rw [ha1] at s1
                rw [ha2] at s2
                rw [ha3] at s3
                obtain ⟨hh, hhh⟩ : ∃ bb, decide ((⟨xr, f, xa + 1⟩ : Wd) ∈ o') = bb := ⟨_, rfl⟩
                have hask := fun (W : World) (hb2 : Below wr.heap.size wr W) => has05_p (c := co) ⟨xr, f, xa + 1⟩ ((HVQ.out.stays hb2).rd) hol
                simp only [hhh, wdV] at hask
                push_cast at hask
                have hput : folPut s b.toNat ⟨xr, xp, xa⟩ f o' = if bb = true ∧ ¬ hh = true then o' ++ [⟨xr, f, xa + 1⟩] else o' := by
                  unfold folPut
                  rw [hbb, ← hhh]
                  simp
                rw [hput] at ho2
                have hwr : IntKind.i64.wrap ((xa : Int) + 1) = (xa : Int) + 1 := by rw [IntKind.wrap_i64]; omega
                have HPUT := Lib.hid ho2
                have HASK := Lib.hid hask
                have HC := Lib.hid hcall
                have HOL := Lib.hid hol
                have k0 : (0 : Int) ≤ (q : Int) := by omega
                have k1 : (q : Int) < (F : Int) := by omega
                have k2 : (0 : Int) ≤ (f : Int) := by omega
                have k3 : (f : Int) < (z : Int) := by omega
                clear hce hf hfd ho2 hgs hsc hbb ha0 ha1 ha2 ha3 hcall hask hhh hput hol hgv hin hfi
                go_wp2
                go_quiet (fail)
                go_wp2
                generalize hw8 : World.drewN wr _ = w8
                have py0 : w8.cell? ⟨gw, ow + j * 3, none⟩ = some (.int .i64 (xr : Int)) := by rw [← hw8]; exact y0
                have py1 : w8.cell? ⟨gw, ow + j * 3 + 1, none⟩ = some (.int .i64 (xp : Int)) := by rw [← hw8]; exact y1
                have py2 : w8.cell? ⟨gw, ow + j * 3 + 2, none⟩ = some (.int .i64 (xa : Int)) := by rw [← hw8]; exact y2
                have pu3 : w8.cell? ⟨wo.heap.size, 3, none⟩ = some (.slice (some ⟨gf, 0, none⟩) z c3) := by rw [← hw8]; exact u3
                have py3 : w8.cell? ⟨gf, xp, none⟩ = some (.slice (some ⟨gv, 0, none⟩) F cv) := by rw [← hw8]; exact y3
                have phcv : w8.cell? ⟨gv, q, none⟩ = some (.int .i64 (f : Int)) := by rw [← hw8]; exact hcv
                have h8 : Below wr.heap.size wr w8 := by rw [← hw8]; exact below_dn (Below.refl _ _) _
                have H8 := Lib.hid h8
                have hnbd : ((w8.drew.alloc (.cells #[.int .i64 0, .int .i64 0, .int .i64 0] 144))).heap[w8.heap.size]? = some (.cells #[.int .i64 0, .int .i64 0, .int .i64 0] 144 (0, 0)) := heap_alloc_new w8.drew _
                have m0d : ((w8.drew.alloc (.cells #[.int .i64 0, .int .i64 0, .int .i64 0] 144))).cell? ⟨w8.heap.size, 0, none⟩ = some (.int .i64 0) := cell_of_row _ w8.heap.size 0 _ _ (0, 0) hnbd
                have f0d : ((w8.drew.alloc (.cells #[.int .i64 0, .int .i64 0, .int .i64 0] 144))).frozen? ⟨w8.heap.size, 0, none⟩ = false := by generalize (w8.drew.alloc (.cells #[.int .i64 0, .int .i64 0, .int .i64 0] 144)) = W at hnbd ⊢; simp [World.frozen?, hnbd]
                have m1d : ((w8.drew.alloc (.cells #[.int .i64 0, .int .i64 0, .int .i64 0] 144))).cell? ⟨w8.heap.size, 1, none⟩ = some (.int .i64 0) := cell_of_row _ w8.heap.size 1 _ _ (0, 0) hnbd
                have f1d : ((w8.drew.alloc (.cells #[.int .i64 0, .int .i64 0, .int .i64 0] 144))).frozen? ⟨w8.heap.size, 1, none⟩ = false := by generalize (w8.drew.alloc (.cells #[.int .i64 0, .int .i64 0, .int .i64 0] 144)) = W at hnbd ⊢; simp [World.frozen?, hnbd]
                have m2d : ((w8.drew.alloc (.cells #[.int .i64 0, .int .i64 0, .int .i64 0] 144))).cell? ⟨w8.heap.size, 2, none⟩ = some (.int .i64 0) := cell_of_row _ w8.heap.size 2 _ _ (0, 0) hnbd
                have f2d : ((w8.drew.alloc (.cells #[.int .i64 0, .int .i64 0, .int .i64 0] 144))).frozen? ⟨w8.heap.size, 2, none⟩ = false := by generalize (w8.drew.alloc (.cells #[.int .i64 0, .int .i64 0, .int .i64 0] 144)) = W at hnbd ⊢; simp [World.frozen?, hnbd]
                have hnbe : ((w8.alloc (.cells #[.int .i64 0, .int .i64 0, .int .i64 0] 144)).drew).heap[w8.heap.size]? = some (.cells #[.int .i64 0, .int .i64 0, .int .i64 0] 144 (0, 0)) := heap_alloc_new w8 _
                have m0e : ((w8.alloc (.cells #[.int .i64 0, .int .i64 0, .int .i64 0] 144)).drew).cell? ⟨w8.heap.size, 0, none⟩ = some (.int .i64 0) := cell_of_row _ w8.heap.size 0 _ _ (0, 0) hnbe
                have f0e : ((w8.alloc (.cells #[.int .i64 0, .int .i64 0, .int .i64 0] 144)).drew).frozen? ⟨w8.heap.size, 0, none⟩ = false := by generalize (w8.alloc (.cells #[.int .i64 0, .int .i64 0, .int .i64 0] 144)).drew = W at hnbe ⊢; simp [World.frozen?, hnbe]
                have m1e : ((w8.alloc (.cells #[.int .i64 0, .int .i64 0, .int .i64 0] 144)).drew).cell? ⟨w8.heap.size, 1, none⟩ = some (.int .i64 0) := cell_of_row _ w8.heap.size 1 _ _ (0, 0) hnbe
                have f1e : ((w8.alloc (.cells #[.int .i64 0, .int .i64 0, .int .i64 0] 144)).drew).frozen? ⟨w8.heap.size, 1, none⟩ = false := by generalize (w8.alloc (.cells #[.int .i64 0, .int .i64 0, .int .i64 0] 144)).drew = W at hnbe ⊢; simp [World.frozen?, hnbe]
                have m2e : ((w8.alloc (.cells #[.int .i64 0, .int .i64 0, .int .i64 0] 144)).drew).cell? ⟨w8.heap.size, 2, none⟩ = some (.int .i64 0) := cell_of_row _ w8.heap.size 2 _ _ (0, 0) hnbe
                have f2e : ((w8.alloc (.cells #[.int .i64 0, .int .i64 0, .int .i64 0] 144)).drew).frozen? ⟨w8.heap.size, 2, none⟩ = false := by generalize (w8.alloc (.cells #[.int .i64 0, .int .i64 0, .int .i64 0] 144)).drew = W at hnbe ⊢; simp [World.frozen?, hnbe]
                clear hw8 h8 hnbd hnbe y0 y1 y2 y3 u3 hcv
                go_region_held3 (fun W => W.cell? ⟨gw, ow + j * 3, none⟩ = some (.int .i64 (xr : Int)) ∧ W.cell? ⟨gw, ow + j * 3 + 1, none⟩ = some (.int .i64 (xp : Int)) ∧ W.cell? ⟨gw, ow + j * 3 + 2, none⟩ = some (.int .i64 (xa : Int)) ∧ W.cell? ⟨wo.heap.size, 3, none⟩ = some (.slice (some ⟨gf, 0, none⟩) z c3) ∧ W.cell? ⟨gf, xp, none⟩ = some (.slice (some ⟨gv, 0, none⟩) F cv) ∧ W.cell? ⟨gv, q, none⟩ = some (.int .i64 (f : Int)))
                  ((refine ⟨?_, ?_, ?_, ?_, ?_, ?_⟩ <;> (repeat (first | with_reducible assumption | with_reducible refine cell_dr ?_ | with_reducible refine cell_al ?_ _ | with_reducible refine cell_st _ ?_ (by with_reducible assumption))))) (first | fail)
                try rw [hwr]
                generalize hw9 : World.drew _ = w9
                have hbx9 : w9.heap[w8.heap.size]? = some (.cells #[.int .i64 (xr : Int), .int .i64 (f : Int), .int .i64 ((xa : Int) + 1)] 144 (0, 0)) := by rw [← hw9]; exact heap_alloc_new w8 _
                have hb9 : Below wr.heap.size wr w9 := by rw [← hw9]; exact (H8.out.alloc H8.out.size _).drew
                have v0 : w9.cell? ⟨w8.heap.size, 0, none⟩ = some (.int .i64 (xr : Int)) := cell_of_row w9 _ 0 _ _ (0, 0) hbx9
                have v1 : w9.cell? ⟨w8.heap.size, 1, none⟩ = some (.int .i64 (f : Int)) := cell_of_row w9 _ 1 _ _ (0, 0) hbx9
                have v2 : w9.cell? ⟨w8.heap.size, 2, none⟩ = some (.int .i64 ((xa : Int) + 1)) := cell_of_row w9 _ 2 _ _ (0, 0) hbx9
                have b0 := cell_stays u0 hb9
                have t0 := cell_stays s0 hb9
                have t1 := cell_stays s1 hb9
                have t2 := cell_stays s2 hb9
                have t3 := cell_stays s3 hb9
                have HB9 := Lib.hid hb9
                clear hw9 hbx9 hb9 u0 s0 s1 s2 s3 py0 py1 py2 pu3 py3 phcv m0d m1d m2d m0e m1e m2e f0d f1d f2d f0e f1e f2e
                cases bb <;> cases hh
                all_goals
                  go_wp2_with (first
                    | (go_at_call 64; (with_reducible refine (HC.out w9).mono ?_); rintro e wA ⟨rfl, hA⟩; have HA := Lib.hid (gro HB9.out hA); have v0A := cell_stays v0 hA; have v1A := cell_stays v1 hA; have v2A := cell_stays v2 hA; clear hA)
                    | (go_at_call 65; (with_reducible refine (HASK.out wA HA.out).mono ?_); rintro e wB ⟨rfl, hB⟩; have HB := Lib.hid (gro HA.out hB); have v0B := cell_stays v0A hB; have v1B := cell_stays v1A hB; have v2B := cell_stays v2A hB; clear hB)
                    | (at_builtin; refine wpList_ws (by rfl) _ _ (by rfl) (by rfl) ((HVQ.out.stays HB.out).stays ((Below.refl _ _).alloc (Nat.le_refl _) _)) (Nat.le_trans (HWQ.out.trans (HB.out.mono HWQ.out.size)).size (by simp)) HOL.out ⟨xr, f, xa + 1⟩ ⟨wB.heap.size, 0, none⟩ 1 (by rfl) (wd_new wB ⟨xr, f, xa + 1⟩) ?_; intro v6 w6 i6 g6 o6; have I6 := Lib.hid i6; have G6 := Lib.hid g6; have O6 := Lib.hid o6; clear i6 g6 o6)
                    | fail)
                  go_roundg (F - (q + 1))
                  case measure => have := HMQ.out; omega
                  case rel =>
                    have hpp := HPUT.out
                    simp at hpp
                    have hWB : Below w.heap.size w wB := HWQ.out.trans (HB.out.mono HWQ.out.size)
                    have hbB : HasO wB wo.heap.size _ := has_stays HBQ.out HB.out
                    first
                      | exact ⟨q + 1, o', by go_num, by omega, rfl, HVQ.out.stays HB.out, hWB, hbB, HAP.out, by rw [if_pos hxl]; exact hpp⟩
                      | exact ⟨q + 1, _, by go_num, by omega, rfl, I6.out, (hWB.alloc hWB.size _).grown G6.out (Nat.le_trans hWB.size (by simp)) (fun u e => (HVQ.out.in u e).1), has_grown G6.out (has_alloc _ hbB) (fun e => HAP.out _ e.symm rfl), fun e he => by
                          rcases O6.out with o | o
                          · exact HAP.out e (o ▸ he)
                          · rw [he] at o; injection o with o; have h1 := lt_of_some hbB; have h2 : e = wB.heap.size + 1 := by simpa using o
                            omega, by rw [if_pos hxl]; exact hpp⟩
              · have hd2 : decide ((xa : Int) < (lam : Int)) = false := by simp; omega
                have ho2 := HOF.out
                rw [if_neg hxl] at ho2
                have HO2 := Lib.hid ho2
                clear ho2 hin hfi
                go_wp2
                go_quiet (fail)
                go_wp2
                go_roundg (N - (j + 1))
                case measure => have := HMJ.out; omega
                case rel => exact ⟨j + 1, fin, by go_num, by omega, rfl, by rw [← HO2.out]; exact HVQ.out, below_dn HWQ.out _, by rw [← HDR.out]⟩
            · have hd1 : decide ((q : Int) < (F : Int)) = false := by simp; omega
              have ho2 := HOF.out
              rw [show q = fol.length by rw [HF.out]; omega, List.drop_length, folOne, ite_self] at ho2
              have HO2 := Lib.hid ho2
              clear ho2 hin hfi
              go_wp2
              go_quiet (fail)
              go_wp2
              go_roundg (N - (j + 1))
              case measure => have := HMJ.out; omega
              case rel => exact ⟨j + 1, fin, by go_num, by omega, rfl, by rw [← HO2.out]; exact HVQ.out, below_dn HWQ.out _, by rw [← HDR.out]⟩
        · have hjn : j = st.length := by rw [HN.out]; omega
          have ho := HO.out
          rw [hjn, List.drop_length, stepW] at ho
          have HO2 := Lib.hid ho
          clear ho hjn
          go_wp2
          go_ret
          exact ⟨_, rfl, by rw [← HO2.out]; exact HV.out, HW.out⟩
end Go.Proofs.Ytnkopcmkanibhaa

/-
  The document's own Classes. Contracts for other texts; no statement of its own.
-/
namespace Go.Proofs.Ytnkopcmkanibhaa
open Go Go.RowKit
attribute [local go_sem ↓] Go.wp_at_zero Go.wp_at_succ

/-- Is there one below c that has b's key? -/
def seenB (f : Nat → List Bool) (b c : Nat) : Bool := (List.range c).any fun x => f x == f b
theorem seenB_step (f : Nat → List Bool) (b c : Nat) : seenB f b (c + 1) = (seenB f b c || (f c == f b)) := by
  unfold seenB
  rw [List.range_succ, List.any_append]
  simp
theorem seenB_fst (f : Nat → List Bool) (b : Nat) : seenB f b b = !isFst f b := by
  unfold seenB isFst
  rw [List.not_all_eq_any_not]
  congr 1
  funext x
  by_cases h : f x = f b <;> simp [h]
/-- What the search has found by then. -/
def foundI (f : Nat → List Bool) (b c : Nat) : Int := if seenB f b c then (numK f b : Nat) else -1
/-- Are both bytes' keys the same, up to the i-th set? -/
def sameB (l : List (Nat → Bool)) (b c i : Nat) : Bool := keyL (l.take i) b == keyL (l.take i) c
theorem sameB_step (l : List (Nat → Bool)) (b c i : Nat) (h : i < l.length) : sameB l b c (i + 1) = (sameB l b c i && ((l[i]'h) b == (l[i]'h) c)) := by
  unfold sameB
  rw [Bool.eq_iff_iff, beq_iff_eq, keyL_eq l i h, Bool.and_eq_true, beq_iff_eq, beq_iff_eq]

set_option maxRecDepth 20000 in
set_option maxHeartbeats 4000000 in
theorem rclasses_p (w : World) (A : Option Addr) (c : Nat) (l : List (Nat → Bool)) (hr : RdS w w.heap.size A l) (hlen : l.length ≤ 9223372036854775807) :
    Calls Try.prog 43 #[.slice A l.length c] w (RetCls w l) := by
  have hz1 : ∀ w : World, Sem.run Try.prog (zeroValue 34) w = .ok (.agg (arrV 256 fun _ => 0)) w := fun _ => by kernel_rfl
  have b2 := (BoxN.new w 34 256 fun _ => 0).alloc (.cells (arrV 256 fun _ => 0) 34)
  have b4 := (BoxN.new (w.alloc (.cells (arrV 256 fun _ => 0) 34)) 34 256 fun _ => 0)
  have hB : Below w.heap.size w ((w.alloc (.cells (arrV 256 fun _ => 0) 34)).alloc (.cells (arrV 256 fun _ => 0) 34)) := ((Below.refl _ _).alloc (Nat.le_refl _) _).alloc (by simp) _
  simp only [World.size_alloc] at b4
  have HB2 := Lib.hid b2
  have HB4 := Lib.hid b4
  have HBB := Lib.hid hB
  have HR := Lib.hid hr
  clear b2 b4 hB hr
  obtain ⟨f, hf⟩ : ∃ f, keyL l = f := ⟨_, rfl⟩
  generalize hL : l.length = L at *
  have HL := Lib.hid hL
  have HF := Lib.hid hf
  clear hL hf
  go_enter Try.func43, Try.ntmps43
  go_wp2
  clear hz1
  go_loopg [5, 6] 256 (fun m n i wr => ∃ b : Nat, i = .int .i64 (b : Int) ∧ b ≤ 256 ∧ m = 256 - b ∧ n = .int .i64 (cntK f b : Nat) ∧ BoxN wr w.heap.size 34 256 (fun _ => 0) ∧ BoxN wr (w.heap.size + 1) 34 256 (fun i => if i < b then numK f i else 0) ∧ Below w.heap.size w wr)
  case atStart => exact ⟨0, rfl, Nat.zero_le _, rfl, rfl, HB2.out, HB4.out.congr fun j hj => by simp, HBB.out⟩
  case round =>
    obtain ⟨b, rfl, hb, hmb, rfl, bR, bO, hW⟩ := hrel
    have HMB := Lib.hid hmb
    clear hmb
    by_cases hlt : b < 256
    · generalize hcn : cntK f b = cn at *
      have HCN := Lib.hid hcn
      clear hcn
      have HBR := Lib.hid bR
      have HBO := Lib.hid bO
      have HW := Lib.hid hW
      clear bR bO hW
      go_wp2
      rw [show decide ((b : Int) < 256) = true from decide_eq_true (by omega)]
      go_loopg [7, 8] (b + 1) (fun m n i wr => ∃ c : Nat, i = .int .i64 (c : Int) ∧ c ≤ b ∧ m = b + 1 - c ∧ n = .int .i64 (foundI f b c) ∧ BoxN wr w.heap.size 34 256 (fun _ => 0) ∧ BoxN wr (w.heap.size + 1) 34 256 (fun i => if i < b then numK f i else 0) ∧ Below w.heap.size w wr)
      case atStart => exact ⟨0, rfl, Nat.zero_le _, rfl, rfl, HBR.out, HBO.out, HW.out⟩
      case round =>
        obtain ⟨c, rfl, hc, hmc, rfl, bR, bO, hW⟩ := hrel
        have HMC := Lib.hid hmc
        clear hmc
        cases hsn : seenB f b c
        · have hfi : foundI f b c = -1 := by unfold foundI; rw [hsn]; rfl
          rw [hfi]
          by_cases hcb : c < b
          · have HBR2 := Lib.hid bR
            have HBO2 := Lib.hid bO
            have HW2 := Lib.hid hW
            clear bR bO hW
            go_wp2
            go_loopg [9, 10] L (fun m s i wr => ∃ k : Nat, i = .int .i64 (k : Int) ∧ k ≤ L ∧ m = L - k ∧ s = .bool (sameB l b c k) ∧ BoxN wr w.heap.size 34 256 (fun _ => 0) ∧ BoxN wr (w.heap.size + 1) 34 256 (fun i => if i < b then numK f i else 0) ∧ Below w.heap.size w wr)
            case atStart => exact ⟨0, rfl, Nat.zero_le _, rfl, by simp [sameB, keyL], HBR2.out, HBO2.out, HW2.out⟩
            case round =>
              obtain ⟨k, rfl, hk, hmk, rfl, bR, bO, hW⟩ := hrel
              have HMK := Lib.hid hmk
              clear hmk
              by_cases hkl : k < L
              · have hkl' : k < l.length := by rw [HL.out]; exact hkl
                obtain ⟨g, off, rfl, hbB, hcl⟩ := HR.out k hkl'
                have hst := sameB_step l b c k hkl'
                generalize l[k]'hkl' = p at *
                have c0 := (hW.cell (p := ⟨g, off + k * 4 + 0, none⟩) hbB).trans (hcl 0 (by omega))
                have c1 := (hW.cell (p := ⟨g, off + k * 4 + 1, none⟩) hbB).trans (hcl 1 (by omega))
                have c2 := (hW.cell (p := ⟨g, off + k * 4 + 2, none⟩) hbB).trans (hcl 2 (by omega))
                have c3 := (hW.cell (p := ⟨g, off + k * 4 + 3, none⟩) hbB).trans (hcl 3 (by omega))
                have k0 : (0 : Int) ≤ (k : Int) := by omega
                have k1 : (k : Int) < (L : Int) := by omega
                clear hcl
                rw [Nat.add_zero] at c0
                generalize sameB l b c k = s at *
                obtain ⟨pb, hpb⟩ : ∃ pb, p b = pb := ⟨_, rfl⟩
                obtain ⟨pc, hpc⟩ : ∃ pc, p c = pc := ⟨_, rfl⟩
                rw [hpb, hpc] at hst
                have HST := Lib.hid hst
                clear hst
                cases s <;> cases pb <;> cases pc
                all_goals
                  go_wp2_with (first
                    | (go_at_call 64; (with_reducible refine (rhas_p p (b : Int) _ (by omega) (by omega)).mono ?_); rintro e w1 ⟨rfl, hb1⟩; rw [Int.toNat_natCast, hpb]; have d0 := cell_stays c0 hb1; have d1 := cell_stays c1 hb1; have d2 := cell_stays c2 hb1; have d3 := cell_stays c3 hb1)
                    | (go_at_call 64; (with_reducible refine (rhas_p p (c : Int) _ (by omega) (by omega)).mono ?_); rintro e w2 ⟨rfl, hb2⟩; rw [Int.toNat_natCast, hpc]))
                  go_roundg (L - (k + 1))
                  case measure => have := HMK.out; omega
                  case rel => exact ⟨k + 1, by go_num, by omega, rfl, by rw [HST.out]; rfl, (bR.stays hb1).stays hb2, (bO.stays hb1).stays hb2, gro (gro hW hb1) hb2⟩
              · have hkl2 : k = l.length := by rw [HL.out]; omega
                have hsame : sameB l b c k = (f c == f b) := by
                  unfold sameB
                  rw [hkl2, List.take_length, HF.out]
                  exact Bool.beq_comm
                rw [hsame]
                have hss := seenB_step f b c
                rw [hsn, Bool.false_or] at hss
                have HSS := Lib.hid hss
                clear hss hsame
                cases hfc : f c == f b
                · go_wp2
                  go_roundg (b + 1 - (c + 1))
                  case measure => have := HMC.out; omega
                  case rel => exact ⟨c + 1, by go_num, by omega, rfl, by unfold foundI; rw [HSS.out, hfc]; rfl, bR, bO, hW⟩
                · have hcell := bO.cell c (by omega)
                  rw [if_pos hcb] at hcell
                  have hnn : numK f c = numK f b := (numK_eq f c b).2 (by simpa using hfc)
                  rw [hnn] at hcell
                  go_wp2
                  go_roundg (b + 1 - (c + 1))
                  case measure => have := HMC.out; omega
                  case rel => exact ⟨c + 1, by go_num, by omega, rfl, by unfold foundI; rw [HSS.out, hfc]; rfl, bR, bO, hW⟩
          · have hcb2 : c = b := by omega
            subst hcb2
            have hfs : isFst f c = true := by have := seenB_fst f c; rw [hsn] at this; simpa using this.symm
            have hcell := bO.cell c hlt
            have hfro := bO.frozen c
            have hnn : numK f c = cn := by rw [numK_fst f hfs]; exact HCN.out
            have hle : cn ≤ 256 := by have := cntK_le f c; have := HCN.out; omega
            have hst : cntK f (c + 1) = cn + 1 := by simp [cntK, hfs, HCN.out]
            have HST := Lib.hid (And.intro hnn hst)
            have HTO : Hid (∀ i, (if i = c then cn else if i < c then numK f i else 0) = if i < c + 1 then numK f i else 0) := fun i => by
              by_cases e : i = c
              · subst e; simp [hnn]
              · by_cases e2 : i < c
                · have : i < c + 1 := by omega
                  simp [e, e2, this]
                · have : ¬ i < c + 1 := by omega
                  simp [e, e2, this]
            clear hnn hst
            go_wp2
            go_roundg (256 - (c + 1))
            case measure => have := HMB.out; omega
            case rel =>
              exact ⟨c + 1, by go_num, by omega, rfl, by rw [HST.out.2]; go_num, bR.far (by simp) _, (bO.set c cn hlt).congr fun i _ => HTO.out i, hW.setCell (by simp) _⟩
        · have hfi : foundI f b c = (numK f b : Nat) := by unfold foundI; rw [hsn]; rfl
          have hfs : isFst f b = false := by
            have hx : ∃ x, x < c ∧ f x = f b := by unfold seenB at hsn; simpa using hsn
            obtain ⟨x, hx, e⟩ := hx
            exact (not_fst f b).2 ⟨x, by omega, e⟩
          have hcell := bO.cell b hlt
          have hfro := bO.frozen b
          have hst : cntK f (b + 1) = cn := by simp [cntK, hfs, HCN.out]
          have hle := numK_le f b
          have hle2 := cntK_le f b
          rw [hfi]
          have HTO : Hid (∀ i, (if i = b then numK f b else if i < b then numK f i else 0) = if i < b + 1 then numK f i else 0) := fun i => by
            by_cases e : i = b
            · subst e; simp
            · by_cases e2 : i < b
              · have : i < b + 1 := by omega
                simp [e, e2, this]
              · have : ¬ i < b + 1 := by omega
                simp [e, e2, this]
          have HST := Lib.hid hst
          clear hst hfi
          generalize numK f b = nu at *
          have hnn : ((nu : Int) < 0) = False := by simp
          by_cases hcb : c < b
          all_goals
            go_wp2
            go_roundg (256 - (b + 1))
            case measure => have := HMB.out; omega
            case rel => exact ⟨b + 1, by go_num, by omega, rfl, by rw [HST.out], bR.far (by simp) _, (bO.set b nu hlt).congr fun i _ => HTO.out i, hW.setCell (by simp) _⟩
    · have hb6 : b = 256 := by omega
      subst hb6
      have bG := bO.congr (G := numK f) fun i hi => by simp [hi]
      go_wp2_with (first | (refine wpList_load256 (g := w.heap.size + 1) (F := numK f) rfl bG ?_; go_simp) | (refine wpList_store256 (g := w.heap.size) (F := fun _ => 0) (G := numK f) rfl rfl bR ?_; go_simp))
      have hz3 := bR.lt
      have e := HF.out
      subst e
      exact bodyPost_ret (v := .tuple #[.agg (arrV 256 (numK (keyL l))), .int .i64 (cntK (keyL l) 256 : Nat)]) (results_arr Try.results43 rfl rfl (bR.put (numK (keyL l)))) rfl ⟨rfl, below_setRow hW (by omega) _⟩
end Go.Proofs.Ytnkopcmkanibhaa

/-
  A region that draws its order and ends in stores: what an operation reads is asked of the worlds ahead of the stores alone. Laws for other texts; no statement of its own.
-/
namespace Go.Proofs.Ytnkopcmkanibhaa
open Go Go.RowKit

section
variable {P : Program} {ops : Array Oper} {Q : Exit → Act → World → Prop} {md : Region.Mode} {R S : World → Prop} {T : List Nat}

/-- None of the operations T has come up. -/
def Early (T : List Nat) (listed : Array Bool) : Prop := ∀ t ∈ T, listed.getD t true = false
/-- From here on in whatever order; R holds throughout, S as long as none of T has come up. -/
def AnyT (P : Program) (md : Region.Mode) (ops : Array Oper) (Q : Exit → Act → World → Prop) (R S : World → Prop) (T : List Nat) : Nat → Array Bool → Act → World → Prop
  | 0, l, a, w => Region.ready md ops l = [] ∧ Q .normal a w
  | f + 1, l, a, w => (Region.ready md ops l = [] → Q .normal a w) ∧ ∀ i ∈ Region.ready md ops l, wpOp P ops Q i (fun a' w' => (R w' ∧ (Early T (l.setIfInBounds i true) → S w')) ∧ AnyT P md ops Q R S T f (l.setIfInBounds i true) a' w') a w
theorem anyT_wpAny : ∀ (f : Nat) (l : Array Bool) (a : Act) (w : World), AnyT P md ops Q R S T f l a w → wpAny P md ops Q f l a w
  | 0, _, _, _, h => h
  | f + 1, _, _, _, h => ⟨h.1, fun i hi => wpOp_mono (fun a' w' k => anyT_wpAny f _ a' w' k.2) (h.2 i hi)⟩
theorem early_set {l : Array Bool} {j : Nat} (h : Early T l) (hj : j ∉ T) : Early T (l.setIfInBounds j true) := fun t ht => by
  have hne : j ≠ t := fun e => hj (e ▸ ht)
  rw [getD_set_ne true hne]
  exact h t ht
theorem early_less {l : Array Bool} {j : Nat} (h : Early T (l.setIfInBounds j true)) (hj : j ∉ T) : Early T l := fun t ht => by
  have hne : j ≠ t := fun e => hj (e ▸ ht)
  rw [← getD_set_ne true hne]
  exact h t ht
theorem early_back {l : Array Bool} {i j : Nat} (h : Early T (l.setIfInBounds j true)) (hi : i ∉ T) : Early T ((l.setIfInBounds i true).setIfInBounds j true) := fun t ht => by
  have hne : i ≠ t := fun e => hi (e ▸ ht)
  by_cases e : j = t
  · have h1 := h t ht
    subst e
    by_cases hl : j < l.size
    · simp [hl] at h1
    · simp [hl] at h1
  · rw [getD_set_ne true e, getD_set_ne true hne]
    rw [← getD_set_ne true e]
    exact h t ht
/-- What reads what holds throughout may be taken first. -/
theorem anyR_first {i : Nat} {oi : Oper} {v : Value} (hi : ops[i]? = some oi) (hsel : ∀ (j : Nat) (o : Oper) cs b, ops[j]? = some o → o.op ≠ .select cs b)
    (hQ : ∀ c a w, Q (.panic c) (a.put oi.dst v) w → Q (.panic c) a w) (hiT : i ∉ T) :
    ∀ (f : Nat) (l : Array Bool) (a : Act) (w : World),
      (∀ j oj, ops[j]? = some oj → j ≠ i → l.getD j true = false → (∀ e ∈ oj.after, Region.binds md e = true → e.on ≠ i) → oi.apart ops oj = true) →
      i ∈ Region.ready md ops l → YieldsIf P ops R oi v a → R w → (Early T l → S w) → AnyT P md ops Q R S T f (l.setIfInBounds i true) (a.put oi.dst v) w → AnyT P md ops Q R S T (f + 1) l a w
  | 0, l, a, w, _, hr, hy, hR, hS, H => ⟨fun e => (by rw [e] at hr; cases hr), fun j hj => by
      by_cases e : j = i
      · subst e
        exact hy.wpOp hi hR ⟨⟨hR, fun h => hS (early_less h hiT)⟩, H⟩
      · have h0 := ready_mono hj e
        rw [H.1] at h0
        cases h0⟩
  | f + 1, l, a, w, hfr, hr, hy, hR, hS, H => ⟨fun e => (by rw [e] at hr; cases hr), fun j hj => by
      by_cases e : j = i
      · subst e
        exact hy.wpOp hi hR ⟨⟨hR, fun h => hS (early_less h hiT)⟩, H⟩
      · obtain ⟨hjl, oj, hoj, hall⟩ := mem_ready.1 hj
        have hil := (mem_ready.1 hr).1
        have hno : ∀ e ∈ oj.after, Region.binds md e = true → e.on ≠ i := fun e he hb heq => by
          have h1 := hall e he hb
          rw [heq] at h1
          rcases Nat.lt_or_ge i l.size with hlt | hge
          · simp [hlt] at hil h1
            rw [hil] at h1
            cases h1
          · simp [Array.getElem?_eq_none hge] at hil
        have hput := wpOp_putIf hoj (hfr j oj hoj e hjl hno) (fun cs b => hsel i oi cs b hi) (fun cs b => hsel j oj cs b hoj) hQ hy (H.2 j (ready_mono hj e))
        refine wpOp_mono (fun a' w' k => ?_) hput
        obtain ⟨k1, ⟨k2, k4⟩, k3⟩ := k
        have hS' : Early T (l.setIfInBounds j true) → S w' := fun h => k4 (early_back h hiT)
        refine ⟨⟨k2, hS'⟩, anyR_first hi hsel hQ hiT f (l.setIfInBounds j true) a' w' (fun k ok hk hki hun hno' => hfr k ok hk hki ?_ hno') (ready_mono hr (Ne.symm e)) k1 k2 hS' ?_⟩
        · by_cases hjk : j = k
          · subst hjk; exact hjl
          · rw [getD_set_ne true hjk] at hun; exact hun
        · rw [Array.setIfInBounds_comm _ _ e]
          exact k3⟩
/-- What reads what holds ahead of T may be taken first, if each of T waits for it. -/
theorem anyT_first {i : Nat} {oi : Oper} {v : Value} (hi : ops[i]? = some oi) (hsel : ∀ (j : Nat) (o : Oper) cs b, ops[j]? = some o → o.op ≠ .select cs b)
    (hQ : ∀ c a w, Q (.panic c) (a.put oi.dst v) w → Q (.panic c) a w) (hT : ∀ t ∈ T, ∀ ot, ops[t]? = some ot → ∃ e ∈ ot.after, Region.binds md e = true ∧ e.on = i) (hiT : i ∉ T) :
    ∀ (f : Nat) (l : Array Bool) (a : Act) (w : World),
      (∀ j oj, ops[j]? = some oj → j ≠ i → l.getD j true = false → (∀ e ∈ oj.after, Region.binds md e = true → e.on ≠ i) → oi.apart ops oj = true) →
      i ∈ Region.ready md ops l → YieldsIf P ops S oi v a → R w → S w → Early T l → AnyT P md ops Q R S T f (l.setIfInBounds i true) (a.put oi.dst v) w → AnyT P md ops Q R S T (f + 1) l a w
  | 0, l, a, w, _, hr, hy, hR, hS, hE, H => ⟨fun e => (by rw [e] at hr; cases hr), fun j hj => by
      by_cases e : j = i
      · subst e
        exact hy.wpOp hi hS ⟨⟨hR, fun _ => hS⟩, H⟩
      · have h0 := ready_mono hj e
        rw [H.1] at h0
        cases h0⟩
  | f + 1, l, a, w, hfr, hr, hy, hR, hS, hE, H => ⟨fun e => (by rw [e] at hr; cases hr), fun j hj => by
      by_cases e : j = i
      · subst e
        exact hy.wpOp hi hS ⟨⟨hR, fun _ => hS⟩, H⟩
      · obtain ⟨hjl, oj, hoj, hall⟩ := mem_ready.1 hj
        have hil := (mem_ready.1 hr).1
        have hno : ∀ e ∈ oj.after, Region.binds md e = true → e.on ≠ i := fun e he hb heq => by
          have h1 := hall e he hb
          rw [heq] at h1
          rcases Nat.lt_or_ge i l.size with hlt | hge
          · simp [hlt] at hil h1
            rw [hil] at h1
            cases h1
          · simp [Array.getElem?_eq_none hge] at hil
        have hjT : j ∉ T := fun ht => by
          obtain ⟨e, he, hb, heq⟩ := hT j ht oj hoj
          exact hno e he hb heq
        have hput := wpOp_putIf hoj (hfr j oj hoj e hjl hno) (fun cs b => hsel i oi cs b hi) (fun cs b => hsel j oj cs b hoj) hQ hy (H.2 j (ready_mono hj e))
        refine wpOp_mono (fun a' w' k => ?_) hput
        obtain ⟨k1, ⟨k2, k4⟩, k3⟩ := k
        have hE' : Early T (l.setIfInBounds j true) := early_set hE hjT
        have hS' : S w' := k4 (early_back hE' hiT)
        refine ⟨⟨k2, fun _ => hS'⟩, anyT_first hi hsel hQ hT hiT f (l.setIfInBounds j true) a' w' (fun k ok hk hki hun hno' => hfr k ok hk hki ?_ hno') (ready_mono hr (Ne.symm e)) k1 k2 hS' hE' ?_⟩
        · by_cases hjk : j = k
          · subst hjk; exact hjl
          · rw [getD_set_ne true hjk] at hun; exact hun
        · rw [Array.setIfInBounds_comm _ _ e]
          exact k3⟩
/-- Take number i first: it reads what holds throughout. -/
theorem anyR_take {i : Nat} {oi : Oper} {v : Value} {f : Nat} {l : Array Bool} {a : Act} {w : World} (hi : ops[i]? = some oi) (hs : Region.noSelect ops = true) (hf : Region.free md ops l i = true) (hr : (Region.ready md ops l).contains i = true)
    (hQ : ∀ c a w, Q (.panic c) (a.put oi.dst v) w → Q (.panic c) a w) (hiT : i ∉ T)
    (hy : YieldsIf P ops R oi v a) (hR : R w) (hS : Early T l → S w) (h : AnyT P md ops Q R S T f (l.setIfInBounds i true) (a.put oi.dst v) w) : AnyT P md ops Q R S T (f + 1) l a w :=
  anyR_first hi (Region.noSelect_spec hs) hQ hiT f l a w (Region.free_spec hi hf) (by simpa using hr) hy hR hS h
/-- .. what holds ahead of T. -/
theorem anyT_take {i : Nat} {oi : Oper} {v : Value} {f : Nat} {l : Array Bool} {a : Act} {w : World} (hi : ops[i]? = some oi) (hs : Region.noSelect ops = true) (hf : Region.free md ops l i = true) (hr : (Region.ready md ops l).contains i = true)
    (hQ : ∀ c a w, Q (.panic c) (a.put oi.dst v) w → Q (.panic c) a w) (hT : (T.all fun t => match ops[t]? with | some ot => ot.after.any fun e => Region.binds md e && e.on == i | none => true) = true) (hiT : i ∉ T) (hE : (T.all fun t => !(l.getD t true)) = true)
    (hy : YieldsIf P ops S oi v a) (hR : R w) (hS : S w) (h : AnyT P md ops Q R S T f (l.setIfInBounds i true) (a.put oi.dst v) w) : AnyT P md ops Q R S T (f + 1) l a w := by
  refine anyT_first hi (Region.noSelect_spec hs) hQ (fun t ht ot hot => ?_) hiT f l a w (Region.free_spec hi hf) (by simpa using hr) hy hR hS (fun t ht => by simpa using List.all_eq_true.1 hE t ht) h
  have h1 := List.all_eq_true.1 hT t ht
  rw [hot] at h1
  simp only at h1
  obtain ⟨e, he, hb⟩ := Array.any_eq_true'.1 h1
  simp only [Bool.and_eq_true, beq_iff_eq] at hb
  exact ⟨e, he, hb.1, hb.2⟩
/-- Whichever comes up. -/
theorem anyT_all {rs : List Nat} {f : Nat} {l : Array Bool} {a : Act} {w : World} (hr : Region.ready md ops l = rs) (hne : rs ≠ [])
    (h : ∀ i ∈ rs, wpOp P ops Q i (fun a' w' => (R w' ∧ (Early T (l.setIfInBounds i true) → S w')) ∧ AnyT P md ops Q R S T f (l.setIfInBounds i true) a' w') a w) : AnyT P md ops Q R S T (f + 1) l a w := ⟨fun e => absurd (hr ▸ e) hne, hr ▸ h⟩
/-- One of them, as a step. -/
theorem anyT_step {i f : Nat} {o : Oper} {l : Array Bool} {a : Act} {w : World} (ho : ops[i]? = some o)
    (h : ∀ K' : Act → World → Prop, Hid (∀ a w, R w → (Early T (l.setIfInBounds i true) → S w) → AnyT P md ops Q R S T f (l.setIfInBounds i true) a w → K' a w) → if Region.wanted o (yielded ops a.tmps) = true then Oper.wp P o a w K' Q else K' (a.put o.dst undef) w) :
    wpOp P ops Q i (fun a' w' => (R w' ∧ (Early T (l.setIfInBounds i true) → S w')) ∧ AnyT P md ops Q R S T f (l.setIfInBounds i true) a' w') a w := wpOp_step ho fun K' hK => h K' (Lib.hid fun a w hR hS hW => hK a w ⟨⟨hR, hS⟩, hW⟩)
theorem all_one {p : Nat → Prop} {i : Nat} (h : p i) : ∀ j ∈ [i], p j := fun j hj => by
  rw [List.mem_singleton] at hj
  subst hj
  exact h
theorem all_two {p : Nat → Prop} {i k : Nat} (h : p i) (h' : p k) : ∀ j ∈ [i, k], p j := fun j hj => by
  simp at hj
  rcases hj with rfl | rfl
  · exact h
  · exact h'
theorem anyT_done {l : Array Bool} {a : Act} {w : World} (hr : Region.ready md ops l = []) (h : Q .normal a w) : ∀ f, AnyT P md ops Q R S T f l a w
  | 0 => ⟨hr, h⟩
  | _ + 1 => ⟨fun _ => h, by rw [hr]; simp⟩
theorem anyT_begin {id : Nat} {a : Act} {w : World} (hm : P.follows .mixedOrders = true) (h : AnyT P .any ops Q R S T ops.size (Array.replicate ops.size false) a w.drew) : (Code.region id ops true).wp P Q a w := wp_region_any hm (anyT_wpAny _ _ _ _ h)
theorem early_not {l : Array Bool} {t : Nat} {p : Prop} (ht : t ∈ T) (hl : l.getD t true = true) : Early T l → p := fun h => by
  have := h t ht
  rw [hl] at this
  cases this
end
theorem own_new {B B' : Nat} {vN vO v1 : Value} (hne : ∀ b, vN.ownBlock = some b → vO.ownBlock = some b → False) (hlt : ∀ b, vO.ownBlock = some b → b < B) (ho : v1.ownBlock = vN.ownBlock ∨ v1.ownBlock = some B') (hB : B ≤ B') :
    (∀ b, v1.ownBlock = some b → vO.ownBlock = some b → False) ∧ ∀ b, v1.ownBlock = some b → vN.ownBlock = some b ∨ B ≤ b := by
  refine ⟨fun b e e' => ?_, fun b e => ?_⟩
  · rcases ho with h | h
    · exact hne b (h.symm.trans e) e'
    · have : b = B' := by rw [h] at e; injection e with e; exact e.symm
      have := hlt b e'
      omega
  · rcases ho with h | h
    · exact .inl (h.symm.trans e)
    · have : b = B' := by rw [h] at e; injection e with e; exact e.symm
      exact .inr (by omega)
end Go.Proofs.Ytnkopcmkanibhaa

/-
  The document's own Places. Contracts for other texts; no statement of its own.
-/
namespace Go.Proofs.Ytnkopcmkanibhaa
open Go Go.RowKit
attribute [local go_sem ↓] Go.wp_at_zero Go.wp_at_succ

mutual
/-- How many places a pattern has, up to 1000. -/
def plN : T → Nat
  | .mk op p lo hi l => min (((if op = 1 then 1 else 0) + plSum l) * (if op = 4 then hi.toNat else 1)) 1000
def plSum : List T → Nat
  | [] => 0
  | t :: ts => plN t + plSum ts
end
theorem plN_le (t : T) : plN t ≤ 1000 := by cases t; unfold plN; omega
theorem plSum_app : ∀ (l l' : List T), plSum (l ++ l') = plSum l + plSum l'
  | [], l' => by simp [plSum]
  | t :: ts, l' => by simp [plSum, plSum_app ts l']; omega
theorem plSum_take (l : List T) (j : Nat) (h : j < l.length) : plSum (l.take (j + 1)) = plSum (l.take j) + plN (l[j]'h) := by
  rw [List.take_succ_eq_append_getElem h, plSum_app]
  simp [plSum]
theorem plSum_le : ∀ (l : List T), plSum l ≤ 1000 * l.length
  | [] => by simp [plSum]
  | t :: ts => by
    have := plSum_le ts
    have := plN_le t
    simp [plSum]
    omega

/-- A node as an argument. -/
def nodeP (t : T) (k : Value) : Value := .agg #[.int .i64 t.op, .int .u64 (word t.set 0), .int .u64 (word t.set 1), .int .u64 (word t.set 2), .int .u64 (word t.set 3), .int .i64 t.lo, .int .i64 t.hi, k]
theorem WF.op_cases {t : T} (h : WF t) : (t.op = 1 ∧ t.kids = [] ∧ t.lo = 0 ∧ t.hi = 0) ∨ (t.op = 2 ∧ 2 ≤ t.kids.length ∧ t.kids.length ≤ 202 ∧ t.lo = 0 ∧ t.hi = 0) ∨ (t.op = 3 ∧ 2 ≤ t.kids.length ∧ t.kids.length ≤ 202 ∧ t.lo = 0 ∧ t.hi = 0) ∨
    (t.op = 4 ∧ t.kids.length = 1 ∧ 0 ≤ t.lo ∧ t.lo ≤ t.hi ∧ 1 ≤ t.hi ∧ t.hi ≤ 32) := by
  cases h with
  | one p => exact .inl ⟨rfl, rfl, rfl, rfl⟩
  | cat l h2 hN h => exact .inr (.inl ⟨rfl, h2, hN, rfl, rfl⟩)
  | alt l h2 hN h => exact .inr (.inr (.inl ⟨rfl, h2, hN, rfl, rfl⟩))
  | rep m n t h0 h1 h2 h3 h => exact .inr (.inr (.inr ⟨rfl, rfl, h0, h1, h2, h3⟩))
theorem WF.len {t : T} (h : WF t) : t.kids.length ≤ 202 := by
  rcases h.op_cases with h | h | h | h
  · rw [h.2.1]; decide
  · exact h.2.2.1
  · exact h.2.2.1
  · rw [h.2.1]; decide
theorem WF.kid {t : T} (h : WF t) {u : T} (hu : u ∈ t.kids) : WF u := by
  cases h with
  | one p => simp [T.kids] at hu
  | cat l h2 hN h => exact h u hu
  | alt l h2 hN h => exact h u hu
  | rep m n t h0 h1 h2 h3 h => simp [T.kids] at hu; rw [hu]; exact h
theorem WF.at {t : T} (h : WF t) (j : Nat) (hj : j < t.kids.length) : WF (t.kids[j]'hj) := h.kid (List.getElem_mem hj)

def RetInt (w : World) (n : Int) (e : Ending) (w' : World) : Prop := e = .returned (.int .i64 n) ∧ Below w.heap.size w w'
set_option maxRecDepth 20000 in
set_option maxHeartbeats 2000000 in
theorem places_n : ∀ (N : Nat) (t : T) (w : World) (ok : Nat → Prop) (k : Value), SizeOf.sizeOf t ≤ N → WF t → Tree w ok t k →
    Calls Try.prog 54 #[nodeP t k] w (RetInt w (plN t)) := by
  intro N
  induction N with
  | zero => intro t w ok k h; obtain ⟨op, p, lo, hi, l⟩ := t; simp at h
  | succ N ih =>
  intro t w ok k hN hwf ht
  obtain ⟨A, n', c, rfl⟩ := ht.form
  obtain ⟨hn, hm⟩ := ht.bound
  have hlen := hwf.len
  rw [← hn] at hlen
  unfold maxLen at hm
  have hop := hwf.op_cases
  have b1 := Box8.new w t (.slice A n' c)
  have hB : Below w.heap.size w (w.alloc (.cells #[.int .i64 t.op, .int .u64 (word t.set 0), .int .u64 (word t.set 1), .int .u64 (word t.set 2), .int .u64 (word t.set 3), .int .i64 t.lo, .int .i64 t.hi, .slice A n' c] 75)) := (Below.refl _ _).alloc (Nat.le_refl _) _
  have hpl : plN t = min (((if t.op = 1 then 1 else 0) + plSum t.kids) * (if t.op = 4 then t.hi.toNat else 1)) 1000 := by cases t; rfl
  have hsum := plSum_le t.kids
  have HPL := Lib.hid hpl
  have HSUM := Lib.hid hsum
  have HWF := Lib.hid hwf
  have HOP := Lib.hid hop
  have HN := Lib.hid hn
  have HT := Lib.hid ht
  have IH := Lib.hid ih
  have HB1 := Lib.hid b1
  have HM := Lib.hid hm
  clear hn ih hpl hsum hwf hop
  unfold nodeP
  cases hb1 : (t.op == 1)
  all_goals
    cases hb4 : (t.op == 4)
    all_goals
      go_enter Try.func54, Try.ntmps54
      go_wp2
      go_loopg [3, 4] n' (fun m k i wr => ∃ j : Nat, i = .int .i64 (j : Int) ∧ j ≤ n' ∧ m = n' - j ∧ k = .int .i64 (((if t.op = 1 then 1 else 0) + plSum (t.kids.take j) : Nat) : Int) ∧ Box8 wr w.heap.size t (.slice A n' c) ∧ Below w.heap.size w wr)
      case atStart => exact ⟨0, rfl, Nat.zero_le _, rfl, by first | (rw [if_pos (by simpa using hb1)]; rfl) | (rw [if_neg (by simpa using hb1)]; rfl), HB1.out, hB⟩
      case round =>
        obtain ⟨j, rfl, hj, hmj, rfl, x1, hW⟩ := hrel
        have HMJ := Lib.hid hmj
        obtain ⟨c0, c1, c2, c3, c4, c5, c6, c7⟩ := x1.cell
        clear b1 hmj
        by_cases hlt : j < n'
        · have hlt' : j < t.kids.length := by rw [← HN.out]; exact hlt
          obtain ⟨g, B, m1, m2, e1, hg1, htk, hcells⟩ := kid8 HT.out j (List.getElem?_eq_getElem hlt')
          subst e1
          have hks := kid_size t j hlt'
          have hwk := HWF.out.at j hlt'
          have hst := plSum_take t.kids j hlt'
          have hsl := plSum_le (t.kids.take j)
          rw [List.length_take] at hsl
          have hpu := plN_le (t.kids[j]'hlt')
          generalize t.kids[j] = u at *
          have HC : ∀ q v, (nodeC u (.slice B m1 m2))[q]? = some v → wr.cell? ⟨g, j * 8 + q, none⟩ = some v := fun q v h => by rw [Nat.mul_comm j 8]; exact (hW.cell (p := ⟨g, 8 * j + q, none⟩) hg1).trans (hcells q v h)
          have k0 : wr.cell? ⟨g, j * 8, none⟩ = _ := HC 0 _ rfl
          have k1 := HC 1 _ rfl
          have k2 := HC 2 _ rfl
          have k3 := HC 3 _ rfl
          have k4 := HC 4 _ rfl
          have k5 := HC 5 _ rfl
          have k6 := HC 6 _ rfl
          have k7 := HC 7 _ rfl
          have HK := Lib.hid (fun w' (hb : Below wr.heap.size wr w') => IH.out u w' ok (.slice B m1 m2) (by omega) hwk ((htk.stays hW).stays hb))
          have HST := Lib.hid hst
          clear HC hcells htk hks hwk hst
          unfold nodeP RetInt at HK
          have ha : ((if t.op = 1 then 1 else 0 : Nat)) ≤ 1 := by split <;> omega
          generalize hS : (if t.op = 1 then 1 else 0 : Nat) = a0 at *
          generalize plSum (t.kids.take j) = S at *
          have hS2 : S ≤ 202000 := by omega
          clear hS
          go_wp2_with (go_at_call 54; (with_reducible refine (HK.out _ (Below.refl _ _)).mono ?_); rintro e w5 ⟨rfl, hb5⟩)
          go_roundg (n' - (j + 1))
          case measure => have := HMJ.out; omega
          case rel => exact ⟨j + 1, by go_num, by omega, rfl, by rw [HST.out]; go_num, x1.stays hb5, gro hW hb5⟩
        · have hjn : j = t.kids.length := by rw [← HN.out]; omega
          have hwhole : t.kids.take j = t.kids := by rw [hjn]; exact List.take_length
          rw [hwhole]
          have hS2 := HSUM.out
          have ha : ((if t.op = 1 then 1 else 0 : Nat)) ≤ 1 := by split <;> omega
          have hpl' := HPL.out
          rw [show t.kids.length = n' from HN.out.symm] at hS2
          generalize hS : (if t.op = 1 then 1 else 0 : Nat) = a0 at *
          generalize plSum t.kids = S at *
          by_cases h4 : t.op = 4
          · first
              | (exfalso; simp [h4] at hb4; done)
              | skip
            all_goals
              rw [if_pos h4] at hpl'
              have hh := HOP.out
              have hh2 : 1 ≤ t.hi ∧ t.hi ≤ 32 := by omega
              obtain ⟨hi0, hi1⟩ := hh2
              obtain ⟨hN, hNe⟩ : ∃ hN : Nat, t.hi = hN := ⟨t.hi.toNat, by omega⟩
              have hpr : (a0 + S) * hN ≤ 202001 * 32 := Nat.mul_le_mul (by omega) (by omega)
              rw [hNe, Int.toNat_natCast] at hpl'
              have hprod : ((a0 : Int) + (S : Int)) * (hN : Int) = (((a0 + S) * hN : Nat) : Int) := by simp
              generalize (a0 + S) * hN = Pr at hpl' hpr hprod
              have HPL2 := Lib.hid hpl'
              have HPR := Lib.hid hprod
              rw [hNe] at c6
              have p0 : (0 : Int) ≤ ((a0 : Int) + (S : Int)) * (hN : Int) := by rw [hprod]; omega
              have p1 : ((a0 : Int) + (S : Int)) * (hN : Int) ≤ 9223372036854775807 := by rw [hprod]; omega
              clear hpl' hNe hh h4 hS hprod hi0 hi1
              go_wp2
              all_goals
                go_ret
                refine ⟨congrArg Ending.returned (congrArg (Value.int .i64) ?_), hW⟩
                have e1 := HPL2.out
                have e2 := HPR.out
                rw [e1]
                omega
          · first
              | (exfalso; simp at hb4; exact h4 hb4)
              | skip
            all_goals
              rw [if_neg h4, Nat.mul_one] at hpl'
              have HPL2 := Lib.hid hpl'
              clear hpl' h4 hS
              go_wp2
              all_goals
                go_ret
                refine ⟨congrArg Ending.returned (congrArg (Value.int .i64) ?_), hW⟩
                rw [HPL2.out]
                omega

theorem places_p {t : T} {k : Value} {ok : Nat → Prop} (w : World) (hwf : WF t) (ht : Tree w ok t k) : Calls Try.prog 54 #[nodeP t k] w (RetInt w (plN t)) :=
  places_n _ t w ok k (Nat.le_refl _) hwf ht

end Go.Proofs.Ytnkopcmkanibhaa

/-
  The document's own reader of patterns: item, whole: what it does, as a function of the reader's state. Contracts for other texts; no statement of its own.
-/
namespace Go.Proofs.Ytnkopcmkanibhaa
open Go Go.RowKit
attribute [local go_sem ↓] Go.wp_at_zero Go.wp_at_succ

/-- Is a backslash next, with a byte behind it? -/
def St.escHere (s : ByteArray) (st : St) : Bool := st.peek s == 92 && decide (st.pos + 1 < s.size)

set_option maxRecDepth 20000 in
set_option maxHeartbeats 4000000 in
theorem item_rest (w : World) (g : Nat) (s : ByteArray) (st : St) (h : Rdr w g s st) (hs : s.size ≤ 1000) (hpos : st.pos ≤ s.size) (hw : st.wideHere s = false) :
    Calls Try.prog 97 #[.pointer (some ⟨g, 0, none⟩)] w fun e w' => e = .returned (setV (st.item s).1) ∧ Rdr w' g s (st.item s).2 ∧ w.grownBy w' (some g) := by
  have b0 := Box4.new0 w
  have r0 := h.alloc (.cells #[.int .u64 0, .int .u64 0, .int .u64 0, .int .u64 0] 72)
  have hO : w.grownBy (w.alloc (.cells #[.int .u64 0, .int .u64 0, .int .u64 0, .int .u64 0] 72)) (some g) := only_alloc (only_refl _ _) _
  have hgw := h.lt
  generalize hw0 : w.alloc (.cells #[.int .u64 0, .int .u64 0, .int .u64 0, .int .u64 0] 72) = w0 at *
  have HW := Lib.hid hw0
  have HH := Lib.hid hw
  clear hw0 hw
  go_enter Try.func97, Try.ntmps97
  go_wp2_with fail
  rw [HW.out]
  clear HW
  go_cut [22] (fun s22 wx => s22 = .bool (st.escHere s) ∧ Rdr wx g s st ∧ Box4 wx w.heap.size noneP ∧ w.grownBy wx (some g))
  case first =>
    obtain ⟨c0, c1, c2, c3, c4⟩ := r0.cell
    by_cases hp : st.peek s = 92
    · have HP := Lib.hid hp
      by_cases hlt : st.pos + 1 < s.size
      · have HS : Hid (st.escHere s = true) := by show St.escHere s st = true; unfold St.escHere; simp [hp, hlt]
        clear hp
        have k0 : (0 : Int) ≤ (st.pos : Int) + 1 := by omega
        have k1 : (st.pos : Int) + 1 < (s.size : Int) := by omega
        have k2 : IntKind.i64.wrap ((st.pos : Int) + 1) = (st.pos : Int) + 1 := IntWalk.i64_in _ (by omega)
        have k3 : ((st.pos : Int) + 1).toNat = st.pos + 1 := by omega
        have hd : decide ((st.pos : Int) + 1 < (s.size : Int)) = true := by simp; omega
        go_quiet ((go_at_call 83; exact Calls.quiet_of (quiet_peek _ g s st (by first | exact r0 | exact r0.drewN _) hs 92 HP.out)))
        go_wp2_with fail
        go_meet
        exact ⟨by rw [HS.out], r0.drewN _, b0, only_drewN hO _⟩
      · have HS : Hid (st.escHere s = false) := by show St.escHere s st = false; unfold St.escHere; simp [hlt]
        clear hp
        have k2 : IntKind.i64.wrap ((st.pos : Int) + 1) = (st.pos : Int) + 1 := IntWalk.i64_in _ (by omega)
        have hd : decide ((st.pos : Int) + 1 < (s.size : Int)) = false := by simp; omega
        go_quiet ((go_at_call 83; exact Calls.quiet_of (quiet_peek _ g s st (by first | exact r0 | exact r0.drewN _) hs 92 HP.out)))
        go_wp2_with fail
        go_meet
        exact ⟨by rw [HS.out], r0.drewN _, b0, only_drewN hO _⟩
    · have hp' : (st.peek s == 92) = false := by simp [hp]
      have HS : Hid (st.escHere s = false) := by show St.escHere s st = false; unfold St.escHere; simp [hp]
      clear hp
      go_quiet ((go_at_call 83; exact Calls.quiet_of (quiet_peek _ g s st (by first | exact r0 | exact r0.drewN _) hs _ rfl)))
      go_wp2_with fail
      go_meet
      exact ⟨by rw [HS.out], r0.drewN _, b0, only_drewN hO _⟩
  case rest =>
  clear r0 b0 hO
  obtain ⟨hs22, r0, b0, hO⟩ := hcut
  generalize wc = w1 at *
  go_upto_if 22 with fail
  go_cut [] (fun wx => Rdr wx g s st ∧ Box4 wx w.heap.size noneP ∧ w.grownBy wx (some g))
  case first =>
    cases hesc : st.escHere s
    · rw [hesc] at hs22
      subst hs22
      go_wp2_with fail
      go_meet
      exact ⟨r0, b0, hO⟩
    · rw [hesc] at hs22
      subst hs22
      have he2 := hesc
      unfold St.escHere at he2
      simp only [Bool.and_eq_true, beq_iff_eq, decide_eq_true_eq] at he2
      obtain ⟨hp, hlt⟩ := he2
      have hwd : isWide (bt s (st.pos + 1) : Int) = false := by
        have := HH.out
        unfold St.wideHere at this
        simpa [hp, hlt] using this
      clear hp hesc
      have hbe := bt_eq s (st.pos + 1) hlt
      have k0 : (0 : Int) ≤ (st.pos : Int) + 1 := by omega
      have k1 : (st.pos : Int) + 1 < (s.size : Int) := by omega
      have k2 : IntKind.i64.wrap ((st.pos : Int) + 1) = (st.pos : Int) + 1 := IntWalk.i64_in _ (by omega)
      have k3 : ((st.pos : Int) + 1).toNat = st.pos + 1 := by omega
      go_wp2_with fail
      obtain ⟨c0, c1, c2, c3, c4⟩ := r0.cell
      have k4 : IntKind.i64.wrap (((s[st.pos + 1]'hlt).toNat : Nat) : Int) = (bt s (st.pos + 1) : Int) := by
        have := UInt8.toNat_lt (s[st.pos + 1]'hlt)
        rw [hbe, IntWalk.i64_in _ (by omega)]
      have hgw1 : g < w1.heap.size := r0.lt
      clear hbe
      refine wp_region_noPanic ?_
      first | go_region_held (fun w' => w'.cell? ⟨g, 0, none⟩ = some (.string s) ∧ w'.cell? ⟨g, 1, none⟩ = some (.int .i64 (st.pos : Int)))
        (first | exact ⟨c0, c1⟩ | (go_split_ands; refine ⟨?_, ?_⟩ <;> first | with_reducible assumption | with_reducible exact cell_stays ‹_› ‹_›) | with_reducible exact ⟨(r2.alloc _).cell.1, (r2.alloc _).cell.2.1⟩ | with_reducible exact ⟨(r2.far4 (g' := w1.heap.size) (by omega) _ _ _ _).cell.1, (r2.far4 (g' := w1.heap.size) (by omega) _ _ _ _).cell.2.1⟩ | go_keep)
        (first | (go_at_call 94; (with_reducible refine (wide_p _ _).mono ?_); rintro e w2 ⟨rfl, hb2⟩; unfold setV; have r2 : Rdr w2 g s st := (by first | with_reducible exact r0.drew.stays hb2 | with_reducible exact (r0.drew.alloc _).stays hb2 | with_reducible exact (r0.alloc _).drew.stays hb2); (try (have bx : Box4 w2 w1.heap.size noneP := (by first | with_reducible exact (Box4.new0 w1.drew).stays hb2 | with_reducible exact (Box4.new0 w1).drew.stays hb2); obtain ⟨x0, x1, x2, x3⟩ := bx.cell; obtain ⟨y0, y1, y2, y3⟩ := bx.frozen))))
            | fail
      all_goals try
        have nA : w.heap.size ≠ w1.heap.size := by have := b0.lt; omega
        have gA : g ≠ w1.heap.size := by omega
        have bZ : Box4 (put4 w2 w1.heap.size (wideP (bt s (st.pos + 1) : Int))) w.heap.size noneP := (show Box4 w2 w.heap.size noneP by first | with_reducible exact (b0.drew.alloc _).stays hb2 | with_reducible exact (b0.alloc _).drew.stays hb2).putFar nA _
        have rA := r2.put4 gA (wideP (bt s (st.pos + 1) : Int))
        have oA : w.grownBy (put4 w2 w1.heap.size (wideP (bt s (st.pos + 1) : Int))) (some g) := only_put4 (by first | with_reducible exact only_below (only_alloc (only_drew hO) _) hb2 | with_reducible exact only_below (only_drew (only_alloc hO _)) hb2) hO.size _
        change NoPanic _ _ _ (put4 w2 w1.heap.size (wideP (bt s (st.pos + 1) : Int)))
        generalize put4 w2 w1.heap.size (wideP (bt s (st.pos + 1) : Int)) = w3 at *
      all_goals try
        fail_if_success (have := oA)
        have rA := r2.alloc (.cells #[.int .u64 (word (wideP (bt s (st.pos + 1) : Int)) 0), .int .u64 (word (wideP (bt s (st.pos + 1) : Int)) 1), .int .u64 (word (wideP (bt s (st.pos + 1) : Int)) 2), .int .u64 (word (wideP (bt s (st.pos + 1) : Int)) 3)] 72)
        have bZ := (b0.drew.stays hb2).alloc (.cells #[.int .u64 (word (wideP (bt s (st.pos + 1) : Int)) 0), .int .u64 (word (wideP (bt s (st.pos + 1) : Int)) 1), .int .u64 (word (wideP (bt s (st.pos + 1) : Int)) 2), .int .u64 (word (wideP (bt s (st.pos + 1) : Int)) 3)] 72)
        have oA := only_alloc (only_below (only_drew hO) hb2) (.cells #[.int .u64 (word (wideP (bt s (st.pos + 1) : Int)) 0), .int .u64 (word (wideP (bt s (st.pos + 1) : Int)) 1), .int .u64 (word (wideP (bt s (st.pos + 1) : Int)) 2), .int .u64 (word (wideP (bt s (st.pos + 1) : Int)) 3)] 72)
        generalize w2.alloc (.cells #[.int .u64 (word (wideP (bt s (st.pos + 1) : Int)) 0), .int .u64 (word (wideP (bt s (st.pos + 1) : Int)) 1), .int .u64 (word (wideP (bt s (st.pos + 1) : Int)) 2), .int .u64 (word (wideP (bt s (st.pos + 1) : Int)) 3)] 72) = w3 at *
      all_goals
        refine NoPanic.normal ?_
        clear hb2 r2 b0 r0 hO c0 c1 c2 c3 c4
        go_wp2_with fail
        go_meet
        exact ⟨rA, bZ, oA⟩
  case rest =>
    obtain ⟨r1, b1, hO1⟩ := hcut
    have hm1 := member_pos s st hpos
    have hl1 := member_bd s st
    have HE : Hid (st.item s = if (st.member s).2.peek s = 45 then (rangeP (st.member s).1 (((st.member s).2.step 1).member s).1, if (((st.member s).2.step 1).member s).1 < (st.member s).1 then (((st.member s).2.step 1).member s).2.fail (((((st.member s).2.step 1).member s).2.pos : Int) - 1) 2 else (((st.member s).2.step 1).member s).2) else (rangeP (st.member s).1 (st.member s).1, (st.member s).2)) := by
      show St.item s st = _
      unfold St.item
      rw [if_neg (by rw [HH.out]; simp)]
    have HM := Lib.hid (member_p wc g s st r1 hs hpos)
    generalize hlo : (st.member s).1 = lo at *
    generalize hs1 : (st.member s).2 = st1 at *
    clear hlo hs1 HH
    have hgb : w.heap.size ≠ g := by omega
    by_cases hp : st1.peek s = 45
    · have hp1 := peek_pos s st1 (by omega)
      have hE := HE.out
      rw [if_pos hp] at hE
      clear HE
      have hp' : (st1.peek s == 45) = true := by simp [hp]
      clear hp
      have hm3 := member_pos s (st1.step 1) (show st1.pos + 1 ≤ s.size by omega)
      have hl3 := member_bd s (st1.step 1)
      have HM3 : ∀ w, Rdr w g s (st1.step 1) → Calls Try.prog 101 #[.pointer (some ⟨g, 0, none⟩)] w fun e w' => e = .returned (.int .u8 ((st1.step 1).member s).1) ∧ Rdr w' g s ((st1.step 1).member s).2 ∧ w.grownBy w' (some g) := fun w h => member_p w g s (st1.step 1) h hs (show st1.pos + 1 ≤ s.size by omega)
      have hp2 := hp1.2
      clear hp1
      generalize hhi : ((st1.step 1).member s).1 = hi at *
      generalize hs3 : ((st1.step 1).member s).2 = st3 at *
      clear hhi hs3
      replace HM3 := Lib.hid HM3
      by_cases hlt : hi < lo
      · rw [if_pos hlt] at hE
        have HE := Lib.hid hE
        clear hE
        go_wp2_with (first
          | (go_at_call 101; (with_reducible refine (HM.out).mono ?_); rintro e w2 ⟨rfl, r2, o2⟩; have b2 := b1.grown o2 (by simpa using hgb); obtain ⟨c0, c1, c2, c3, c4⟩ := r2.cell; obtain ⟨f0, f1, f2, f3, f4⟩ := r2.frozen)
          | (go_at_call 83; (with_reducible refine (peek_p _ g s st1 r2 hs).mono ?_); rintro e w3 ⟨rfl, n, rfl⟩; have r3 := ((r2.drewN n).setPos (st1.pos + 1)))
          | (go_at_call 101; refine (HM3.out _ r3).mono ?_; rintro e w4 ⟨rfl, r4, o4⟩; obtain ⟨k0, k1, k2, k3, k4⟩ := r4.cell)
          | (go_at_call 89; (with_reducible refine (fail_p _ g s st3 _ _ r4).mono ?_); rintro e w5 ⟨rfl, r5, o5⟩)
          | (go_at_call 102; (with_reducible refine (rrange_p lo hi _ (by omega) (by omega) (by omega) (by omega)).mono ?_); rintro e w6 ⟨rfl, hb6⟩; unfold setV; have b3 : Box4 ((w2.drewN n).setCell ⟨g, 1, none⟩ (.int .i64 ((st1.pos + 1 : Nat) : Int))) w.heap.size noneP := b2.far hgb _; have b6 := ((b3.grown o4 (by simpa using hgb)).grown o5 (by simpa using hgb)).stays hb6; have r6 := r5.stays hb6; obtain ⟨l0, l1, l2, l3⟩ := b6.cell; obtain ⟨m0, m1, m2, m3⟩ := b6.frozen))
        refine bodyPost_ret (v := setV (rangeP lo hi)) ?_ rfl ⟨by rw [HE.out], ?_, ?_⟩
        · unfold setV
          simp [results, Try.results97, go_sem, l0, l1, l2, l3]
        · rw [HE.out]; exact r6.far4 (Ne.symm hgb) _ _ _ _
        · exact only_setNew (only_setNew (only_setNew (only_setNew (only_below (only_trans (only_trans (only_set (only_drewN (only_trans hO1 o2) n) _) o4) o5) hb6) (Nat.le_refl _) _) (Nat.le_refl _) _) (Nat.le_refl _) _) (Nat.le_refl _) _
      · rw [if_neg hlt] at hE
        have HE := Lib.hid hE
        clear hE
        go_wp2_with (first
          | (go_at_call 101; (with_reducible refine (HM.out).mono ?_); rintro e w2 ⟨rfl, r2, o2⟩; have b2 := b1.grown o2 (by simpa using hgb); obtain ⟨c0, c1, c2, c3, c4⟩ := r2.cell; obtain ⟨f0, f1, f2, f3, f4⟩ := r2.frozen)
          | (go_at_call 83; (with_reducible refine (peek_p _ g s st1 r2 hs).mono ?_); rintro e w3 ⟨rfl, n, rfl⟩; have r3 := ((r2.drewN n).setPos (st1.pos + 1)))
          | (go_at_call 101; refine (HM3.out _ r3).mono ?_; rintro e w4 ⟨rfl, r4, o4⟩; obtain ⟨k0, k1, k2, k3, k4⟩ := r4.cell)
          | (go_at_call 102; (with_reducible refine (rrange_p lo hi _ (by omega) (by omega) (by omega) (by omega)).mono ?_); rintro e w6 ⟨rfl, hb6⟩; unfold setV; have b3 : Box4 ((w2.drewN n).setCell ⟨g, 1, none⟩ (.int .i64 ((st1.pos + 1 : Nat) : Int))) w.heap.size noneP := b2.far hgb _; have b6 := (b3.grown o4 (by simpa using hgb)).stays hb6; have r6 := r4.stays hb6; obtain ⟨l0, l1, l2, l3⟩ := b6.cell; obtain ⟨m0, m1, m2, m3⟩ := b6.frozen))
        refine bodyPost_ret (v := setV (rangeP lo hi)) ?_ rfl ⟨by rw [HE.out], ?_, ?_⟩
        · unfold setV
          simp [results, Try.results97, go_sem, l0, l1, l2, l3]
        · rw [HE.out]; exact r6.far4 (Ne.symm hgb) _ _ _ _
        · exact only_setNew (only_setNew (only_setNew (only_setNew (only_below (only_trans (only_set (only_drewN (only_trans hO1 o2) n) _) o4) hb6) (Nat.le_refl _) _) (Nat.le_refl _) _) (Nat.le_refl _) _) (Nat.le_refl _) _
    · have hE := HE.out
      rw [if_neg hp] at hE
      clear HE
      have HE := Lib.hid hE
      clear hE
      have hp' : (st1.peek s == 45) = false := by simp [hp]
      clear hp
      go_wp2_with (first
          | (go_at_call 101; (with_reducible refine (HM.out).mono ?_); rintro e w2 ⟨rfl, r2, o2⟩; have b2 := b1.grown o2 (by simpa using hgb))
          | (go_at_call 83; (with_reducible refine (peek_p _ g s st1 r2 hs).mono ?_); rintro e w3 ⟨rfl, n, rfl⟩)
          | (go_at_call 102; (with_reducible refine (rrange_p lo lo _ (by omega) (by omega) (by omega) (by omega)).mono ?_); rintro e w4 ⟨rfl, hb4⟩; unfold setV; have b4 := (show Box4 (w2.drewN n) w.heap.size noneP from b2).stays hb4; have r4 := (r2.drewN n).stays hb4; obtain ⟨l0, l1, l2, l3⟩ := b4.cell; obtain ⟨m0, m1, m2, m3⟩ := b4.frozen))
      refine bodyPost_ret (v := setV (rangeP lo lo)) ?_ rfl ⟨by rw [HE.out], ?_, ?_⟩
      · unfold setV
        simp [results, Try.results97, go_sem, l0, l1, l2, l3]
      · rw [HE.out]; exact r4.far4 (Ne.symm hgb) _ _ _ _
      · exact only_setNew (only_setNew (only_setNew (only_setNew (only_below (only_drewN (only_trans hO1 o2) n) hb4) (Nat.le_refl _) _) (Nat.le_refl _) _) (Nat.le_refl _) _) (Nat.le_refl _) _

theorem item_p (w : World) (g : Nat) (s : ByteArray) (st : St) (h : Rdr w g s st) (hs : s.size ≤ 1000) (hpos : st.pos ≤ s.size) :
    Calls Try.prog 97 #[.pointer (some ⟨g, 0, none⟩)] w fun e w' => e = .returned (setV (st.item s).1) ∧ Rdr w' g s (st.item s).2 ∧ w.grownBy w' (some g) := by
  cases hw : st.wideHere s
  · exact item_rest w g s st h hs hpos hw
  · have e : st.item s = (wideP (bt s (st.pos + 1) : Int), st.step 2) := by unfold St.item; rw [if_pos hw]
    rw [e]
    exact item_wide w g s st h hs hw

end Go.Proofs.Ytnkopcmkanibhaa
