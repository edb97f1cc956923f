/-
  Several texts of this proof in one file: LuhRef, RuleRef, RuleRefM, RulesOf, BoolsEq, Law9b. No statement of its own.
-/
import Derived.Test.YtccbeimcggamiaaDoorMk20
import Derived.Test.YtccbeimcggamiaaDoorMk7
import Derived.Lib.Hide
import Derived.Deep.LoopGhost
import Derived.Test.YtccbeimcggamiaaDoorMk5
import Derived.Test.YtccbeimcggamiaaDoorMk12
import Derived.Deep.QuietTactic
import Derived.Test.YtccbeimcggamiaaDoorMk13
import Derived.Test.YtccbeimcggamiaaDoorMk18
import Derived.Test.YtccbeimcggamiaaDoorMk6
import Derived.Deep.DrawnRows
import Derived.Deep.RegionHeld3
set_option linter.unusedVariables false
set_option linter.unusedSimpArgs false

/-
  luhn: the document's own Sum and Ok. Contracts for other texts; no statement of its own.
-/
namespace Go.Proofs.YtccbeimcggamiaaDoor
open Go Go.RowKit

theorem ints_newL (w : World) (B : Nat) (hB : B ≤ w.heap.size) (x : Int) : Ints (w.alloc (.cells #[.int .i64 x] 3)) B (.slice (some ⟨w.heap.size, 0, none⟩) 1 1) [x] :=
  ⟨by simp, .inr ⟨w.heap.size, 1, #[.int .i64 x], rfl, hB, heap_alloc_new w _, Nat.le_refl _, by decide, by simp, rfl⟩⟩
theorem take_snocG (xs : List Int) (k : Nat) (h : k < xs.length) : xs.take (k + 1) = xs.take k ++ [xs.getD k 0] := by
  rw [List.take_succ_eq_append_getElem h]
  simp [h]
theorem digs_take_le (xs : List Int) (k : Nat) : (digs (xs.take k)).length ≤ k := by
  rw [digs_len]
  have := lN_le (xs.take k)
  simp at this
  omega

set_option maxHeartbeats 1000000 in
theorem rsum_p (A : Option Addr) (n cap : Nat) (xs : List Int) (w : World) (hn : n = xs.length) (hr : RdB w w.heap.size A xs) (hxs : ∀ k, k < xs.length → 0 ≤ xs.getD k 0 ∧ xs.getD k 0 ≤ 255) (hm : n ≤ 50000) :
    Calls Tryd.prog 78 #[.slice A n cap] w fun e w' => e = .returned (.tuple #[.int .i64 (lN xs : Nat), .int .i64 (lS xs)]) ∧ Below w.heap.size w w' := by
  have HN := Lib.hid hn
  have HX := Lib.hid hxs
  clear hn hxs
  go_enter Tryd.func78, Tryd.ntmps78
  go_wp2
  go_loopg [4, 5] n (fun m s4 s5 wr => ∃ k : Nat, k ≤ n ∧ m = n - k ∧ s5 = .int .i64 (k : Int) ∧ Ints wr w.heap.size s4 (digs (xs.take k)) ∧ Below w.heap.size w wr)
  case atStart => exact ⟨0, Nat.zero_le _, rfl, rfl, Ints.nil _ _, Below.refl _ _⟩
  case round =>
    obtain ⟨k, hk, hmk, rfl, hI, hnx⟩ := hrel
    have HMK := Lib.hid hmk
    have hs := hnx.size
    have hdl := digs_take_le xs k
    clear hmk
    by_cases hlt : k < n
    · have hkx : k < xs.length := by rw [← HN.out]; exact hlt
      obtain ⟨b, off, rfl, hbB, hc⟩ := hr k hkx
      have hc1 := (hnx.cell (p := ⟨b, off + k, none⟩) hbB).trans hc
      have hx := HX.out k hkx
      have HT := Lib.hid (digs_snoc (xs.take k) (xs.getD k 0))
      have HTK := Lib.hid (take_snocG xs k hkx)
      obtain ⟨v, hv⟩ : ∃ v, v = xs.getD k 0 := ⟨_, rfl⟩
      rw [← hv] at hx hc1 HT HTK
      clear hc hv hkx hr
      cases hd : isDg v
      · have HNo := Lib.hid hd
        rcases isDg_no hd with hlo | hhi
        all_goals
          clear hd
          go_wp2
          go_roundg (n - (k + 1))
          case measure => have := HMK.out; omega
          case rel => exact ⟨k + 1, by omega, rfl, by go_num, by rw [HTK.out, HT.out, if_neg (by rw [HNo.out]; decide)]; exact hI, hnx⟩
      · have HYes := Lib.hid hd
        obtain ⟨h48, h57⟩ := isDg_yes hd
        clear hd
        have hN := ints_newL wr w.heap.size hs (v - 48)
        have hI2 := hI.alloc (.cells #[.int .i64 (v - 48)] 3)
        go_wp2_with (refine wpList_ints (by rfl) _ _ (by rfl) (by rfl) (by rfl) hN hI2 (by simp; omega) (by simp; omega) ?_; intro v' w2 h2 hg hor; go_simp)
        have h3 := hnx.alloc hs (.cells #[.int .i64 (v - 48)] 3)
        have h4 := h3.grown hg (by simp; omega) (fun j e => by cases e; exact hs)
        have H2 := Lib.hid h2
        clear h2 hg hor h3 hN hI hI2 hnx
        go_wp2
        go_roundg (n - (k + 1))
        case measure => have := HMK.out; omega
        case rel => exact ⟨k + 1, by omega, rfl, by go_num, by rw [HTK.out, HT.out, if_pos HYes.out]; exact H2.out, h4⟩
    · have hkn : k = n := by omega
      have ht : xs.take k = xs := by rw [List.take_of_length_le]; have := HN.out; omega
      rw [ht] at hI hdl
      have hdb := digs_bd xs
      have htb := tot_bd (digs xs) hdb
      have hL := digs_len xs
      have hall := tot_all xs
      have HALL := Lib.hid hall
      have HDB := Lib.hid hdb
      have HTB := Lib.hid htb
      obtain ⟨L, hLL⟩ : ∃ L, lN xs = L := ⟨_, rfl⟩
      rw [hLL] at hL HALL
      have hL2 : L ≤ n := by rw [← hL]; omega
      obtain ⟨Av, cv, rfl⟩ := hI.form
      rw [hL] at hI
      have HI := Lib.hid hI
      have HLD := Lib.hid hL
      have HLN := Lib.hid hLL
      rw [hL]
      clear hI hall hdb htb hL hLL hdl ht hlt
      go_wp2
      go_loop [6, 7] (fun s6 s7 => ∃ j : Nat, j ≤ L ∧ s7 = .int .i64 (j : Int) ∧ s6 = .int .i64 (tot (digs xs) j)) (fun _ s7 => L - (intOf s7).toNat)
      case atStart => exact ⟨0, Nat.zero_le _, rfl, rfl⟩
      case round =>
        obtain ⟨j, hj, rfl, rfl⟩ := hrel
        have hb := HTB.out j
        by_cases hjl : j < L
        · have hd := HDB.out j
          obtain ⟨g, c, e, hg1, hg2, hcell⟩ := HI.out.at j (by rw [HLD.out]; exact hjl)
          have hw := wt_bd j _ hd.1 hd.2
          have HS : Hid (tot (digs xs) (j + 1) = tot (digs xs) j + wt j ((digs xs).getD j 0)) := Lib.hid rfl
          have e2 : (digs xs)[j]'(by rw [HLD.out]; exact hjl) = (digs xs).getD j 0 := by simp [HLD.out, hjl]
          rw [e2] at hcell
          clear e2
          injection e with e _ _
          subst e
          obtain ⟨d, hdd⟩ : ∃ d, (digs xs).getD j 0 = d := ⟨_, rfl⟩
          rw [hdd] at hd hcell hw HS
          obtain ⟨T, hT⟩ : ∃ T, tot (digs xs) j = T := ⟨_, rfl⟩
          rw [hT] at HS hb
          rw [hT]
          clear hdd hT
          by_cases hodd : j % 2 = 1
          · have ew : wt j d = if 9 < 2 * d then 2 * d - 9 else 2 * d := by simp [wt, hodd]
            have EW := Lib.hid ew
            have o1 : ((j : Int) % 2 == 1) = true := by simp; omega
            have o2 : ((j : Int) % 2 = 1) := by omega
            clear ew hw hodd
            by_cases h9 : 9 < 2 * d
            · go_wp2
              go_round
              case rel => exact ⟨j + 1, by omega, by go_num, by rw [HS.out, EW.out, if_pos h9]⟩
              case measure => simp [intOf]; omega
            · go_wp2
              go_round
              case rel => exact ⟨j + 1, by omega, by go_num, by rw [HS.out, EW.out, if_neg h9]⟩
              case measure => simp [intOf]; omega
          · have ew : wt j d = d := by simp [wt, hodd]
            have EW := Lib.hid ew
            have o1 : ((j : Int) % 2 == 1) = false := by simp; omega
            have o2 : ¬ ((j : Int) % 2 = 1) := by omega
            clear ew hw hodd
            go_wp2
            go_round
            case rel => exact ⟨j + 1, by omega, by go_num, by rw [HS.out, EW.out]⟩
            case measure => simp [intOf]; omega
        · have : j = L := by omega
          subst this
          go_wp2
          go_ret2
          exact ⟨by rw [HALL.out, ← HLN.out]; rfl, hnx⟩

set_option maxHeartbeats 400000 in
theorem rok_p (A : Option Addr) (n cap : Nat) (xs : List Int) (w : World) (hn : n = xs.length) (hr : RdB w w.heap.size A xs) (hxs : ∀ k, k < xs.length → 0 ≤ xs.getD k 0 ∧ xs.getD k 0 ≤ 255) (hm : n ≤ 50000) :
    Calls Tryd.prog 51 #[.slice A n cap] w fun e w' => e = .returned (.bool (decide (2 ≤ lN xs) && decide (lS xs = 0))) ∧ Below w.heap.size w w' := by
  have H := rsum_p A n cap xs w hn hr hxs hm
  have hl := lN_le xs
  have hb := lS_bd xs
  rw [← hn] at hl
  clear hr hxs hn
  obtain ⟨N, hN⟩ : ∃ N, lN xs = N := ⟨_, rfl⟩
  obtain ⟨S, hS⟩ : ∃ S, lS xs = S := ⟨_, rfl⟩
  rw [hN, hS] at H
  rw [hN] at hl
  rw [hS] at hb
  rw [hN, hS]
  clear hN hS
  by_cases h2 : 2 ≤ N
  · by_cases h0 : S = 0
    · subst h0
      go_enter Tryd.func51, Tryd.ntmps51
      go_wp2_with (go_at_call 78; (with_reducible refine H.mono ?_); rintro e w' ⟨rfl, hb1⟩)
      go_ret
      simp [h2, hb1]
    · have h0' : (S == 0) = false := by simpa using h0
      go_enter Tryd.func51, Tryd.ntmps51
      go_wp2_with (go_at_call 78; (with_reducible refine H.mono ?_); rintro e w' ⟨rfl, hb1⟩)
      go_ret
      simp [h0, hb1]
  · go_enter Tryd.func51, Tryd.ntmps51
    go_wp2_with (go_at_call 78; (with_reducible refine H.mono ?_); rintro e w' ⟨rfl, hb1⟩)
    go_ret
    simp [h2, hb1]
end Go.Proofs.YtccbeimcggamiaaDoor

/-
  The document's own Fits, Cover, Mask. Contracts for other texts; no statement of its own.
-/
namespace Go.Proofs.YtccbeimcggamiaaDoor
open Go Go.RowKit
attribute [local go_sem ↓] Go.wp_at_zero Go.wp_at_succ

def ruleR (r : T × Bool) (k : Value) : Value := .agg #[.int .i64 r.1.op, .int .u64 (word r.1.set 0), .int .u64 (word r.1.set 1), .int .u64 (word r.1.set 2), .int .u64 (word r.1.set 3), .int .i64 r.1.lo, .int .i64 r.1.hi, k, .bool r.2]
set_option maxRecDepth 20000 in
set_option maxHeartbeats 1000000 in
theorem rfits_p {w : World} {c : Nat} {xs : List Int} {A : Option Addr} {r : T × Bool} {k : Value} {ok : Nat → Prop} (hwf : WF r.1) (ht : Tree w ok r.1 k) (hrd : RdB w w.heap.size A xs) (hby : byteOk xs) (hlen : xs.length ≤ 50000) :
    Calls Tryd.prog 20 #[ruleR r k, .slice A xs.length c] w (RetIs w (Fit xs r 0 xs.length)) := by
  have hword := fun (W : World) (hb : Below w.heap.size w W) => word_p (w := W) (c := c) ⟨hwf, ht.stays hb, (hrd.below hb).more hb.size, hby, by omega, Nat.zero_le _⟩
  have hok := fun (W : World) (hb : Below w.heap.size w W) => rok_p A xs.length c xs W rfl ((hrd.below hb).more hb.size) hby hlen
  rw [show (decide (2 ≤ lN xs) && decide (lS xs = 0)) = okV xs from rfl] at hok
  obtain ⟨bw, hbw⟩ : ∃ bw : Bool, (bw = true ↔ E xs r.1 0 xs.length) := by
    by_cases hE : E xs r.1 0 xs.length
    · exact ⟨true, by simp [hE]⟩
    · exact ⟨false, by simp [hE]⟩
  have hword' := fun (W : World) (hb : Below w.heap.size w W) => (hword W hb).mono fun e w' ⟨b, h1, h2, h3⟩ => (show e = Ending.returned (.bool bw) ∧ Below W.heap.size W w' from ⟨by rw [h1, show b = bw from Bool.eq_iff_iff.2 (h2.trans hbw.symm)], h3⟩)
  clear hword
  obtain ⟨A', n', c', rfl⟩ := ht.form
  have hfw := fit_whole xs r
  rw [← hbw] at hfw
  obtain ⟨t, b⟩ := r
  simp only at hword' hwf ht hfw
  obtain ⟨o, ho⟩ : ∃ o, okV xs = o := ⟨_, rfl⟩
  rw [ho] at hok hfw
  unfold nodeP at hword'
  have HH := Lib.hid hword'
  have HO := Lib.hid hok
  have HF := Lib.hid hfw
  unfold ruleR RetIs
  simp only
  clear hword' hok hfw ht hrd hby hwf ho hlen hbw
  obtain ⟨L, hL⟩ : ∃ L, xs.length = L := ⟨_, rfl⟩
  rw [hL] at HH HO HF ⊢
  clear hL
  have hb0 := fun (b : Bool) => (Below.refl w.heap.size w).alloc (Nat.le_refl _) (.cells #[.int .i64 t.op, .int .u64 (word t.set 0), .int .u64 (word t.set 1), .int .u64 (word t.set 2), .int .u64 (word t.set 3), .int .i64 t.lo, .int .i64 t.hi, .slice A' n' c', .bool b] 67)
  have HB0 := Lib.hid (hb0 b)
  have HX0 := Lib.hid (RuleBox.new 67 w (t, b) (.slice A' n' c'))
  clear hb0
  cases b <;> cases bw
  all_goals
    go_enter Tryd.func20, Tryd.ntmps20
    go_wp2_with (first
      | (go_at_call 50; (with_reducible refine (HH.out _ HB0.out).mono ?_); rintro e w6 ⟨rfl, hb⟩; have HB := Lib.hid (gro HB0.out hb); have HX6 := Lib.hid (HX0.out.stays hb); clear hb)
      | (go_at_call 51; (with_reducible refine (HO.out _ HB.out).mono ?_); rintro e w7 ⟨rfl, hb⟩; have HB7 := Lib.hid (gro HB.out hb); obtain ⟨z0, z1, z2, z3, z4, z5, z6, z7, z8⟩ := (HX6.out.stays hb).cell; clear hb)
      | fail)
    go_ret
    exact ⟨_, rfl, by rw [HF.out]; simp, HB7.out⟩

theorem or_no {A B C : Prop} (h : ¬ C) : A ∨ B ↔ A ∨ B ∨ C := ⟨fun x => x.elim .inl fun y => .inr (.inl y), fun x => x.elim .inl fun y => y.elim .inr fun z => absurd z h⟩
theorem cov_cell {L a i : Nat} {F : Nat → Bool} {P : Nat → Prop} {lu o f nb : Bool} (h : ∀ j, j < L → (F j = true ↔ P j ∨ (a ≤ j ∧ j < i ∧ (lu = true → o = true)))) (hf : F i = f) (hnb : nb = (f || (!lu || o))) (ha : a ≤ i) (hi : i < L) :
    ∀ j, j < L → ((if j = i then nb else F j) = true ↔ P j ∨ (a ≤ j ∧ j < i + 1 ∧ (lu = true → o = true))) := fun j hj => by
  by_cases e : j = i
  · subst e
    have h1 := h j hi
    rw [hf] at h1
    rw [if_pos rfl, hnb]
    have h2 : (f = true ↔ P j) := by rw [h1]; constructor
                                     · rintro (h | h)
                                       · exact h
                                       · omega
                                     · exact .inl
    rw [Bool.or_eq_true, h2]
    constructor
    · rintro (h | h)
      · exact .inl h
      · refine .inr ⟨ha, by omega, fun hl => ?_⟩
        subst hl
        simpa using h
    · rintro (h | ⟨_, _, h⟩)
      · exact .inl h
      · right
        cases lu
        · rfl
        · simpa using h rfl
  · rw [if_neg e, h j hj]
    constructor
    · rintro (h | ⟨h1, h2, h3⟩)
      · exact .inl h
      · exact .inr ⟨h1, by omega, h3⟩
    · rintro (h | ⟨h1, h2, h3⟩)
      · exact .inl h
      · exact .inr ⟨h1, by omega, h3⟩
theorem Tryd.infoBoolR : (Tryd.prog.info? 4).map (fun i => (i.zero, i.size, i.bytes)) = some (some (.bool false), 1, 1) := by kernel_rfl
def RetCovR (w : World) (n : Nat) (P : Nat → Prop) (e : Ending) (w' : World) : Prop := ∃ g F, e = .returned (.slice (some ⟨g, 0, none⟩) n n) ∧ Bools w' w.heap.size g n F ∧ (∀ j, j < n → (F j = true ↔ P j)) ∧ Below w.heap.size w w'

set_option maxRecDepth 20000 in
set_option maxHeartbeats 4000000 in
theorem rcover_p {w : World} {A B : Option Addr} {cl cx : Nat} {l : List (T × Bool)} {lam : Int} {xs : List Int} (hl : RdRules w A l) (hwf : ∀ r ∈ l, WF r.1) (hn : l.length ≤ 100000) (hrd : RdB w w.heap.size B xs) (hby : byteOk xs) (hlen : xs.length ≤ 50000) (hcap : xs.length ≤ cx)
    (hlam : -9223372036854775808 ≤ lam ∧ lam ≤ 9223372036854775807) :
    Calls Tryd.prog 23 #[.slice A l.length cl, .int .i64 lam, .slice B xs.length cx] w (RetCovR w xs.length (Cov l lam xs)) := by
  obtain ⟨N, hN⟩ : ∃ N, l.length = N := ⟨_, rfl⟩
  obtain ⟨L, hL⟩ : ∃ L, xs.length = L := ⟨_, rfl⟩
  rw [hN] at hn ⊢
  obtain ⟨i0, hi, hi0, hi1, hi2⟩ := info_parts Tryd.infoBoolR
  obtain ⟨wm, hmk, hown, hgm⟩ := run_make_full (P := Tryd.prog) w w.heap.size 34 4 i0 _ 1 Tryd.underlying34 hi hi0 hi1 .i64 .i64 L (by rw [hi2]; omega) (by unfold maxLen; omega) (Nat.le_refl _)
  rw [bools_made] at hown
  have HO : Hid (Bools wm w.heap.size w.heap.size L fun _ => false) := hown
  have HBM : Hid (Below w.heap.size w wm) := (Below.refl _ _).grown hgm (Nat.le_refl _) fun q e => by cases e
  rw [hL] at hlen hcap ⊢
  have HL := Lib.hid hl
  have HWF := Lib.hid hwf
  have HRD := Lib.hid hrd
  have HBY := Lib.hid hby
  have HNN := Lib.hid hN
  have HLL := Lib.hid hL
  clear hl hwf hrd hby hN hL hown hgm
  go_enter Tryd.func23, Tryd.ntmps23
  go_wp2
  go_loopg [8] N (fun m i wr => ∃ (p : Nat) (F : Nat → Bool), i = .int .i64 (p : Int) ∧ p ≤ N ∧ m = N - p ∧ Bools wr w.heap.size w.heap.size L F ∧ Below w.heap.size w wr ∧ ∀ j, j < L → (F j = true ↔ Cov (l.take p) lam xs j))
  case atStart => exact ⟨0, fun _ => false, by first | rfl | trivial, Nat.zero_le _, by first | rfl | trivial, HO.out, HBM.out, fun j hj => ⟨fun h => (by cases h), fun ⟨r, hr, _⟩ => (by simp at hr)⟩⟩
  case round =>
    obtain ⟨p, F1, rfl, hp, hmk, ho, hb, hF⟩ := hrel
    have HMK1 := Lib.hid hmk
    have HO1 := Lib.hid ho
    have HB1 := Lib.hid hb
    have HF1 := Lib.hid hF
    clear hmk ho hb hF
    generalize wr = wo1 at *
    by_cases hpN : p < N
    · have hpl : p < l.length := by rw [HNN.out]; exact hpN
      obtain ⟨r, hr⟩ : ∃ r, l[p]? = some r := ⟨_, List.getElem?_eq_getElem hpl⟩
      have hrm : r ∈ l := List.mem_of_getElem? hr
      have hwf := HWF.out r hrm
      have hre : l[p]'hpl = r := by have := List.getElem?_eq_getElem hpl; rw [hr] at this; injection this with this; exact this.symm
      obtain ⟨g, off, kk, e1, hg, hc0, ht0⟩ := HL.out p r hr
      obtain ⟨A', n', c', rfl⟩ := ht0.form
      subst e1
      have HC := Lib.hid (fun (W : World) (hb : Below w.heap.size w W) (q : Nat) (u : Value) (hu : (ruleC r (.slice A' n' c'))[q]? = some u) => (hb.cell (p := ⟨g, off + p * 9 + q, none⟩) hg).trans (hc0 q u hu))
      have HT := Lib.hid ht0
      have HW := Lib.hid hwf
      have HRE := Lib.hid hre
      have p0 : (0 : Int) ≤ (p : Int) := by omega
      have p1 : (p : Int) < (N : Int) := by omega
      clear hr hrm hwf hre hc0 ht0
      obtain ⟨P1, hP1⟩ : ∃ P1 : Nat → Prop, P1 = fun j => Cov (l.take p) lam xs j := ⟨_, rfl⟩
      have HP1 := Lib.hid hP1
      have hF1' : ∀ j, j < L → (F1 j = true ↔ P1 j) := fun j hj => by rw [hP1]; exact HF1.out j hj
      have HF1' := Lib.hid hF1'
      clear hP1 hF1'
      go_wp2
      go_loopg [9] L (fun m i wr => ∃ (a : Nat) (F : Nat → Bool), i = .int .i64 (a : Int) ∧ a ≤ L ∧ m = L - a ∧ Bools wr w.heap.size w.heap.size L F ∧ Below w.heap.size w wr ∧ ∀ j, j < L → (F j = true ↔ P1 j ∨ CovA lam xs r a j))
      case atStart => exact ⟨0, F1, by first | rfl | trivial, Nat.zero_le _, by first | rfl | trivial, HO1.out, HB1.out, fun j hj => by rw [HF1'.out j hj]; exact ⟨.inl, fun h => h.elim id fun h => absurd h covA_zero⟩⟩
      case round =>
        obtain ⟨a, F2, rfl, ha, hmk, ho, hb, hF⟩ := hrel
        have HMK2 := Lib.hid hmk
        have HO2 := Lib.hid ho
        have HB2 := Lib.hid hb
        have HF2 := Lib.hid hF
        clear hmk ho hb hF
        generalize wr = wo2 at *
        by_cases haL : a < L
        · have hax : a < xs.length := by rw [HLL.out]; exact haL
          have hends := fun (W : World) (hb : Below w.heap.size w W) => ends_p _ r.1 W _ (.slice A' n' c') xs B a cx (Nat.le_refl _) ⟨HW.out, HT.out.stays hb, (HRD.out.below hb).more hb.size, HBY.out, by rw [HLL.out]; omega, by omega⟩
          unfold RetEnds nodeP at hends
          rw [HLL.out] at hends
          have HEN := Lib.hid hends
          obtain ⟨bx, ox, rfl, hbx, -⟩ := HRD.out a hax
          have x0 : wo2.cell? ⟨g, off + p * 9, none⟩ = some (.int .i64 r.1.op) := HC.out wo2 HB2.out 0 _ rfl
          have x1 := HC.out wo2 HB2.out 1 _ rfl
          have x2 := HC.out wo2 HB2.out 2 _ rfl
          have x3 := HC.out wo2 HB2.out 3 _ rfl
          have x4 := HC.out wo2 HB2.out 4 _ rfl
          have x5 := HC.out wo2 HB2.out 5 _ rfl
          have x6 := HC.out wo2 HB2.out 6 _ rfl
          have x7 := HC.out wo2 HB2.out 7 _ rfl
          have a0 : (0 : Int) ≤ (a : Int) := by omega
          have a1 : (a : Int) < (L : Int) := by omega
          clear hends
          go_wp2_with (go_at_call 54; (with_reducible refine (HEN.out _ HB2.out).mono ?_); rintro e w3 ⟨v3, es, rfl, i3, l3, b3⟩; obtain ⟨A3, c3, hf3⟩ := i3.form; subst hf3; have HI3 := Lib.hid i3; have HL3 := Lib.hid l3; have HB3 := Lib.hid b3; clear i3 l3 b3)
          have hB23 : Below w.heap.size w w3 := gro HB2.out HB3.out
          have hO3 : Bools w3 w.heap.size w.heap.size L F2 := HO2.out.stays HB3.out
          have hes : es.length ≤ L + 1 := HL3.out.len fun j hj => by have := (E_bd HW.out a j (by omega) hj).2; rw [HLL.out] at this; exact this
          have hIB : ∀ b, (Value.slice A3 es.length c3).ownBlock = some b → wo2.heap.size ≤ b ∧ b < w3.heap.size := fun b e => World.ownsRow.lt HI3.out b e
          have HB23 := Lib.hid hB23
          have HO3 := Lib.hid hO3
          have HIB := Lib.hid hIB
          obtain ⟨M, hM⟩ : ∃ M, es.length = M := ⟨_, rfl⟩
          rw [hM] at HI3 HIB hes ⊢
          have HMM := Lib.hid hM
          obtain ⟨P2, hP2⟩ : ∃ P2 : Nat → Prop, P2 = fun j => P1 j ∨ CovA lam xs r a j := ⟨_, rfl⟩
          have HP2 := Lib.hid hP2
          have hF2' : ∀ j, j < L → (F2 j = true ↔ P2 j) := fun j hj => by rw [hP2]; exact HF2.out j hj
          have HF2' := Lib.hid hF2'
          have hwo2 := HO2.out.in
          have hHI : ∀ W, Kept (fun b => b = w.heap.size) w3 W → Ints W wo2.heap.size (.slice A3 M c3) es := fun W hk => HI3.out.off hk fun b e e2 => by have := HIB.out b e; omega
          have HHI := Lib.hid hHI
          clear hP2 hF2' hB23 hO3 hIB hM x0 x1 x2 x3 x4 x5 x6 x7 hHI
          go_loopg [11] M (fun m i wr => ∃ (q : Nat) (F : Nat → Bool), i = .int .i64 (q : Int) ∧ q ≤ M ∧ m = M - q ∧ Bools wr w.heap.size w.heap.size L F ∧ Kept (fun b => b = w.heap.size) w3 wr ∧ ∀ j, j < L → (F j = true ↔ P2 j ∨ CovE lam xs r a (es.take q) j))
          case atStart => exact ⟨0, F2, by first | rfl | trivial, Nat.zero_le _, by first | rfl | trivial, HO3.out, Kept.refl _ _, fun j hj => by rw [HF2'.out j hj]; exact ⟨.inl, fun h => h.elim id fun h => absurd h covE_nil⟩⟩
          case round =>
            obtain ⟨q, F3, rfl, hq, hmk, ho, hk3, hF⟩ := hrel
            have HMK3 := Lib.hid hmk
            have HO3' := Lib.hid ho
            have HK3 := Lib.hid hk3
            have HF3 := Lib.hid hF
            clear hmk ho hk3 hF
            generalize wr = wo3 at *
            by_cases hqM : q < M
            · have hqe : q < es.length := by rw [HMM.out]; exact hqM
              obtain ⟨g1, c1, e1, _, hg1, v1⟩ := (HHI.out wo3 HK3.out).at q hqe
              rw [HMM.out] at e1
              simp only [Value.slice.injEq] at e1
              obtain ⟨rfl, -, rfl⟩ := e1
              obtain ⟨z, hz, hzE⟩ := (HL3.out.2 _).1 (List.getElem_mem hqe)
              have hzb := E_bd HW.out a z (by omega) hzE
              rw [HLL.out] at hzb
              have htk : es.take (q + 1) = es.take q ++ [(z : Int)] := by rw [List.take_succ_eq_append_getElem hqe, hz]
              rw [hz] at v1
              have HTK := Lib.hid htk
              have q0 : (0 : Int) ≤ (q : Int) := by omega
              have q1 : (q : Int) < (M : Int) := by omega
              clear htk hz hzE
              by_cases hskip : z = a ∨ lam < (z : Int) - a
              · have hno : ∀ j, ¬ (a ≤ j ∧ j < z ∧ (z : Int) - a ≤ lam ∧ (r.2 = true → okV (sub xs a z) = true)) := fun j h => by omega
                have HNO := Lib.hid hno
                clear hno
                by_cases hza : z = a
                · subst hza
                  go_wp2
                  go_roundg (M - (q + 1))
                  case measure => have := HMK3.out; omega
                  case rel => exact ⟨q + 1, F3, by go_num, by omega, rfl, HO3'.out, HK3.out, fun j hj => by rw [HF3.out j hj, HTK.out, covE_snoc]; exact or_no (HNO.out j)⟩
                · have hzl : (lam : Int) < (z : Int) - (a : Int) := by omega
                  have hzne : ((z : Int) == (a : Int)) = false := by simp; omega
                  have hzne2 : ¬ (z : Int) = (a : Int) := by omega
                  go_wp2
                  go_roundg (M - (q + 1))
                  case measure => have := HMK3.out; omega
                  case rel => exact ⟨q + 1, F3, by go_num, by omega, rfl, HO3'.out, HK3.out, fun j hj => by rw [HF3.out j hj, HTK.out, covE_snoc]; exact or_no (HNO.out j)⟩
              · have hzlam : (z : Int) - a ≤ lam := by omega
                have hza : z ≠ a := by omega
                have haz : a < z := by omega
                have hzl : ¬ (lam : Int) < (z : Int) - (a : Int) := by omega
                have hzne : ((z : Int) == (a : Int)) = false := by simp; omega
                have hzne2 : ¬ (z : Int) = (a : Int) := by omega
                have hzx : z ≤ xs.length := by rw [HLL.out]; exact hzb.2
                have hB3 : Below w.heap.size w wo3 := HB23.out.trans (HK3.out.below HB23.out.size fun b e => Nat.le_of_eq e.symm)
                have hok := rok_p (some ⟨bx, ox + a, none⟩) (z - a) (cx - a) (sub xs a z) wo3 (sub_len hzx).symm (((HRD.out.sub (a := a) (z := z) hzx).below hB3).more hB3.size) (fun k hk => byteOk_sub HBY.out hzx k hk) (by omega)
                rw [show (decide (2 ≤ lN (sub xs a z)) && decide (lS (sub xs a z) = 0)) = okV (sub xs a z) from rfl] at hok
                obtain ⟨o, hoe⟩ : ∃ o, okV (sub xs a z) = o := ⟨_, rfl⟩
                rw [hoe] at hok
                have HOE := Lib.hid hoe
                have HOK := Lib.hid hok
                have HB3' := Lib.hid hB3
                have hac : ¬ cx = a := by omega
                have ht1 : (z : Int) ≤ (cx : Int) := by omega
                have ht2 : (a : Int) ≤ (z : Int) := by omega
                have ht3 : a ≤ z := by omega
                have ht4 : z ≤ cx := by omega
                have z0 : (0 : Int) ≤ (z : Int) := by omega
                have a0' : (0 : Int) ≤ (a : Int) := by omega
                obtain ⟨P3, hP3⟩ : ∃ P3 : Nat → Prop, P3 = fun j => P2 j ∨ CovE lam xs r a (es.take q) j := ⟨_, rfl⟩
                have HP3 := Lib.hid hP3
                have hF3' : ∀ j, j < L → (F3 j = true ↔ P3 j) := fun j hj => by rw [hP3]; exact HF3.out j hj
                have HF3' := Lib.hid hF3'
                clear hok hoe hB3 hP3 hF3' hskip
                go_wp2_with (go_at_call 51; (with_reducible refine HOK.out.mono ?_); rintro e w4 ⟨rfl, b4⟩; have HB4 := Lib.hid b4; clear b4)
                have HO4 := Lib.hid (HO3'.out.stays HB4.out)
                have HK4 : Hid (Kept (fun b => b = w.heap.size) w3 w4) := HK3.out.trans (Kept.of_below (fun _ => False) HB4.out) fun b e => e.elim
                go_loopg [14] (z - a) (fun m i wr => ∃ (i' : Nat) (F : Nat → Bool), i = .int .i64 (i' : Int) ∧ a ≤ i' ∧ i' ≤ z ∧ m = z - i' ∧ Bools wr w.heap.size w.heap.size L F ∧ Kept (fun b => b = w.heap.size) w3 wr ∧ ∀ j, j < L → (F j = true ↔ P3 j ∨ (a ≤ j ∧ j < i' ∧ (r.2 = true → o = true))))
                case atStart => exact ⟨a, F3, by first | rfl | trivial, Nat.le_refl _, by omega, by first | rfl | trivial, HO4.out, HK4.out, fun j hj => by rw [HF3'.out j hj]; exact ⟨.inl, fun h => h.elim id fun h => by omega⟩⟩
                case round =>
                  obtain ⟨i', F4, rfl, hai, hiz, hmk, ho, hk5, hF⟩ := hrel
                  have HMK4 := Lib.hid hmk
                  have HO5 := Lib.hid ho
                  have HK5 := Lib.hid hk5
                  have HF4 := Lib.hid hF
                  clear hmk ho hk5 hF
                  by_cases hi5 : i' < z
                  · have hiL : i' < L := by omega
                    obtain ⟨f, hf⟩ : ∃ f, F4 i' = f := ⟨_, rfl⟩
                    obtain ⟨lu, hlu⟩ : ∃ lu, r.2 = lu := ⟨_, rfl⟩
                    have hB5 : Below w.heap.size w wr := HB23.out.trans (HK5.out.below HB23.out.size fun b e => Nat.le_of_eq e.symm)
                    have o1 := HO5.out.cell i' hiL
                    have o2 := HO5.out.frozen i'
                    have x8 := HC.out wr hB5 8 _ rfl
                    rw [hf] at o1
                    rw [hlu] at x8
                    have i0' : (0 : Int) ≤ (i' : Int) := by omega
                    have i1' : (i' : Int) < (L : Int) := by omega
                    have i2' : (i' : Int) < (z : Int) := by omega
                    have HFE := Lib.hid hf
                    have HLU := Lib.hid hlu
                    have hstep := fun (nb : Bool) (hnb : nb = (f || (!lu || o))) => cov_cell (nb := nb) (lu := lu) (P := P3) (fun j hj => by have := HF4.out j hj; rw [hlu] at this; exact this) hf hnb hai hiL
                    have HSTEP := Lib.hid hstep
                    clear hf hlu hB5 hstep
                    cases f <;> cases lu
                    all_goals
                      go_wp2
                      go_roundg (z - (i' + 1))
                      case measure => have := HMK4.out; omega
                      case rel => exact ⟨i' + 1, _, by go_num, by omega, by omega, rfl, HO5.out.set i' hiL _, HK5.out.setCell (a := ⟨w.heap.size, i', none⟩) (.inl rfl) _, by rw [HLU.out]; first | exact HSTEP.out _ (by first | rfl | (cases o <;> rfl)) | (simpa using HSTEP.out o (by cases o <;> rfl)) | (simpa using HSTEP.out true (by cases o <;> rfl))⟩
                  · have hiz' : i' = z := by omega
                    subst hiz'
                    go_wp2
                    go_roundg (M - (q + 1))
                    case measure => have := HMK3.out; omega
                    case rel =>
                      refine ⟨q + 1, F4, by go_num, by omega, rfl, HO5.out, HK5.out, fun j hj => ?_⟩
                      rw [HF4.out j hj, HTK.out, covE_snoc, HP3.out, HOE.out, or_assoc]
                      constructor
                      · rintro (h | h | ⟨h1, h2, h3⟩)
                        · exact .inl h
                        · exact .inr (.inl h)
                        · exact .inr (.inr ⟨h1, h2, hzlam, h3⟩)
                      · rintro (h | h | ⟨h1, h2, h3, h4⟩)
                        · exact .inl h
                        · exact .inr (.inl h)
                        · exact .inr (.inr ⟨h1, h2, h4⟩)
            · have hqm : q = M := by omega
              subst hqm
              go_wp2
              go_roundg (L - (a + 1))
              case measure => have := HMK2.out; omega
              case rel =>
                refine ⟨a + 1, F3, by go_num, by omega, rfl, HO3'.out, HB23.out.trans (HK3.out.below HB23.out.size fun b e => Nat.le_of_eq e.symm), fun j hj => ?_⟩
                have h3 := HF3.out j hj
                rw [← HMM.out, List.take_length, HP2.out] at h3
                rw [h3, covA_succ HW.out hax HL3.out.2, or_assoc]
        · have hal : a = L := by omega
          subst hal
          go_wp2
          go_roundg (N - (p + 1))
          case measure => have := HMK1.out; omega
          case rel =>
            refine ⟨p + 1, F2, by go_num, by omega, rfl, HO2.out, HB2.out, fun j hj => ?_⟩
            have h2 := HF2.out j hj
            rw [← HLL.out, HP1.out, covA_all] at h2
            rw [h2, cov_take l lam xs j p hpl, HRE.out]
    · have hpn : p = N := by omega
      subst hpn
      go_wp2
      go_ret
      refine ⟨_, F1, rfl, HO1.out, fun j hj => ?_, HB1.out⟩
      have h1 := HF1.out j hj
      rw [← HNN.out, List.take_length] at h1
      exact h1
end Go.Proofs.YtccbeimcggamiaaDoor

/-
  The document's own Mask. Contracts for other texts; no statement of its own.
-/
namespace Go.Proofs.YtccbeimcggamiaaDoor
open Go Go.RowKit
attribute [local go_sem ↓] Go.wp_at_zero Go.wp_at_succ

def RetMskR (w : World) (xs : List Int) (m : Int) (P : Nat → Prop) (e : Ending) (w' : World) : Prop := ∃ v F, e = .returned v ∧ Bys w' w.heap.size v (mskL F m xs xs.length) ∧ (∀ j, j < xs.length → (F j = true ↔ P j)) ∧ Below w.heap.size w w'
set_option maxRecDepth 20000 in
set_option maxHeartbeats 4000000 in
theorem rmask_p {w : World} {A B : Option Addr} {cl cx : Nat} {l : List (T × Bool)} {lam m : Int} {xs : List Int} (hl : RdRules w A l) (hwf : ∀ r ∈ l, WF r.1) (hn : l.length ≤ 100000) (hrd : RdB w w.heap.size B xs) (hby : byteOk xs) (hlen : xs.length ≤ 50000) (hcap : xs.length ≤ cx)
    (hlam : -9223372036854775808 ≤ lam ∧ lam ≤ 9223372036854775807) :
    Calls Tryd.prog 25 #[.slice A l.length cl, .int .i64 lam, .int .u8 m, .slice B xs.length cx] w (RetMskR w xs m (Cov l lam xs)) := by
  have hcov := rcover_p (w := w) (cl := cl) (cx := cx) hl hwf hn hrd hby hlen hcap hlam
  obtain ⟨N, hN⟩ : ∃ N, l.length = N := ⟨_, rfl⟩
  obtain ⟨L, hL⟩ : ∃ L, xs.length = L := ⟨_, rfl⟩
  unfold RetCovR at hcov
  rw [hL, hN] at hcov
  rw [hL, hN]
  have HCOV := Lib.hid hcov
  have HLL := Lib.hid hL
  have HRD := Lib.hid hrd
  rw [hL] at hlen
  clear hcov hl hwf hrd hby hL hN hcap
  go_enter Tryd.func25, Tryd.ntmps25
  go_wp2_with (first
    | (go_at_call 23; (with_reducible refine HCOV.out.mono ?_); rintro e w2 ⟨g, F, rfl, o2, f2, hb2⟩; have O2 := Lib.hid o2; have F2 := Lib.hid f2; have HB2 := Lib.hid hb2; clear o2 f2 hb2)
    | fail)
  have hgF := O2.out.in
  have HN0 : Hid (Bys w2 w.heap.size (.slice none 0 0) ((mskL F m xs L).take 0)) := World.ownsRow_nil w2 w.heap.size _ 1
  go_loopg [10, 11] L (fun mm v i wr => ∃ k : Nat, i = .int .i64 (k : Int) ∧ k ≤ L ∧ mm = L - k ∧ Bys wr w.heap.size v ((mskL F m xs L).take k) ∧ Bools wr w.heap.size g L F ∧ Below w.heap.size w wr)
  case atStart => exact ⟨0, by first | rfl | trivial, Nat.zero_le _, by first | rfl | trivial, HN0.out, O2.out, HB2.out⟩
  case round =>
    obtain ⟨k, rfl, hk, hmk, hy, ho, hb⟩ := hrel
    have HMK := Lib.hid hmk
    have HO := Lib.hid ho
    have HB := Lib.hid hb
    have HY := Lib.hid hy
    obtain ⟨A1, c1, hfy⟩ := hy.form
    subst hfy
    clear hmk ho hb hy
    by_cases hkL : k < L
    · have hkx : k < xs.length := by rw [HLL.out]; exact hkL
      have o1 := HO.out.cell k hkL
      obtain ⟨fb, hfb⟩ : ∃ fb, F k = fb := ⟨_, rfl⟩
      obtain ⟨bx, ox, rfl, hbx, hx0⟩ := HRD.out k hkx
      have x1 := (HB.out.cell (p := ⟨bx, ox + k, none⟩) hbx).trans hx0
      obtain ⟨x, hxe⟩ : ∃ x, xs.getD k 0 = x := ⟨_, rfl⟩
      rw [hxe] at x1
      rw [hfb] at o1
      have htk : (mskL F m xs L).take (k + 1) = (mskL F m xs L).take k ++ [if fb = true then m else x] := by
        have hlen' : k < (mskL F m xs L).length := by rw [mskL_len]; exact hkx
        rw [List.take_succ_eq_append_getElem hlen']
        have hg := mskL_get F m xs L k hkx
        rw [List.getElem?_eq_getElem hlen'] at hg
        injection hg with hg
        rw [hg, hfb, hxe]
        simp [hkL]
      have HTK := Lib.hid htk
      have k0 : (0 : Int) ≤ (k : Int) := by omega
      have k1 : (k : Int) < (L : Int) := by omega
      have hll : ((mskL F m xs L).take k).length ≤ 100000 := by rw [List.length_take]; omega
      have HLE := Lib.hid hll
      have hal := fun (y : Int) => (Below.refl wr.heap.size wr).alloc (Nat.le_refl _) (.cells #[.int .u8 y] 5)
      have HAL := Lib.hid hal
      have hfin : ∀ (y : Int) (v' : Value) (w' : World), Bys w' w.heap.size v' ((mskL F m xs L).take k ++ [y]) → (wr.alloc (.cells #[.int .u8 y] 5)).grownBy w' (Value.slice A1 ((mskL F m xs L).take k).length c1).ownBlock →
          Bools w' w.heap.size g L F ∧ Below w.heap.size w w' := fun y v' w' hb hg => by
        have hba : Below w.heap.size w (wr.alloc (.cells #[.int .u8 y] 5)) := HB.out.alloc HB.out.size _
        have hya := HY.out.alloc (.cells #[.int .u8 y] 5)
        refine ⟨(HO.out.stays (HAL.out y)).block (hg.block g (HO.out.stays (HAL.out y)).in.2 fun e => ?_), hba.grown hg hba.size fun q e => (hya.in e).1⟩
        obtain ⟨c1', h1'⟩ := own_kind hya e.symm
        obtain ⟨c2', h2'⟩ := (HO.out.stays (HAL.out y)).kind
        exact kind_apart h1' h2' (by decide) rfl
      have HFIN := Lib.hid hfin
      clear htk hxe hx0 hll hal hfin hfb
      cases fb
      · go_wp2_with (at_builtin; refine wpList_bys (by rfl) _ _ (by rfl) (by rfl) (by rfl) rfl (HY.out.alloc _) (rd_mark1 wr wr.heap.size rfl x _) (by have := HLE.out; simp at this ⊢; omega) (by have := HB.out.size; simp; omega) ?_; intro v6 w6 b6 g6 o6; have B6 := Lib.hid b6; have G6 := Lib.hid g6; clear b6 g6 o6)
        go_roundg (L - (k + 1))
        case measure => have := HMK.out; omega
        case rel =>
          have h := HFIN.out x _ _ B6.out G6.out
          exact ⟨k + 1, by go_num, by omega, rfl, by rw [HTK.out]; exact B6.out, h.1, h.2⟩
      · go_wp2_with (at_builtin; refine wpList_bys (by rfl) _ _ (by rfl) (by rfl) (by rfl) rfl (HY.out.alloc _) (rd_mark1 wr wr.heap.size rfl m _) (by have := HLE.out; simp at this ⊢; omega) (by have := HB.out.size; simp; omega) ?_; intro v6 w6 b6 g6 o6; have B6 := Lib.hid b6; have G6 := Lib.hid g6; clear b6 g6 o6)
        go_roundg (L - (k + 1))
        case measure => have := HMK.out; omega
        case rel =>
          have h := HFIN.out m _ _ B6.out G6.out
          exact ⟨k + 1, by go_num, by omega, rfl, by rw [HTK.out]; exact B6.out, h.1, h.2⟩
    · have hkl : k = L := by omega
      subst hkl
      go_wp2
      go_ret
      refine ⟨_, F, rfl, ?_, fun j hj => F2.out j (by rw [← HLL.out]; exact hj), HB.out⟩
      have hy := HY.out
      have hll : (mskL F m xs k).length = k := by rw [mskL_len]; exact HLL.out
      rw [List.take_of_length_le (by omega)] at hy ⊢
      rw [HLL.out]
      exact hy
end Go.Proofs.YtccbeimcggamiaaDoor

/-
  The laws' own Rules: the rules of texts. Contracts for other texts; no statement of its own.
-/
namespace Go.Proofs.YtccbeimcggamiaaDoor
open Go Go.RowKit
attribute [local go_sem ↓] Go.wp_at_zero Go.wp_at_succ

/-- Texts that are read; truths that are read. -/
def RdStr (w : World) (A : Option Addr) (L : List ByteArray) : Prop := ∀ i s, L[i]? = some s → ∃ b off, A = some ⟨b, off, none⟩ ∧ b < w.heap.size ∧ w.cell? ⟨b, off + i, none⟩ = some (.string s)
def RdBo (w : World) (A : Option Addr) (L : List Bool) : Prop := ∀ i x, L[i]? = some x → ∃ b off, A = some ⟨b, off, none⟩ ∧ b < w.heap.size ∧ w.cell? ⟨b, off + i, none⟩ = some (.bool x)
theorem RdStr.stays {w w' : World} {A : Option Addr} {L : List ByteArray} (h : RdStr w A L) (hb : Below w.heap.size w w') : RdStr w' A L := fun i s e => by
  obtain ⟨b, off, h1, h2, h3⟩ := h i s e
  exact ⟨b, off, h1, Nat.lt_of_lt_of_le h2 hb.size, cell_stays h3 hb⟩
theorem RdBo.stays {w w' : World} {A : Option Addr} {L : List Bool} (h : RdBo w A L) (hb : Below w.heap.size w w') : RdBo w' A L := fun i s e => by
  obtain ⟨b, off, h1, h2, h3⟩ := h i s e
  exact ⟨b, off, h1, Nat.lt_of_lt_of_le h2 hb.size, cell_stays h3 hb⟩
/-- The rule of a text, if it is one of few places and of no more than 32 bytes. -/
def ruleOf (s : ByteArray) (b : Bool) : List (T × Bool) := match parse s with
  | .ok t => if plN t ≤ 60 ∧ lenN true t ≤ 32 then [(t, b)] else []
  | .error _ => []
def rulesN (L : List ByteArray) (bs : List Bool) : Nat → List (T × Bool)
  | 0 => []
  | k + 1 => rulesN L bs k ++ ruleOf (L.getD k ⟨#[]⟩) (bs.getD k false)
theorem ruleOf_len (s : ByteArray) (b : Bool) : (ruleOf s b).length ≤ 1 := by
  unfold ruleOf
  split
  · split <;> simp
  · simp
theorem rulesN_len (L : List ByteArray) (bs : List Bool) : ∀ k, (rulesN L bs k).length ≤ k
  | 0 => by simp [rulesN]
  | k + 1 => by
    have := rulesN_len L bs k
    have := ruleOf_len (L.getD k ⟨#[]⟩) (bs.getD k false)
    simp only [rulesN, List.length_append]
    omega
theorem rulesN_ok (L : List ByteArray) (bs : List Bool) : ∀ k, ∀ r ∈ rulesN L bs k, WF r.1 ∧ plN r.1 ≤ 60 ∧ lenN true r.1 ≤ 32
  | 0 => fun r h => by simp [rulesN] at h
  | k + 1 => fun r h => by
    simp only [rulesN, List.mem_append] at h
    rcases h with h | h
    · exact rulesN_ok L bs k r h
    · unfold ruleOf at h
      split at h
      · rename_i t ht
        split at h
        · rename_i hc
          rw [List.mem_singleton] at h
          subst h
          exact ⟨wf_parse ht, hc.1, hc.2⟩
        · simp at h
      · simp at h
theorem ruleTyM : RuleTy 65 46 := ⟨Tryd.underlying46, by kernel_rfl, by decide⟩
theorem ruleTyR : RuleTy 67 47 := ⟨Tryd.underlying47, by kernel_rfl, by decide⟩
/-- What Rules tells. -/
def RetRules (w : World) (l : List (T × Bool)) (e : Ending) (w' : World) : Prop := ∃ A c A' c', e = .returned (.tuple #[.slice A l.length c, .slice A' l.length c']) ∧ l.length ≤ c ∧ l.length ≤ c' ∧ RdRules w' A l ∧ RdRules w' A' l ∧ Below w.heap.size w w'

set_option maxRecDepth 20000 in
set_option maxHeartbeats 4000000 in
theorem rules_p {w : World} {A B : Option Addr} {ca cb : Nat} {L : List ByteArray} {bs : List Bool} (hs : RdStr w A L) (hb : RdBo w B bs) (hL : L.length ≤ 9223372036854775807) (hbs : bs.length ≤ 9223372036854775807) (hsz : ∀ s ∈ L, s.size ≤ 9223372036854775807) :
    Calls Tryd.prog 13 #[.slice A L.length ca, .slice B bs.length cb] w (RetRules w (rulesN L bs (min L.length 4))) := by
  have HS := Lib.hid hs
  have HBO := Lib.hid hb
  have HSZ := Lib.hid hsz
  obtain ⟨N, hN⟩ : ∃ N, L.length = N := ⟨_, rfl⟩
  obtain ⟨M, hM⟩ : ∃ M, bs.length = M := ⟨_, rfl⟩
  have HNN := Lib.hid hN
  have HMM := Lib.hid hM
  rw [hN] at hL ⊢
  rw [hM] at hbs ⊢
  clear hs hb hsz hN hM
  have hk4 : min N 4 ≤ N ∧ min N 4 ≤ 4 := by omega
  obtain ⟨Z, hZ⟩ : ∃ Z, min N 4 = Z := ⟨_, rfl⟩
  have HZ := Lib.hid hZ
  rw [hZ] at hk4 ⊢
  clear hZ
  go_enter Tryd.func13, Tryd.ntmps13
  go_wp2
  go_loopg [6, 7, 8] Z (fun m va vb i wr => ∃ k : Nat, i = .int .i64 (k : Int) ∧ k ≤ Z ∧ m = Z - k ∧ RuleRow 65 wr w.heap.size va (rulesN L bs k) ∧ RuleRow 67 wr w.heap.size vb (rulesN L bs k) ∧ Below w.heap.size w wr)
  case atStart => exact ⟨0, by first | rfl | trivial, Nat.zero_le _, by first | rfl | trivial, RuleRow.nil _ _ _, RuleRow.nil _ _ _, Below.refl _ _⟩
  case round =>
    obtain ⟨k, rfl, hk, hmk, ra, rb, hb⟩ := hrel
    have hlk := rulesN_len L bs k
    have HMK := Lib.hid hmk
    have HRA := Lib.hid ra
    have HRB := Lib.hid rb
    have HB := Lib.hid hb
    obtain ⟨Aa, ca', hfa, hca⟩ := ra.form
    obtain ⟨Ab, cb', hfb, hcb⟩ := rb.form
    have hlen100 : (rulesN L bs k).length ≤ 100000 := by omega
    obtain ⟨Q, hQ⟩ : ∃ Q, (rulesN L bs k).length = Q := ⟨_, rfl⟩
    rw [hQ] at hfa hfb hca hcb
    subst hfa hfb
    have HQ := Lib.hid hQ
    have HLE := Lib.hid hlen100
    clear hmk ra rb hb hlk hQ hlen100
    by_cases hkZ : k < Z
    · have hkN : k < L.length := by rw [HNN.out]; omega
      obtain ⟨s, hse⟩ : ∃ s, L[k]? = some s := ⟨_, List.getElem?_eq_getElem hkN⟩
      have hsm : s ∈ L := List.mem_of_getElem? hse
      have hss := HSZ.out s hsm
      obtain ⟨g, off, rfl, hg, hc0⟩ := HS.out k s hse
      have x0 := cell_stays hc0 HB.out
      have hsD : L.getD k ⟨#[]⟩ = s := by rw [List.getD_eq_getElem?_getD, hse]; rfl
      have HSD := Lib.hid hsD
      have hk1 : (k : Int) < (N : Int) := by omega
      have hk0 : (0 : Int) ≤ (k : Int) := by omega
      have hk2 : (k : Int) < 4 := by omega
      clear hse hsm hc0 hsD
      by_cases hpat : ∃ t, parse s = .ok t ∧ plN t ≤ 60
      · obtain ⟨t, hpt, hpl⟩ := hpat
        have hwf := wf_parse hpt
        have hpo := pattern_ok (w := wr) hss hpt hpl
        unfold nodeV at hpo
        have HPO := Lib.hid hpo
        have HWF := Lib.hid hwf
        obtain ⟨d, hd⟩ : ∃ d, lenN true t = d := ⟨_, rfl⟩
        have hro : ∀ b, ruleOf s b = if plN t ≤ 60 ∧ d ≤ 32 then [(t, b)] else [] := fun b => by unfold ruleOf; rw [hpt, ← hd]
        have HRO := Lib.hid hro
        have HDD := Lib.hid hd
        have HPL := Lib.hid hpl
        have HLEN := Lib.hid (fun (W : World) (A' : Option Addr) (n' c' : Nat) (ok : Nat → Prop) (h : Tree W ok t (.slice A' n' c')) => (length_p (k := .slice A' n' c') true W hwf h).mono fun e w' h => (show _ ∧ Below W.heap.size W w' from h))
        unfold nodeP at HLEN
        rw [hd] at HLEN
        clear hpo hwf hpt hro hd hpl
        by_cases hd32 : (32 : Int) < (d : Int)
        · go_wp2_with (first
            | (go_at_call 8; (with_reducible refine HPO.out.mono ?_); rintro e w3 ⟨A', n', c', rfl, t3, b3⟩; have HT3 := Lib.hid (t3.alloc (.cells #[.int .i64 t.op, .int .u64 (word t.set 0), .int .u64 (word t.set 1), .int .u64 (word t.set 2), .int .u64 (word t.set 3), .int .i64 t.lo, .int .i64 t.hi, (.slice A' n' c')] 29)); have HB3 := Lib.hid (b3.alloc b3.size (.cells #[.int .i64 t.op, .int .u64 (word t.set 0), .int .u64 (word t.set 1), .int .u64 (word t.set 2), .int .u64 (word t.set 3), .int .i64 t.lo, .int .i64 t.hi, (.slice A' n' c')] 29)); obtain ⟨r0, r1, r2, r3, r4, r5, r6, r7⟩ := (Box8.new w3 t (.slice A' n' c')).cell; clear t3 b3)
            | (go_at_call 38; (with_reducible refine (HLEN.out _ _ _ _ _ HT3.out).mono ?_); rintro e w5 ⟨rfl, b5⟩; have HB5 := Lib.hid (gro HB3.out b5); clear b5)
            | fail)
          go_roundg (Z - (k + 1))
          case measure => have := HMK.out; omega
          case rel =>
            have e : rulesN L bs (k + 1) = rulesN L bs k := by rw [rulesN, HSD.out, HRO.out, if_neg (by omega), List.append_nil]
            exact ⟨k + 1, by go_num, by omega, rfl, by rw [e]; exact HRA.out.stays HB5.out, by rw [e]; exact HRB.out.stays HB5.out, gro HB.out HB5.out⟩
        · obtain ⟨bk, hbk⟩ : ∃ bk, bs.getD k false = bk := ⟨_, rfl⟩
          have e : rulesN L bs (k + 1) = rulesN L bs k ++ [(t, bk)] := by rw [rulesN, HSD.out, HRO.out, if_pos ⟨HPL.out, by omega⟩, hbk]
          have HE := Lib.hid e
          have hbc : (¬ ((k : Int) < (M : Int)) ∧ bk = false) ∨ ((k : Int) < (M : Int) ∧ ∃ g off, B = some ⟨g, off, none⟩ ∧ ∀ W, Below wr.heap.size wr W → W.cell? ⟨g, off + k, none⟩ = some (.bool bk)) := by
            by_cases hkM : k < bs.length
            · obtain ⟨g2, off2, e2, hg2, hc2⟩ := HBO.out k (bs[k]) (List.getElem?_eq_getElem hkM)
              have : bs[k] = bk := by rw [← hbk, List.getD_eq_getElem?_getD, List.getElem?_eq_getElem hkM]; rfl
              rw [this] at hc2
              exact .inr ⟨by have := HMM.out; omega, g2, off2, e2, fun W hW => cell_stays (cell_stays hc2 HB.out) hW⟩
            · refine .inl ⟨by have := HMM.out; omega, ?_⟩
              rw [← hbk, List.getD_eq_getElem?_getD, List.getElem?_eq_none (by omega)]
              rfl
          clear e hbk
          rcases hbc with ⟨hkM, rfl⟩ | ⟨hkM, g2, off2, rfl, hc2⟩
          case' inr => have HC2 := Lib.hid hc2
          case' inr => clear hc2
          all_goals
            go_wp2_with (first
              | (go_at_call 8; (with_reducible refine HPO.out.mono ?_); rintro e w3 ⟨A', n', c', rfl, t3, b3⟩; have HT3 := Lib.hid (t3.alloc (.cells #[.int .i64 t.op, .int .u64 (word t.set 0), .int .u64 (word t.set 1), .int .u64 (word t.set 2), .int .u64 (word t.set 3), .int .i64 t.lo, .int .i64 t.hi, .slice A' n' c'] 29)); have HB3 := Lib.hid (b3.alloc b3.size (.cells #[.int .i64 t.op, .int .u64 (word t.set 0), .int .u64 (word t.set 1), .int .u64 (word t.set 2), .int .u64 (word t.set 3), .int .i64 t.lo, .int .i64 t.hi, .slice A' n' c'] 29)); have HX3 := Lib.hid (Box8.new w3 t (.slice A' n' c')); obtain ⟨r0, r1, r2, r3, r4, r5, r6, r7⟩ := HX3.out.cell; clear t3 b3)
              | (go_at_call 38; (with_reducible refine (HLEN.out _ _ _ _ _ HT3.out).mono ?_); rintro e w5 ⟨rfl, b5⟩; have HB5 := Lib.hid (gro HB3.out b5); have HX5 := Lib.hid (HX3.out.stays b5); have HT5 := Lib.hid (HT3.out.stays b5); clear r0 r1 r2 r3 r4 r5 r6 r7; obtain ⟨r0, r1, r2, r3, r4, r5, r6, r7⟩ := HX5.out.cell; (try (have z0 := HC2.out w5 HB5.out)); clear b5)
              | (at_builtin; refine wpList_rule ruleTyM (by rfl) _ _ (by rfl) (by rfl) ((HRA.out.stays HB5.out).stays ((Below.refl _ _).alloc (Nat.le_refl _) _)) (Nat.le_trans HB.out.size (Nat.le_trans HB5.out.size (by simp))) HLE.out (t, _) (.slice A' n' c') ((HT5.out.alloc _).weak fun b h1 _ => Nat.le_trans HB.out.size h1) ⟨w5.heap.size, 0, none⟩ 1 (by rfl) (rule_new w5 (t, _) (.slice A' n' c')) ?_; intro v6 w6 i6 g6 o6; obtain ⟨hb6, rb6, t6, x6⟩ := rule_after (HRA.out.stays HB5.out) (HRB.out.stays HB5.out) (by decide) ruleTyM.node (gro HB.out HB5.out) (Nat.le_trans HB.out.size HB5.out.size) HT5.out HX5.out g6; have I6 := Lib.hid i6; have HB6 := Lib.hid hb6; have RB6 := Lib.hid rb6; have HT6 := Lib.hid t6; have HX6 := Lib.hid x6; clear r0 r1 r2 r3 r4 r5 r6 r7; obtain ⟨r0, r1, r2, r3, r4, r5, r6, r7⟩ := x6.cell; clear hb6 rb6 t6 x6 i6 g6 o6)
              | (at_builtin; refine wpList_rule ruleTyR (by rfl) _ _ (by rfl) (by rfl) (RB6.out.stays ((Below.refl _ _).alloc (Nat.le_refl _) _)) (Nat.le_trans HB6.out.size (by simp)) HLE.out (t, _) (.slice A' n' c') ((HT6.out.alloc _).weak fun b h1 _ => Nat.le_trans HB.out.size h1) ⟨w6.heap.size, 0, none⟩ 1 (by rfl) (rule_new w6 (t, _) (.slice A' n' c')) ?_; intro v7 w7 i7 g7 o7; obtain ⟨hb7, ra7, t7, x7⟩ := rule_after RB6.out I6.out (by decide) ruleTyR.node HB6.out HB6.out.size HT6.out HX6.out g7; have I7 := Lib.hid i7; have HB7 := Lib.hid hb7; have RA7 := Lib.hid ra7; clear hb7 ra7 t7 x7 i7 g7 o7)
              | fail)
          all_goals
            go_roundg (Z - (k + 1))
            case measure => have := HMK.out; omega
            case rel => exact ⟨k + 1, by go_num, by omega, rfl, by rw [HE.out]; exact RA7.out, by rw [HE.out]; exact I7.out, HB7.out⟩
      · have hpn := pattern_no (w := wr) hss hpat
        unfold nodeV at hpn
        have HPN := Lib.hid hpn
        have hro : ∀ b, ruleOf s b = [] := fun b => by
          unfold ruleOf
          split
          · rename_i t ht
            rw [if_neg fun h => hpat ⟨t, ht, h.1⟩]
          · rfl
        have HRO := Lib.hid hro
        clear hpn hpat hro
        go_wp2_with (first
          | (go_at_call 8; (with_reducible refine HPN.out.mono ?_); rintro e w3 ⟨rfl, b3⟩; have HB3 := Lib.hid (b3.alloc b3.size (.cells #[.int .i64 T.zero.op, .int .u64 (word T.zero.set 0), .int .u64 (word T.zero.set 1), .int .u64 (word T.zero.set 2), .int .u64 (word T.zero.set 3), .int .i64 T.zero.lo, .int .i64 T.zero.hi, .slice none 0 0] 29)); clear b3)
          | fail)
        go_roundg (Z - (k + 1))
        case measure => have := HMK.out; omega
        case rel =>
          have e : rulesN L bs (k + 1) = rulesN L bs k := by rw [rulesN, HSD.out, HRO.out, List.append_nil]
          exact ⟨k + 1, by go_num, by omega, rfl, by rw [e]; exact HRA.out.stays HB3.out, by rw [e]; exact HRB.out.stays HB3.out, gro HB.out HB3.out⟩
    · have hkz : k = Z := by omega
      subst hkz
      have hend : ¬ ((k : Int) < (N : Int)) ∨ ((k : Int) < (N : Int) ∧ ¬ ((k : Int) < 4)) := by have := HZ.out; omega
      rcases hend with h1 | ⟨h1, h2⟩
      all_goals
        go_wp2
        go_ret2
        exact ⟨Aa, ca', Ab, cb', by show Ending.returned (.tuple #[.slice Aa Q ca', .slice Ab Q cb']) = _; rw [HQ.out], by rw [HQ.out]; exact hca, by rw [HQ.out]; exact hcb, HRA.out.rd rfl, HRB.out.rd rfl, HB.out⟩
end Go.Proofs.YtccbeimcggamiaaDoor

/-
  The laws' own Bools. Contracts for other texts; no statement of its own.
-/
namespace Go.Proofs.YtccbeimcggamiaaDoor
open Go Go.RowKit
attribute [local go_sem ↓] Go.wp_at_zero Go.wp_at_succ

set_option maxRecDepth 20000 in
set_option maxHeartbeats 2000000 in
theorem bools_p {w : World} {g1 g2 n : Nat} {F : Nat → Bool} (hv : ∀ k, k < n → w.cell? ⟨g1, k, none⟩ = some (.bool (F k))) (hu : ∀ k, k < n → w.cell? ⟨g2, k, none⟩ = some (.bool (F k))) (l1 : g1 < w.heap.size) (l2 : g2 < w.heap.size) (hn : n ≤ 100000) : Calls Tryd.prog 21 #[.slice (some ⟨g1, 0, none⟩) n n, .slice (some ⟨g2, 0, none⟩) n n] w fun e w' => e = .returned (.int .i64 1) ∧ Below w.heap.size w w' := by
  have HV := Lib.hid hv
  have HU := Lib.hid hu
  clear hv hu
  go_enter Tryd.func21, Tryd.ntmps21
  go_wp2
  go_loopg [5] n (fun m i wr => ∃ k : Nat, i = .int .i64 (k : Int) ∧ k ≤ n ∧ m = n - k ∧ Below w.heap.size w wr)
  case atStart => exact ⟨0, by first | rfl | trivial, Nat.zero_le _, by first | rfl | trivial, Below.refl _ _⟩
  case round =>
    obtain ⟨k, rfl, hk, hmk, hW⟩ := hrel
    have HMK := Lib.hid hmk
    clear hmk
    by_cases hkl : k < n
    · have h1 := (hW.cell (p := ⟨g1, k, none⟩) l1).trans (HV.out k hkl)
      have h2 := (hW.cell (p := ⟨g2, k, none⟩) l2).trans (HU.out k hkl)
      obtain ⟨y, hy⟩ : ∃ y, F k = y := ⟨_, rfl⟩
      rw [hy] at h1 h2
      have k0 : (0 : Int) ≤ (k : Int) := by omega
      have k1 : (k : Int) < (n : Int) := by omega
      have HW := Lib.hid hW
      clear hW hy
      cases y
      all_goals
        go_wp2
        go_quiet (fail)
        go_wp2
        go_roundg (n - (k + 1))
        case measure => have := HMK.out; omega
        case rel => exact ⟨k + 1, by go_num, by omega, rfl, below_dn HW.out _⟩
    · have hkL : k = n := by omega
      subst hkL
      go_wp2
      go_ret
      exact ⟨rfl, hW⟩

theorem boolsEq_p {w : World} {C D g1 g2 n : Nat} {F G : Nat → Bool} (hv : Bools w C g1 n F) (hu : Bools w D g2 n G) (h : ∀ j, j < n → F j = G j) (hn : n ≤ 100000) : Calls Tryd.prog 21 #[.slice (some ⟨g1, 0, none⟩) n n, .slice (some ⟨g2, 0, none⟩) n n] w fun e w' => e = .returned (.int .i64 1) ∧ Below w.heap.size w w' :=
  bools_p (F := F) (fun k hk => hv.cell k hk) (fun k hk => by rw [h k hk]; exact hu.cell k hk) hv.in.2 hu.in.2 hn
end Go.Proofs.YtccbeimcggamiaaDoor

/-
  The law MaskTells of layer 9 as a walk. Contracts for other texts; no statement of its own.
-/
namespace Go.Proofs.YtccbeimcggamiaaDoor
open Go Go.RowKit
attribute [local go_sem ↓] Go.wp_at_zero Go.wp_at_succ

set_option maxRecDepth 20000 in
set_option maxHeartbeats 4000000 in
theorem masktells_p {w : World} {A B X : Option Addr} {ca cb cx : Nat} {L : List ByteArray} {bs : List Bool} {lam m : Int} {xs : List Int} (hs : RdStr w A L) (hb : RdBo w B bs) (hL : L.length ≤ 9223372036854775807) (hbs : bs.length ≤ 9223372036854775807) (hsz : ∀ s ∈ L, s.size ≤ 9223372036854775807)
    (hlam : -9223372036854775808 ≤ lam ∧ lam ≤ 9223372036854775807) (hrd : RdB w w.heap.size X xs) (hby : byteOk xs) (hcx : xs.length ≤ cx) (htab : Tab w) :
    Calls Tryd.prog 5 #[.slice A L.length ca, .slice B bs.length cb, .int .i64 lam, .int .u8 m, .slice X xs.length cx] w fun e w' => e = .returned (.bool true) ∧ Below w.heap.size w w' := by
  have HU := Lib.hid (up9_p w htab)
  by_cases hlen : xs.length ≤ 200
  · have hru := fun W (hW : Below w.heap.size w W) => rules_p (ca := ca) (cb := cb) (hs.stays hW) (hb.stays hW) hL hbs hsz
    obtain ⟨l, hl⟩ : ∃ l, rulesN L bs (min L.length 4) = l := ⟨_, rfl⟩
    have hok := rulesN_ok L bs (min L.length 4)
    have hll := rulesN_len L bs (min L.length 4)
    rw [hl] at hru hok hll
    unfold RetRules at hru
    obtain ⟨N, hN⟩ : ∃ N, L.length = N := ⟨_, rfl⟩
    obtain ⟨M, hM⟩ : ∃ M, bs.length = M := ⟨_, rfl⟩
    obtain ⟨Q, hQ⟩ : ∃ Q, l.length = Q := ⟨_, rfl⟩
    obtain ⟨K, hK⟩ : ∃ K, xs.length = K := ⟨_, rfl⟩
    have hQ4 : Q ≤ 4 := by omega
    rw [hN, hM, hQ] at hru
    rw [hN, hM, hK]
    rw [hK] at hlen
    have HRU := Lib.hid hru
    have HOK := Lib.hid hok
    have HQQ := Lib.hid hQ
    have HKK := Lib.hid hK
    have HRD := Lib.hid hrd
    have HBY := Lib.hid hby
    have HTB := Lib.hid htab
    rw [hK] at hcx
    clear hru hok hll hl hs hb hL hbs hsz hN hM hQ hK hrd hby htab
    go_enter Tryd.func5, Tryd.ntmps5
    go_wp2_with (first
      | (go_at_call 18; (with_reducible refine HU.out.mono ?_); rintro e w1 ⟨rfl, hb1⟩; have HB1 := Lib.hid hb1; clear hb1)
      | (go_at_call 13; (with_reducible refine (HRU.out _ HB1.out).mono ?_); rintro e w2 ⟨A2, c2, A3, c3, rfl, hc2, hc3, r2, r3, b2⟩; have HR2 := Lib.hid r2; have HR3 := Lib.hid r3; have HB2 := Lib.hid (gro HB1.out b2); clear r2 r3 b2)
      | fail)
    obtain ⟨FC, hFC⟩ : ∃ F : Nat → Bool, ∀ j, F j = true ↔ Cov l lam xs j := ⟨fun j => @decide (Cov l lam xs j) (Classical.propDecidable _), fun j => @decide_eq_true_iff _ (Classical.propDecidable _)⟩
    obtain ⟨out, hout⟩ : ∃ out, mskL FC m xs xs.length = out := ⟨_, rfl⟩
    obtain ⟨ST, hST⟩ : ∃ ST, strOfNums out = ST := ⟨_, rfl⟩
    have hxl : xs.length ≤ 200 := by rw [HKK.out]; exact hlen
    have hxc : xs.length ≤ cx := by rw [HKK.out]; exact hcx
    have hl4 : l.length ≤ 100000 := by rw [HQQ.out]; omega
    have hwf : ∀ r ∈ l, WF r.1 := fun r hr => (HOK.out r hr).1
    have hbw : ∀ W, Below w2.heap.size w2 W → Below w.heap.size w W := fun W hW => HB2.out.trans (hW.mono HB2.out.size)
    have hrdW : ∀ W, Below w2.heap.size w2 W → RdB W W.heap.size X xs := fun W hW => (HRD.out.below (hbw W hW)).more (hbw W hW).size
    have htbW : ∀ W, Below w2.heap.size w2 W → Tab W := fun W hW => HTB.out.below (hbw W hW) HTB.out.1
    have hcm : ∀ W, Below w2.heap.size w2 W → Calls Tryd.prog 22 #[.slice A2 Q c2, .int .i64 lam, .slice X K cx] W fun e w' => ∃ g, e = .returned (.slice (some ⟨g, 0, none⟩) K K) ∧ Bools w' 0 g K FC ∧ Below W.heap.size W w' := fun W hW => by
      have h := mcover_p (w := W) (cl := c2) (cx := cx) (lam := lam) (HR2.out.stays hW) hwf hl4 (hrdW W hW) HBY.out (by omega) hxc (htbW W hW) hlam
      rw [HQQ.out, HKK.out] at h
      exact h.mono fun e w' ⟨g, F, h1, h2, h3, h4⟩ => ⟨g, h1, Bools.congr (show Bools w' 0 g K F from own_lower h2 (Nat.zero_le _)) fun j hj => Bool.eq_iff_iff.2 ((h3 j hj).trans (hFC j).symm), h4⟩
    have hcr : ∀ W, Below w2.heap.size w2 W → Calls Tryd.prog 23 #[.slice A3 Q c3, .int .i64 lam, .slice X K cx] W fun e w' => ∃ g, e = .returned (.slice (some ⟨g, 0, none⟩) K K) ∧ Bools w' 0 g K FC ∧ Below W.heap.size W w' := fun W hW => by
      have h := rcover_p (w := W) (cl := c3) (cx := cx) (lam := lam) (HR3.out.stays hW) hwf hl4 (hrdW W hW) HBY.out (by omega) hxc hlam
      rw [HQQ.out, HKK.out] at h
      exact h.mono fun e w' ⟨g, F, h1, h2, h3, h4⟩ => ⟨g, h1, Bools.congr (show Bools w' 0 g K F from own_lower h2 (Nat.zero_le _)) fun j hj => Bool.eq_iff_iff.2 ((h3 j hj).trans (hFC j).symm), h4⟩
    have hmm : ∀ W, Below w2.heap.size w2 W → Calls Tryd.prog 24 #[.slice A2 Q c2, .int .i64 lam, .int .u8 m, .slice X K cx] W fun e w' => ∃ A n c, e = .returned (.slice A n c) ∧ Bys w' 0 (.slice A n c) out ∧ Below W.heap.size W w' := fun W hW => by
      have h := mmask_p (w := W) (cl := c2) (cx := cx) (lam := lam) (m := m) (HR2.out.stays hW) hwf hl4 (hrdW W hW) HBY.out (by omega) hxc (htbW W hW) hlam
      rw [HQQ.out, HKK.out] at h
      refine h.mono fun e w' h' => ?_
      obtain ⟨v, F, h1, h2, h3, h4⟩ := h'
      rw [mskL_ext (G := FC) fun j hj => Bool.eq_iff_iff.2 ((h3 j hj).trans (hFC j).symm), hout] at h2
      obtain ⟨A, c, rfl⟩ := h2.form
      exact ⟨A, _, c, h1, h2.low (Nat.zero_le _), h4⟩
    have hmr : ∀ W, Below w2.heap.size w2 W → Calls Tryd.prog 25 #[.slice A3 Q c3, .int .i64 lam, .int .u8 m, .slice X K cx] W fun e w' => ∃ A n c, e = .returned (.slice A n c) ∧ Bys w' 0 (.slice A n c) out ∧ Below W.heap.size W w' := fun W hW => by
      have h := rmask_p (w := W) (cl := c3) (cx := cx) (lam := lam) (m := m) (HR3.out.stays hW) hwf hl4 (hrdW W hW) HBY.out (by omega) hxc hlam
      rw [HQQ.out, HKK.out] at h
      refine h.mono fun e w' h' => ?_
      obtain ⟨v, F, h1, h2, h3, h4⟩ := h'
      rw [mskL_ext (G := FC) fun j hj => Bool.eq_iff_iff.2 ((h3 j hj).trans (hFC j).symm), hout] at h2
      obtain ⟨A, c, rfl⟩ := h2.form
      exact ⟨A, _, c, h1, h2.low (Nat.zero_le _), h4⟩
    have hcv : ∀ (W : World) (A : Option Addr) (n c : Nat), Bys W 0 (.slice A n c) out → (convert 22 9 (.slice A n c)).run Tryd.prog W = .ok (.string ST) W := fun W A n c h => by rw [← hST]; exact bys_conv h
    have HCM := Lib.hid hcm
    have HCR := Lib.hid hcr
    have HMM := Lib.hid hmm
    have HMR := Lib.hid hmr
    have HCV := Lib.hid hcv
    have HWF := Lib.hid hwf
    have HRW := Lib.hid hrdW
    have HTW := Lib.hid htbW
    have HXL := Lib.hid hxl
    have hki : ¬ ((200 : Int) < (K : Int)) := by omega
    rw [show decide ((200 : Int) < (K : Int)) = false from by simp; omega]
    clear hcm hcr hmm hmr hcv hwf hrdW htbW hxl hxc hl4 hbw hFC hout hST
    go_loopg [14] Q (fun m i wr => ∃ k : Nat, i = .int .i64 (k : Int) ∧ k ≤ Q ∧ m = Q - k ∧ Below w2.heap.size w2 wr)
    case atStart => exact ⟨0, by first | rfl | trivial, Nat.zero_le _, by first | rfl | trivial, Below.refl _ _⟩
    case round =>
      obtain ⟨k, rfl, hk, hmk, hb⟩ := hrel
      have HMK := Lib.hid hmk
      have HB := Lib.hid hb
      clear hmk hb
      by_cases hkQ : k < Q
      · have hkl : k < l.length := by rw [HQQ.out]; exact hkQ
        obtain ⟨r, hr⟩ : ∃ r, l[k]? = some r := ⟨_, List.getElem?_eq_getElem hkl⟩
        have hwr := HWF.out r (List.mem_of_getElem? hr)
        obtain ⟨g2, o2, k2, rfl, hg2, hcc2, ht2⟩ := HR2.out k r hr
        obtain ⟨g3, o3, k3, rfl, hg3, hcc3, ht3⟩ := HR3.out k r hr
        obtain ⟨A4, n4, c4, rfl⟩ := ht2.form
        obtain ⟨A5, n5, c5, rfl⟩ := ht3.form
        obtain ⟨bv, hbv⟩ : ∃ bv : Bool, (bv = true ↔ Fit xs r 0 xs.length) := by
          by_cases hE : Fit xs r 0 xs.length
          · exact ⟨true, by simp [hE]⟩
          · exact ⟨false, by simp [hE]⟩
        have cells : ∀ W, Below wr.heap.size wr W → (W.cell? ⟨g2, o2 + k * 9, none⟩ = some (.int .i64 r.1.op) ∧ W.cell? ⟨g2, o2 + k * 9 + 1, none⟩ = some (.int .u64 (word r.1.set 0)) ∧ W.cell? ⟨g2, o2 + k * 9 + 2, none⟩ = some (.int .u64 (word r.1.set 1)) ∧ W.cell? ⟨g2, o2 + k * 9 + 3, none⟩ = some (.int .u64 (word r.1.set 2)) ∧ W.cell? ⟨g2, o2 + k * 9 + 4, none⟩ = some (.int .u64 (word r.1.set 3)) ∧ W.cell? ⟨g2, o2 + k * 9 + 5, none⟩ = some (.int .i64 r.1.lo) ∧ W.cell? ⟨g2, o2 + k * 9 + 6, none⟩ = some (.int .i64 r.1.hi) ∧ W.cell? ⟨g2, o2 + k * 9 + 7, none⟩ = some (.slice A4 n4 c4) ∧ W.cell? ⟨g2, o2 + k * 9 + 8, none⟩ = some (.bool r.2)) ∧
            (W.cell? ⟨g3, o3 + k * 9, none⟩ = some (.int .i64 r.1.op) ∧ W.cell? ⟨g3, o3 + k * 9 + 1, none⟩ = some (.int .u64 (word r.1.set 0)) ∧ W.cell? ⟨g3, o3 + k * 9 + 2, none⟩ = some (.int .u64 (word r.1.set 1)) ∧ W.cell? ⟨g3, o3 + k * 9 + 3, none⟩ = some (.int .u64 (word r.1.set 2)) ∧ W.cell? ⟨g3, o3 + k * 9 + 4, none⟩ = some (.int .u64 (word r.1.set 3)) ∧ W.cell? ⟨g3, o3 + k * 9 + 5, none⟩ = some (.int .i64 r.1.lo) ∧ W.cell? ⟨g3, o3 + k * 9 + 6, none⟩ = some (.int .i64 r.1.hi) ∧ W.cell? ⟨g3, o3 + k * 9 + 7, none⟩ = some (.slice A5 n5 c5) ∧ W.cell? ⟨g3, o3 + k * 9 + 8, none⟩ = some (.bool r.2)) := fun W hW => by
          have hW2 := gro HB.out hW
          have c2' := fun q u hu => (hW2.cell (p := ⟨g2, o2 + k * 9 + q, none⟩) hg2).trans (hcc2 q u hu)
          have c3' := fun q u hu => (hW2.cell (p := ⟨g3, o3 + k * 9 + q, none⟩) hg3).trans (hcc3 q u hu)
          exact ⟨⟨c2' 0 _ rfl, c2' 1 _ rfl, c2' 2 _ rfl, c2' 3 _ rfl, c2' 4 _ rfl, c2' 5 _ rfl, c2' 6 _ rfl, c2' 7 _ rfl, c2' 8 _ rfl⟩, ⟨c3' 0 _ rfl, c3' 1 _ rfl, c3' 2 _ rfl, c3' 3 _ rfl, c3' 4 _ rfl, c3' 5 _ rfl, c3' 6 _ rfl, c3' 7 _ rfl, c3' 8 _ rfl⟩⟩
        obtain ⟨⟨x0, x1, x2, x3, x4, x5, x6, x7, x8⟩, ⟨y0, y1, y2, y3, y4, y5, y6, y7, y8⟩⟩ := cells wr (Below.refl _ _)
        have hfm : ∀ W, Below wr.heap.size wr W → Calls Tryd.prog 19 #[ruleP r (.slice A4 n4 c4), .slice X K cx] W fun e w' => e = .returned (.bool bv) ∧ Below wr.heap.size wr w' := fun W hW => by
          have h := mfits_p (w := W) (c := cx) (r := r) hwr (ht2.stays (gro HB.out hW)) (HRW.out W (gro HB.out hW)) HBY.out (by have := HXL.out; omega) (HTW.out W (gro HB.out hW))
          rw [HKK.out] at h
          exact h.mono fun e w' ⟨b, h1, h2, h3⟩ => ⟨by rw [h1, show b = bv from Bool.eq_iff_iff.2 (h2.trans (by rw [hbv, HKK.out]))], gro hW h3⟩
        have hfr : ∀ W, Below wr.heap.size wr W → Calls Tryd.prog 20 #[ruleR r (.slice A5 n5 c5), .slice X K cx] W fun e w' => e = .returned (.bool bv) ∧ Below wr.heap.size wr w' := fun W hW => by
          have h := rfits_p (w := W) (c := cx) (r := r) hwr (ht3.stays (gro HB.out hW)) (HRW.out W (gro HB.out hW)) HBY.out (by have := HXL.out; omega)
          rw [HKK.out] at h
          exact h.mono fun e w' ⟨b, h1, h2, h3⟩ => ⟨by rw [h1, show b = bv from Bool.eq_iff_iff.2 (h2.trans (by rw [hbv, HKK.out]))], gro hW h3⟩
        unfold ruleP at hfm
        unfold ruleR at hfr
        have HFM := Lib.hid hfm
        have HFR := Lib.hid hfr
        have HCC := Lib.hid cells
        have k0 : (0 : Int) ≤ (k : Int) := by omega
        have k1 : (k : Int) < (Q : Int) := by omega
        have HB5 := Lib.hid (Below.refl wr.heap.size wr)
        clear hfm hfr cells hr hwr hcc2 ht2 hcc3 ht3 hbv
        cases bv
        all_goals
          go_upto_region 8 with fail
          go_region_held3 (fun W => (W.cell? ⟨g2, o2 + k * 9, none⟩ = some (.int .i64 r.1.op) ∧ W.cell? ⟨g2, o2 + k * 9 + 1, none⟩ = some (.int .u64 (word r.1.set 0)) ∧ W.cell? ⟨g2, o2 + k * 9 + 2, none⟩ = some (.int .u64 (word r.1.set 1)) ∧ W.cell? ⟨g2, o2 + k * 9 + 3, none⟩ = some (.int .u64 (word r.1.set 2)) ∧ W.cell? ⟨g2, o2 + k * 9 + 4, none⟩ = some (.int .u64 (word r.1.set 3)) ∧ W.cell? ⟨g2, o2 + k * 9 + 5, none⟩ = some (.int .i64 r.1.lo) ∧ W.cell? ⟨g2, o2 + k * 9 + 6, none⟩ = some (.int .i64 r.1.hi) ∧ W.cell? ⟨g2, o2 + k * 9 + 7, none⟩ = some (.slice A4 n4 c4) ∧ W.cell? ⟨g2, o2 + k * 9 + 8, none⟩ = some (.bool r.2) ∧
            W.cell? ⟨g3, o3 + k * 9, none⟩ = some (.int .i64 r.1.op) ∧ W.cell? ⟨g3, o3 + k * 9 + 1, none⟩ = some (.int .u64 (word r.1.set 0)) ∧ W.cell? ⟨g3, o3 + k * 9 + 2, none⟩ = some (.int .u64 (word r.1.set 1)) ∧ W.cell? ⟨g3, o3 + k * 9 + 3, none⟩ = some (.int .u64 (word r.1.set 2)) ∧ W.cell? ⟨g3, o3 + k * 9 + 4, none⟩ = some (.int .u64 (word r.1.set 3)) ∧ W.cell? ⟨g3, o3 + k * 9 + 5, none⟩ = some (.int .i64 r.1.lo) ∧ W.cell? ⟨g3, o3 + k * 9 + 6, none⟩ = some (.int .i64 r.1.hi) ∧ W.cell? ⟨g3, o3 + k * 9 + 7, none⟩ = some (.slice A5 n5 c5) ∧ W.cell? ⟨g3, o3 + k * 9 + 8, none⟩ = some (.bool r.2)))
            (refine ⟨?_, ?_, ?_, ?_, ?_, ?_, ?_, ?_, ?_, ?_, ?_, ?_, ?_, ?_, ?_, ?_, ?_, ?_⟩ <;> (repeat (first | with_reducible assumption | with_reducible refine cell_dr ?_))) (first
            | (go_at_call 19; (with_reducible refine (HFM.out _ (by repeat (first | with_reducible exact HB5.out | with_reducible refine Below.drew ?_))).mono ?_); rintro e w5 ⟨rfl, b5⟩; clear x0 x1 x2 x3 x4 x5 x6 x7 x8 y0 y1 y2 y3 y4 y5 y6 y7 y8; obtain ⟨⟨x0, x1, x2, x3, x4, x5, x6, x7, x8⟩, ⟨y0, y1, y2, y3, y4, y5, y6, y7, y8⟩⟩ := HCC.out w5 b5; have HB5 := Lib.hid b5; clear b5)
            | (go_at_call 20; (with_reducible refine (HFR.out _ (by repeat (first | with_reducible exact HB5.out | with_reducible refine Below.drew ?_))).mono ?_); rintro e w5 ⟨rfl, b5⟩; clear x0 x1 x2 x3 x4 x5 x6 x7 x8 y0 y1 y2 y3 y4 y5 y6 y7 y8; obtain ⟨⟨x0, x1, x2, x3, x4, x5, x6, x7, x8⟩, ⟨y0, y1, y2, y3, y4, y5, y6, y7, y8⟩⟩ := HCC.out w5 b5; have HB5 := Lib.hid b5; clear b5)
            | fail)
          all_goals
            go_wp2
            go_roundg (Q - (k + 1))
            case measure => have := HMK.out; omega
            case rel => exact ⟨k + 1, by go_num, by omega, rfl, gro HB.out HB5.out⟩
      · have hkq : k = Q := by omega
        subst hkq
        go_upto_region 10 with fail
        go_region_held (fun _ => True) (trivial) (first
          | (go_at_call 22; (with_reducible refine (HCM.out _ (by repeat (first | with_reducible exact HB.out | with_reducible refine Below.drew ?_))).mono ?_); rintro e w4 ⟨g4, rfl, o4, b4⟩; have O4 := Lib.hid o4; have HB4 := Lib.hid (gro HB.out (undrew b4)); clear o4 b4)
          | (go_at_call 23; (with_reducible refine (HCR.out _ HB4.out).mono ?_); rintro e w5 ⟨g5, rfl, o5, b5⟩; have O5 := Lib.hid o5; have O45 := Lib.hid (O4.out.stays b5); have HB5 := Lib.hid (gro HB4.out b5); clear o5 b5)
          | (go_at_call 21; (with_reducible refine (boolsEq_p O45.out O5.out (fun _ _ => rfl) (by omega)).mono ?_); rintro e w6 ⟨rfl, b6⟩; have HB6 := Lib.hid (gro HB5.out b6); clear b6)
          | (go_at_call 24; (with_reducible refine (HMM.out _ HB6.out).mono ?_); rintro e w7 ⟨A7, n7, c7, rfl, y7, b7⟩; have Y7 := Lib.hid y7; have e7 := HCV.out _ _ _ _ y7; have HB7 := Lib.hid (gro HB6.out b7); clear y7 b7)
          | (go_at_call 25; (with_reducible refine (HMR.out _ HB7.out).mono ?_); rintro e w8 ⟨A8, n8, c8, rfl, y8, b8⟩; have e78 := HCV.out _ _ _ _ (Y7.out.stays b8); have e8 := HCV.out _ _ _ _ y8; have HB8 := Lib.hid (gro HB7.out b8); clear y8 b8)
          | fail)
        all_goals
          go_wp2
          go_ret
          exact ⟨rfl, HB2.out.trans (HB8.out.mono HB2.out.size)⟩
  · have hi : (200 : Int) < (xs.length : Int) := by omega
    clear hs hb hL hbs hsz hrd hby htab hlen
    go_enter Tryd.func5, Tryd.ntmps5
    go_wp2_with (first
      | (go_at_call 18; (with_reducible refine HU.out.mono ?_); rintro e w1 ⟨rfl, hb1⟩; have HB1 := Lib.hid hb1; clear hb1)
      | fail)
    go_ret
    exact ⟨rfl, HB1.out⟩
end Go.Proofs.YtccbeimcggamiaaDoor
