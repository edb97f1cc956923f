/-
  WHAT IS PROVED: for every text s and every configuration c the law VerdictTells (layer 15, promise P15.1) returns true and leaves its arguments as they were: the tied card: a table of math/bits, two of unicode/utf8, and what errors.As asks, read as the program's own text lays them. Conditions: none beside the card's own tie.
-/
import Derived.Test.YtgbdanddbgomhaaGreatDoorMv51
set_option linter.unusedVariables false
set_option linter.unusedSimpArgs false
namespace Go.Proofs.YtgbdanddbgomhaaGreatDoor
open Go Go.ChangeShapes Go.WideShapes Go.ChangeAt Go.RowKit
set_option maxRecDepth 100000 in
theorem verdictTells_lifted (os:Os) (started:os.Started) (H:Type) (enc:TypeId×Value->H):
   ReturnsInHanded {} Tryz.checked os 3 .any (fun w args=>(Rows.verdictTellsSpec.pre enc Tryz.prog Tryz.f3 [] false w args∧laidMetH Tryz.prog laidVer w)∧sizedMet enc Tryz.prog Tryz.f3 (OpenSpec.ofChange Rows.verdictTellsSpec) false w args)
     (Rows.verdictTellsSpec.post enc Tryz.prog Tryz.f3 false true false false):=by
 refine zcz (C:=Tryz.checked) (X:=fun w _=>laidMetH Tryz.prog laidVer w) (fun _ _ _ hh h=>h.of_heap hh.symm) Tryz.ownKnobNone started (by kernel_rfl) Tryz.func3
   (ChangeSpec.witness_shaped (enc:=enc) (C:=Tryz.checked) (os:=os) (X:=fun w _=>laidMetH Tryz.prog laidVer w) false (world15 os) #[.string ⟨#[]⟩,.agg #[.int .i64 0,.int .i64 0,.int .i64 0,.int .u64 0,.int .u8 0]] 8 (World.layVars_os _ _ _)
     (World.shaped_of_ZipB (by kernel_rfl) (by kernel_rfl)) (by kernel_rfl) (by kernel_rfl) (by kernel_rfl)
     (met15 os _)) ?_
 intro W base args ds gs before hval0 hW hsh HLD hwg;have hval:∀ (j:Nat) t v,Tryz.f3.params[j]?=some t->args[j]?=some v->Value.okWide Tryz.prog W .any base t v:=hval0;have hW':=hW;obtain⟨p,q,hA0,hV,rfl,hfz,hnd⟩:=hW;have hA:DataW.TrodAll enc Tryz.prog W 0 (fun _=>true) true Tryz.f3.params.toList args.toList ds p:=hA0;rw[Tryz.params3] at hA hval;obtain⟨v0,vs0,d0,ds0,p0,q0,hargs,rfl,rfl,h0,r0⟩:=trodAll_cons hA;obtain⟨v1,vs1,d1,ds1,p1,q1,rfl,rfl,rfl,h1,r1⟩:=trodAll_cons r0;obtain⟨rfl,rfl,rfl⟩:=trodAll_nil r1;obtain rfl:args=#[v0,v1]:=by cases args;simp_all
 obtain⟨rfl,rfl⟩:=trodVars_none hV;have lt0:∀ x∈p0,x.block<W.heap.size:=(by obtain⟨m,hm⟩:=h0;exact DataW.trod_lt m _ _ _ hm);have lt1:∀ x∈p1,x.block<W.heap.size:=(by obtain⟨m,hm⟩:=h1;exact DataW.trod_lt m _ _ _ hm);obtain⟨s,rfl,_,_,z0⟩:=Go.ChangeMaps.open_string Tryz.underlying9 (hval 0 9 v0 rfl rfl) h0;have c0:s.size<=9223372036854775807:=(by unfold maxLen at z0;omega);obtain⟨c,rfl,cw1⟩:=zrj (hval 1 24 v1 rfl rfl) h1;clear hA0 hval0;refine (zfd W s c c0 cw1 (dor15 HLD) (maxl15 hsh)).mono fun e W' ⟨he,bel⟩=>?_
 subst he;exact⟨_,rfl,_,_,_,[],_,[],hW',trodAll_mk1 (shut_bool Tryz.underlying4 _),
   (trodAll_cons_mk (Below.trod Tryz.laidOutOk (by kernel_rfl) (of_decide_eq_true (by kernel_rfl)) h0 bel lt0) (trodAll_cons_mk (Below.trod Tryz.laidOutOk (by kernel_rfl) (of_decide_eq_true (by kernel_rfl)) h1 bel lt1) trodAll_mk0)),
   rfl,bel.frame _,fun h=>by cases h⟩
theorem verdictTells_said:Rows.VerdictTellsSaid:=
 OpenClaim.holds_of_wide 3 Tryz.f3 rfl rfl rfl rfl rfl rfl rfl ⟨rfl,rfl,rfl,rfl,rfl⟩ rfl rfl rfl rfl rfl (by kernel_rfl) Tryz.func3 (by kernel_rfl)
   (of_decide_eq_true (by kernel_rfl)) (by unfold Func.isWrapper;first | (rw[if_pos (by decide +kernel)];kernel_rfl) | (rw[if_neg (by decide +kernel)];exact⟨rfl,rfl⟩))
   (fun os started H enc _=>verdictTells_lifted os started H enc)
theorem verdictTells_card:Rows.VerdictTellsCardSaid:=
 Claim7.holds_tied_plain_at .later [] [.data, .data, .handle, .pinned] true (true, "df35bc0a57793f4edc49a1cd8b5252f74ffed2ee44a1da8aa8045da3ee6befd8") true
   verdictTells_said (fun _ h=>by cases h) (by kernel_rfl) (fun _ h=>by cases h) verdictTells_row_tie rfl ⟨rfl,rfl⟩ (by kernel_rfl) rfl
   (fun f fn hf hfn=>by
     obtain rfl : f = 3 := Option.some.inj ((show Tryz.prog.funcNamed "snaffle/snafflelaw15.VerdictTells" = some 3 by kernel_rfl).symm.trans hf) |>.symm;obtain rfl:fn=Tryz.f3:=(Option.some.inj (Tryz.func3.symm.trans hfn)).symm;exact ⟨by kernel_rfl,fun j t ht=>by
       rw[Tryz.params3] at ht;have hm:t∈[9,24]:=(by simpa using Array.mem_of_getElem? ht);have hall:([9,24].all fun u => !Tryz.prog.wantsStandIn u)=true:=(by kernel_rfl);exact (show Tryz.prog.wantsStandIn t=false by simpa using List.all_eq_true.1 hall t hm)⟩)
   (by kernel_rfl)
end Go.Proofs.YtgbdanddbgomhaaGreatDoor
