/-
  WHAT IS PROVED: for every text s, every configuration c and all bytes w the law VerdictSure (layer 15, promise P15.3) returns true and leaves its arguments as they were: the tied card: a table of math/bits, two of unicode/utf8, and what errors.As asks, read as the program's own text lays them. Conditions: none beside the card's own tie.
-/
import Derived.Test.YtgbdanddbgomhaaGreatDoorMs44
import Derived.Test.YtgbdanddbgomhaaGreatDoorMs42
set_option linter.unusedVariables false
set_option linter.unusedSimpArgs false
namespace Go.Proofs.YtgbdanddbgomhaaGreatDoor
open Go Go.ChangeShapes Go.WideShapes Go.ChangeAt Go.RowKit
set_option maxRecDepth 100000 in
theorem verdictSure_lifted (os:Os) (started:os.Started) (H:Type) (enc:TypeId×Value->H):
   ReturnsInHanded {} Tryz.checked os 4 .any (fun w args=>(Rows.verdictSureSpec.pre enc Tryz.prog Tryz.f4 [] false w args∧laidMetH Tryz.prog laidVer w)∧sizedMet enc Tryz.prog Tryz.f4 (OpenSpec.ofChange Rows.verdictSureSpec) false w args)
     (Rows.verdictSureSpec.post enc Tryz.prog Tryz.f4 false true false false):=by
 refine zby (C:=Tryz.checked) (X:=fun w _=>laidMetH Tryz.prog laidVer w) (fun _ _ _ hh h=>h.of_heap hh.symm) Tryz.ownKnobNone started (by kernel_rfl) Tryz.func4
   (ChangeSpec.witness_shaped (enc:=enc) (C:=Tryz.checked) (os:=os) (X:=fun w _=>laidMetH Tryz.prog laidVer w) false (world15 os) #[.string ⟨#[]⟩,.agg #[.int .i64 0,.int .i64 0,.int .i64 0,.int .u64 0,.int .u8 0],.slice none 0 0] 8 (World.layVars_os _ _ _)
     (World.shaped_of_ZipB (by kernel_rfl) (by kernel_rfl)) (by kernel_rfl) (by kernel_rfl) (by kernel_rfl)
     (met15 os _)) ?_
 intro W base args ds gs before hval0 hW hsh HLD hwg;have hval:∀ (j:Nat) t v,Tryz.f4.params[j]?=some t->args[j]?=some v->Value.okWide Tryz.prog W .any base t v:=hval0;have hW':=hW;obtain⟨p,q,hA0,hV,rfl,hfz,hnd⟩:=hW;have hA:DataW.TrodAll enc Tryz.prog W 0 (fun _=>true) true Tryz.f4.params.toList args.toList ds p:=hA0;rw[Tryz.params4] at hA hval;obtain⟨v0,vs0,d0,ds0,p0,q0,hargs,rfl,rfl,h0,r0⟩:=trodAll_cons hA;obtain⟨v1,vs1,d1,ds1,p1,q1,rfl,rfl,rfl,h1,r1⟩:=trodAll_cons r0;obtain⟨v2,vs2,d2,ds2,p2,q2,rfl,rfl,rfl,h2,r2⟩:=trodAll_cons r1;obtain⟨rfl,rfl,rfl⟩:=trodAll_nil r2;obtain rfl:args=#[v0,v1,v2]:=by cases args;simp_all
 obtain⟨rfl,rfl⟩:=trodVars_none hV;have lt0:∀ x∈p0,x.block<W.heap.size:=(by obtain⟨m,hm⟩:=h0;exact DataW.trod_lt m _ _ _ hm);have lt1:∀ x∈p1,x.block<W.heap.size:=(by obtain⟨m,hm⟩:=h1;exact DataW.trod_lt m _ _ _ hm);have lt2:∀ x∈p2,x.block<W.heap.size:=(by obtain⟨m,hm⟩:=h2;exact DataW.trod_lt m _ _ _ hm);obtain⟨s,rfl,_,_,z0⟩:=Go.ChangeMaps.open_string Tryz.underlying9 (hval 0 9 v0 rfl rfl) h0;have c0:s.size<=9223372036854775807:=(by unfold maxLen at z0;omega);obtain⟨c,rfl,cw1⟩:=zmx (hval 1 24 v1 rfl rfl) h1;obtain⟨A2,n2,cp2,xs,rfl,rfl,rd2,by2,le2,cm2⟩:=zia (hval 2 46 v2 rfl rfl) h2;have lm2:xs.length<=9223372036854775807:=(by unfold maxLen at cm2;omega);clear hA0 hval0;refine (ze1 W s c A2 cp2 xs c0 cw1 rd2 by2 lm2 (dor15 HLD) (maxl15 hsh)).mono fun e W' ⟨he,bel⟩=>?_
 subst he;exact⟨_,rfl,_,_,_,[],_,[],hW',trodAll_mk1 (shut_bool Tryz.underlying4 _),
   (trodAll_cons_mk (Below.trod Tryz.laidOutOk (by kernel_rfl) (of_decide_eq_true (by kernel_rfl)) h0 bel lt0) (trodAll_cons_mk (Below.trod Tryz.laidOutOk (by kernel_rfl) (of_decide_eq_true (by kernel_rfl)) h1 bel lt1) (trodAll_cons_mk (Below.trod Tryz.laidOutOk (by kernel_rfl) (of_decide_eq_true (by kernel_rfl)) h2 bel lt2) trodAll_mk0))),
   rfl,bel.frame _,fun h=>by cases h⟩
theorem verdictSure_said:Rows.VerdictSureSaid:=
 OpenClaim.holds_of_wide 4 Tryz.f4 rfl rfl rfl rfl rfl rfl rfl ⟨rfl,rfl,rfl,rfl,rfl⟩ rfl rfl rfl rfl rfl (by kernel_rfl) Tryz.func4 (by kernel_rfl)
   (of_decide_eq_true (by kernel_rfl)) (by unfold Func.isWrapper;first | (rw[if_pos (by decide +kernel)];kernel_rfl) | (rw[if_neg (by decide +kernel)];exact⟨rfl,rfl⟩))
   (fun os started H enc _=>verdictSure_lifted os started H enc)
theorem verdictSure_card:Rows.VerdictSureCardSaid:=
 Claim7.holds_tied_plain_at .later [] [.data, .data, .handle, .pinned] true (true, "df35bc0a57793f4edc49a1cd8b5252f74ffed2ee44a1da8aa8045da3ee6befd8") true
   verdictSure_said (fun _ h=>by cases h) (by kernel_rfl) (fun _ h=>by cases h) verdictSure_row_tie rfl ⟨rfl,rfl⟩ (by kernel_rfl) rfl
   (fun f fn hf hfn=>by
     obtain rfl : f = 4 := Option.some.inj ((show Tryz.prog.funcNamed "snaffle/snafflelaw15.VerdictSure" = some 4 by kernel_rfl).symm.trans hf) |>.symm;obtain rfl:fn=Tryz.f4:=(Option.some.inj (Tryz.func4.symm.trans hfn)).symm;exact ⟨by kernel_rfl,fun j t ht=>by
       rw[Tryz.params4] at ht;have hm:t∈[9,24,46]:=(by simpa using Array.mem_of_getElem? ht);have hall:([9,24,46].all fun u => !Tryz.prog.wantsStandIn u)=true:=(by kernel_rfl);exact (show Tryz.prog.wantsStandIn t=false by simpa using List.all_eq_true.1 hall t hm)⟩)
   (by kernel_rfl)
end Go.Proofs.YtgbdanddbgomhaaGreatDoor
