/-
  WHAT IS PROVED: for all texts l, truths luhn, every lambda and all bytes w the law TableWords (layer 16, promise P16.3) returns true and leaves its arguments as they were: the tied card: the table of math/bits.TrailingZeros64 reads as the program's own text lays it. Conditions: none beside the card's own tie.
-/
import Derived.Test.YtipfgpfplakhiaaDoorTw46
set_option linter.unusedVariables false
set_option linter.unusedSimpArgs false
namespace Go.Proofs.YtipfgpfplakhiaaDoor
open Go Go.ChangeShapes Go.WideShapes Go.ChangeAt Go.RowKit
set_option maxRecDepth 100000 in
theorem tableWords_lifted (os:Os) (started:os.Started) (H:Type) (enc:TypeId×Value->H):
 ReturnsInHanded {} Tryd.checked os 4 .any (fun w args=>(Rows.tableWordsSpec.pre enc Tryd.prog Tryd.f4 [] false w args∧laidMetH Tryd.prog zl8 w)∧sizedMet enc Tryd.prog Tryd.f4 (OpenSpec.ofChange Rows.tableWordsSpec) false w args)
  (Rows.tableWordsSpec.post enc Tryd.prog Tryd.f4 false true false false):=by
 refine returnsInHanded_of_change_and (C:=Tryd.checked) (X:=fun w _=>laidMetH Tryd.prog zl8 w) (fun _ _ _ hh h=>h.of_heap hh) Tryd.ownKnobNone started yih Tryd.func4
  (ChangeSpec.witness_shaped (enc:=enc) (C:=Tryd.checked) (os:=os) (X:=fun w _=>laidMetH Tryd.prog zl8 w) false (World.doorLaid Tryd.prog 14 os) #[.slice none 0 0,.slice none 0 0,.int .i64 0,.slice none 0 0] 8 rfl (World.shaped_of_RefB yih yih) yih yih yih (zzv os _)) ?_
 intro W base args ds gs before hval0 hW _ _ hL _;have hval:∀ (j:Nat) t v,Tryd.f4.params[j]?=some t->args[j]?=some v->Value.okWide Tryd.prog W .any base t v:=hval0;have hW':=hW;obtain⟨p,q,hA0,hV,rfl,hfz,hnd⟩:=hW;have hA:DataW.TrodAll enc Tryd.prog W 0 (fun _=>true) true Tryd.f4.params.toList args.toList ds p:=hA0;rw[Tryd.params4] at hA hval;obtain⟨v0,vs0,d0,ds0,p0,q0,hargs,rfl,rfl,h0,r0⟩:=trodAll_cons hA;obtain⟨v1,vs1,d1,ds1,p1,q1,rfl,rfl,rfl,h1,r1⟩:=trodAll_cons r0;obtain⟨v2,vs2,d2,ds2,p2,q2,rfl,rfl,rfl,h2,r2⟩:=trodAll_cons r1;obtain⟨v3,vs3,d3,ds3,p3,q3,rfl,rfl,rfl,h3,r3⟩:=trodAll_cons r2;obtain⟨rfl,rfl,rfl⟩:=trodAll_nil r3;obtain rfl:args=#[v0,v1,v2,v3]:=by cases args;simp_all
 obtain⟨rfl,rfl⟩:=trodVars_none hV;have lt0:∀ x∈p0,x.block<W.heap.size:=(by obtain⟨m,hm⟩:=h0;exact DataW.trod_lt m _ _ _ hm);have lt1:∀ x∈p1,x.block<W.heap.size:=(by obtain⟨m,hm⟩:=h1;exact DataW.trod_lt m _ _ _ hm);have lt2:∀ x∈p2,x.block<W.heap.size:=(by obtain⟨m,hm⟩:=h2;exact DataW.trod_lt m _ _ _ hm);have lt3:∀ x∈p3,x.block<W.heap.size:=(by obtain⟨m,hm⟩:=h3;exact DataW.trod_lt m _ _ _ hm);obtain⟨A0,n0,cp0,l,rfl,rfl,rs0,le0,cm0,sy0⟩:=zt9 (hval 0 22 v0 rfl rfl) h0;have lm0:l.length<=9223372036854775807:=(by unfold maxLen at cm0;omega);have sz0:∀ s∈l,s.size<=9223372036854775807:=fun s hs=>by have:=sy0 s hs;unfold maxLen at this;omega
 obtain⟨A1,n1,cp1,b,rfl,rfl,rb1,le1,cm1⟩:=zpu (hval 1 23 v1 rfl rfl) h1;have lm1:b.length<=9223372036854775807:=(by unfold maxLen at cm1;omega);obtain⟨lam,rfl,_,_,z2⟩:=open_int Tryd.underlying3 (hval 2 3 v2 rfl rfl) h2;obtain⟨c2,e2⟩:=bounds_i64 z2;obtain⟨A3,n3,cp3,xs,rfl,rfl,rd3,by3,le3,cm3⟩:=zta (hval 3 24 v3 rfl rfl) h3;have htab:=zpi hL;clear hA0 hval0;refine (znq (w:=W) (ca:=cp0) (cb:=cp1) (cc:=cp3) rs0 rb1 lm0 lm1 sz0 ⟨c2,e2⟩ rd3 by3 ⟨le3,by unfold maxLen at cm3;omega⟩ htab).mono fun e W' ⟨he,bel⟩=>?_
 subst he;exact⟨_,rfl,_,_,_,[],_,[],hW',trodAll_mk1 (shut_bool Tryd.underlying4 _),
  (trodAll_cons_mk (Below.trod Tryd.laidOutOk yih (of_decide_eq_true yih) h0 bel lt0) (trodAll_cons_mk (Below.trod Tryd.laidOutOk yih (of_decide_eq_true yih) h1 bel lt1) (trodAll_cons_mk (Below.trod Tryd.laidOutOk yih (of_decide_eq_true yih) h2 bel lt2) (trodAll_cons_mk (Below.trod Tryd.laidOutOk yih (of_decide_eq_true yih) h3 bel lt3) trodAll_mk0)))),
  rfl,bel.frame _,fun h=>by cases h⟩
theorem tableWords_said:Rows.TableWordsSaid:=
 OpenClaim.holds_of_wide 4 Tryd.f4 rfl rfl rfl rfl rfl rfl rfl ⟨rfl,rfl,rfl,rfl,rfl⟩ rfl rfl rfl rfl rfl yih Tryd.func4 yih
  (of_decide_eq_true yih) (by unfold Func.isWrapper;first | (rw[if_pos (by decide +kernel)];kernel_rfl) | (rw[if_neg (by decide +kernel)];exact⟨rfl,rfl⟩))
  (fun os started H enc _=>tableWords_lifted os started H enc)
theorem tableWords_card:Rows.TableWordsCardSaid:=
 Claim7.holds_tied_plain_at .later [] [.data] true (true, "caf2bfbeb7403c65dc1a4548bd5d275accd3c7a45d8f0bff09be1bbc0117957e") true
  tableWords_said (fun _ h=>by cases h) yih (fun _ h=>by cases h) tableWords_row_tie rfl ⟨rfl,rfl⟩ yih rfl
  (fun f fn hf hfn=>by
    obtain rfl : f = 4 := yia ((show Tryd.prog.funcNamed "snaffle/snafflelaw16.TableWords" = some 4 by kernel_rfl).symm.trans hf) |>.symm;obtain rfl:fn=Tryd.f4:=(yia (Tryd.func4.symm.trans hfn)).symm;exact ⟨by kernel_rfl,fun j t ht=>by
     rw[Tryd.params4] at ht;have hm:t∈[22,23,3,24]:=(by simpa using Array.mem_of_getElem? ht);have hall:([22,23,3,24].all fun u => !Tryd.prog.wantsStandIn u)=true:=yih;exact (show Tryd.prog.wantsStandIn t=false by simpa using List.all_eq_true.1 hall t hm)⟩)
  yih
end Go.Proofs.YtipfgpfplakhiaaDoor
