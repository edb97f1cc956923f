/-
  WHAT IS PROVED: The machine that table.Build makes of any rules, of any lambda, with any bound, is the least machine that the document tells, or what is amiss is told as the document tells it: the statement TableTells, for all inputs. Conditions: none.
-/
import Derived.Test.YtipfgpfplakhiaaTc47
import Derived.ChangeMaps5
set_option linter.unusedVariables false
set_option linter.unusedSimpArgs false
namespace Go.Proofs.Ytipfgpfplakhiaa
open Go Go.ChangeShapes Go.WideShapes Go.ChangeAt Go.RowKit
set_option maxRecDepth 100000 in
theorem tableTells_lifted (os:Os) (started:os.Started) (H:Type) (enc:TypeId×Value->H):
 ReturnsInHanded {} Try.checked os 4 .any (Rows.tableTellsSpec.pre6 enc Try.prog Try.f4 Rows.tableTellsRow.domain false) (Rows.tableTellsSpec.post enc Try.prog Try.f4 false true false false):=by
 refine returnsInHanded_of_change (C:=Try.checked) Try.ownKnobNone started yk2 Try.func4
  (ChangeSpec.witness6 (enc:=enc) (C:=Try.checked) false ⟨#[],#[.slice none 0 0,.slice none 0 0,.int .i64 0,.int .i64 0],[]⟩ 8 yk2 yk2 yk2 yk2) ?_
 intro W base args ds gs before hval0 hW hcnd _;have hval:∀ (j:Nat) t v,Try.f4.params[j]?=some t->args[j]?=some v->Value.okWide Try.prog W .any base t v:=hval0;have hW':=hW;obtain⟨p,q,hA0,hV,rfl,hfz,hnd⟩:=hW;have hA:DataW.TrodAll enc Try.prog W 0 (fun _=>true) true Try.f4.params.toList args.toList ds p:=hA0;rw[Try.params4] at hA hval;obtain⟨v0,vs0,d0,ds0,p0,q0,hargs,rfl,rfl,h0,r0⟩:=trodAll_cons hA;obtain⟨v1,vs1,d1,ds1,p1,q1,rfl,rfl,rfl,h1,r1⟩:=trodAll_cons r0;obtain⟨v2,vs2,d2,ds2,p2,q2,rfl,rfl,rfl,h2,r2⟩:=trodAll_cons r1;obtain⟨v3,vs3,d3,ds3,p3,q3,rfl,rfl,rfl,h3,r3⟩:=trodAll_cons r2;obtain⟨rfl,rfl,rfl⟩:=trodAll_nil r3;obtain rfl:args=#[v0,v1,v2,v3]:=by cases args;simp_all
 obtain⟨rfl,rfl⟩:=trodVars_none hV;have lt0:∀ x∈p0,x.block<W.heap.size:=(by obtain⟨m,hm⟩:=h0;exact DataW.trod_lt m _ _ _ hm);have lt1:∀ x∈p1,x.block<W.heap.size:=(by obtain⟨m,hm⟩:=h1;exact DataW.trod_lt m _ _ _ hm);have lt2:∀ x∈p2,x.block<W.heap.size:=(by obtain⟨m,hm⟩:=h2;exact DataW.trod_lt m _ _ _ hm);have lt3:∀ x∈p3,x.block<W.heap.size:=(by obtain⟨m,hm⟩:=h3;exact DataW.trod_lt m _ _ _ hm);obtain⟨A0,n0,cp0,L,rfl,rfl,rs0,le0,cm0,sy0⟩:=ztx (hval 0 22 v0 rfl rfl) h0;have lm0:L.length<=9223372036854775807:=(by unfold maxLen at cm0;omega);have sz0:∀ s∈L,s.size<=9223372036854775807:=fun s hs=>by have:=sy0 s hs;unfold maxLen at this;omega
 obtain⟨A1,n1,cp1,bs,rfl,rfl,rb1,le1,cm1⟩:=zqb (hval 1 23 v1 rfl rfl) h1;have lm1:bs.length<=9223372036854775807:=(by unfold maxLen at cm1;omega);obtain⟨lam,rfl,_,_,z2⟩:=open_int Try.underlying3 (hval 2 3 v2 rfl rfl) h2;obtain⟨c2,e2⟩:=bounds_i64 z2;obtain⟨most,rfl,_,_,z3⟩:=open_int Try.underlying3 (hval 3 3 v3 rfl rfl) h3;obtain⟨c3,e3⟩:=bounds_i64 z3;clear hA0 hval0;refine (znt W A0 cp0 L A1 cp1 bs lam most rs0 lm0 sz0 rb1 lm1 c2 e2 c3 e3).mono fun e W' ⟨he,bel⟩=>?_
 subst he;exact⟨_,rfl,_,_,_,[],_,[],hW',trodAll_mk1 (shut_bool Try.underlying4 _),
  (trodAll_cons_mk (Below.trod Try.laidOutOk yk2 (of_decide_eq_true yk2) h0 bel lt0) (trodAll_cons_mk (Below.trod Try.laidOutOk yk2 (of_decide_eq_true yk2) h1 bel lt1) (trodAll_cons_mk (Below.trod Try.laidOutOk yk2 (of_decide_eq_true yk2) h2 bel lt2) (trodAll_cons_mk (Below.trod Try.laidOutOk yk2 (of_decide_eq_true yk2) h3 bel lt3) trodAll_mk0)))),
  rfl,bel.frame _,fun h=>by cases h⟩
theorem tableTells_holds:Rows.TableTellsSaid:=
 OpenClaim.holds_of_wide 4 Try.f4 rfl rfl rfl rfl rfl rfl rfl ⟨rfl,rfl,rfl,rfl,rfl⟩ rfl rfl rfl rfl rfl yk2 Try.func4 yk2
  (of_decide_eq_true yk2) (by unfold Func.isWrapper;first | (rw[if_pos (by decide +kernel)];kernel_rfl) | (rw[if_neg (by decide +kernel)];exact⟨rfl,rfl⟩))
  (fun os started H enc _=>tableTells_lifted os started H enc)
end Go.Proofs.Ytipfgpfplakhiaa
