import Derived.Test.YtgbdanddbgomhaaDoorMw8
import Derived.Test.YtgbdanddbgomhaaDoorMw4
set_option linter.unusedVariables false
set_option linter.unusedSimpArgs false
namespace Go.Proofs.YtgbdanddbgomhaaDoor
open Go Go.RowKit
section
attribute [local go_sem ↓] Go.wp_at_zero Go.wp_at_succ
theorem Tryd.infoSetM:(Tryd.prog.info? 26).map (fun i=>(i.zero,i.size,i.bytes))=some (some (.agg #[.int .u64 0,.int .u64 0,.int .u64 0,.int .u64 0]),4,32):=by kernel_rfl
theorem zne (z:Nat):(madeCells (Value.agg #[.int .u64 0,.int .u64 0,.int .u64 0,.int .u64 0]).cells (z*4)).toList=setsC (List.replicate z noneP):=by
 apply List.ext_getElem?;intro j
 by_cases hj:j<z*4
 . have hd:j=j / 4*4+j % 4:=(by omega);have hlt:j / 4<(List.replicate z noneP).length:=(by rw[List.length_replicate];omega);have h1:=zbr (List.replicate z noneP) (j / 4) (j % 4) hlt (by omega);rw[←hd] at h1;rw[h1,List.getElem_replicate,za5];have h4:j % 4=0∨j % 4=1∨j % 4=2∨j % 4=3:=(by omega);simp only[madeCells,Value.cells,Array.toList_map,Array.toList_range,List.getElem?_map,List.getElem?_range hj,Option.map_some];have hs:(#[Value.int .u64 0,.int .u64 0,.int .u64 0,.int .u64 0]:Array Value).size=4:=rfl;rcases h4 with h|h|h|h <;> simp[h]
 . rw[List.getElem?_eq_none (by simp[madeCells];omega),List.getElem?_eq_none (by rw[zdh,List.length_replicate];omega)]
theorem zge:∀ (S:List (Nat->Bool)) (p:Nat) (q:Nat->Bool),p<S.length->
   ((((setsC S).set (p*4) (.int .u64 (word q 0))).set (p*4+1) (.int .u64 (word q 1))).set (p*4+2) (.int .u64 (word q 2))).set (p*4+3) (.int .u64 (word q 3))=setsC (S.set p q)
 | [],p,q,h=>by simp at h
 | x::S,0,q,h=>by simp[setsC]
 | x::S,p+1,q,h=>by
   have ih:=zge S p q (by simpa using h);have e:∀ k,(p+1)*4+k=p*4+k+1+1+1+1:=fun k=>by omega
   have e0:(p+1)*4=p*4+1+1+1+1:=(by omega);have hc:setsC (x::S) = .int .u64 (word x 0) :: .int .u64 (word x 1) :: .int .u64 (word x 2) :: .int .u64 (word x 3)::setsC S:=(by simp[setsC]);have hc2:setsC ((x::S).set (p+1) q) = .int .u64 (word x 0) :: .int .u64 (word x 1) :: .int .u64 (word x 2) :: .int .u64 (word x 3)::setsC (S.set p q):=(by simp[setsC]);rw[hc,hc2,e0,show p*4+1+1+1+1+1=p*4+1+1+1+1+1 from rfl,←ih];simp only[List.set_cons_succ]
theorem zp6 {α:Type} (l:List α) (k P:Nat) (z x:α) (hl:l.length=P) (hk:k<P) (hx:l[k]?=some x):(l.take k++List.replicate (P-k) z).set k x=l.take (k+1)++List.replicate (P-(k+1)) z:=by
 have hs:l.take (k+1)=l.take k++[x]:=by
   rw[List.take_add_one,hx];rfl
 have hr:List.replicate (P-k) z=z::List.replicate (P-(k+1)) z:=by
   rw[show P-k=(P-(k+1))+1 by omega,List.replicate_succ]
 rw[hs,hr,List.set_append_right _ _ (by rw[List.length_take];omega),List.length_take,show k-min k l.length=0 by omega,List.append_assoc];rfl
def SetRow (w:World) (C g:Nat) (L:List (Nat->Bool)):Prop:=w.ownsRow C 26 4 (.slice (some ⟨g,0,none⟩) L.length L.length) L.length (setsC L)
section
variable {w w':World} {C g:Nat} {L:List (Nat->Bool)} {Q:Nat->Prop}
theorem SetRow.frozen (h:SetRow w C g L) (j:Nat):w.frozen? ⟨g,j,none⟩=false:=World.ownsRow.frozenAt h j
theorem SetRow.cell (h:SetRow w C g L) (k q:Nat) (hk:k<L.length) (hq:q<4):∃ x,w.cell? ⟨g,k*4+q,none⟩=some x:=by
 rw[World.ownsRow.cellAt h (k*4+q) (by omega)];exact⟨_,zbr L k q hk hq⟩
theorem SetRow.in (h:SetRow w C g L):C<=g∧g<w.heap.size:=World.ownsRow.lt h g rfl
theorem SetRow.set (h:SetRow w C g L) (p:Nat) (hp:p<L.length) (q:Nat->Bool):SetRow ((((w.setCell ⟨g,p*4,none⟩ (.int .u64 (word q 0))).setCell ⟨g,p*4+1,none⟩ (.int .u64 (word q 1))).setCell ⟨g,p*4+2,none⟩ (.int .u64 (word q 2))).setCell ⟨g,p*4+3,none⟩ (.int .u64 (word q 3))) C g (L.set p q):=by
 have s1:=(World.ownsRow.stored h (p*4) (.int .u64 (word q 0))).1;have s2:=(World.ownsRow.stored s1 (p*4+1) (.int .u64 (word q 1))).1;have s3:=(World.ownsRow.stored s2 (p*4+2) (.int .u64 (word q 2))).1;have s4:=(World.ownsRow.stored s3 (p*4+3) (.int .u64 (word q 3))).1;rw[zge _ _ _ hp] at s4;unfold SetRow;rw[List.length_set];exact s4
theorem SetRow.rd (h:SetRow w C g L):RdS w w.heap.size (some ⟨g,0,none⟩) L:=fun k hk=>by
 refine⟨g,0,rfl,h.in.2,fun q hq=>?_⟩;rw[Nat.zero_add,World.ownsRow.cellAt h (k*4+q) (by omega)];exact zbr L k q hk hq
end
set_option maxRecDepth 20000 in
set_option maxHeartbeats 2000000 in
theorem zv9 {w:World} {gr:Nat} {R:RSt} (hR:RulesIn w gr R) (hP:R.places.length<=100000):
   Calls Tryd.prog 47 #[.pointer (some ⟨gr,0,none⟩)] w fun e w'=>∃ g,e = .returned (.slice (some ⟨g,0,none⟩) R.places.length R.places.length)∧SetRow w' w.heap.size g (R.places.map Plc.set)∧Below w.heap.size w w':=by
 obtain⟨vp,vs,v1,hbox,hvs,hrow,hfol,hfirst⟩:=id hR;obtain⟨Ap,cp,hfp⟩:=zam hrow;subst hfp;have HR:=Zh hR;have r0:w.cell? ⟨gr,0,none⟩=some (.slice Ap R.places.length cp):=cell_of_row w gr 0 _ _ (0,0) hbox;have hgr:gr<w.heap.size:=za0 hbox;obtain⟨P,hP'⟩:∃ P,R.places.length=P:=⟨_,rfl⟩;rw[hP'] at r0 hP ⊢;have HP:=Zh hP';obtain⟨i0,hi,hi0,hi1,hi2⟩:=info_parts Tryd.infoSetM;obtain⟨wm,hmk,hown,hgm⟩:=run_make_full (P:=Tryd.prog) w w.heap.size 37 26 i0 _ 4 Tryd.underlying37 hi hi0 hi1 .i64 .i64 P (by rw[hi2];omega) (by unfold maxLen;omega) (Nat.le_refl _);have hbm:Below w.heap.size w wm:=(Below.refl _ _).grown hgm (Nat.le_refl _) fun q e=>by cases e
 have hu0:SetRow wm w.heap.size w.heap.size (List.replicate P noneP):=by
   unfold SetRow;rw[←zne,List.length_replicate];exact hown
 have r0':=(hbm.cell (p:=⟨gr,0,none⟩) hgr).trans r0;have HBM:=Zh hbm;have HU0:=Zh hu0;have hnpos:w.heap.size<wm.heap.size:=hu0.in.2;clear hown hgm hbm hu0 hR hbox hvs hrow hfol hfirst hP';go_enter Tryd.func47,Tryd.ntmps47;go_wp2;go_loopg [16] P (fun m i wz=>∃ k:Nat,i = .int .i64 (k:Int)∧k<=P∧m=P-k∧SetRow wz w.heap.size w.heap.size ((R.places.map Plc.set).take k++List.replicate (P-k) noneP)∧Kept (fun b=>b=w.heap.size) wm wz)
 case atStart=>exact⟨0,rfl,Nat.zero_le _,rfl,HU0.out,Kept.refl _ _⟩
 case round =>
   obtain⟨k,rfl,hk,hmk,hu,hkp⟩:=hrel;have HMK:=Zh hmk;have HU:=Zh hu;have HKP:=Zh hkp;clear hmk hu hkp
   by_cases hkP:k<P
   . have hks:k<R.places.length:=(by rw[HP.out];exact hkP);obtain⟨cu0,hcu0⟩:∃ cur,wm.heap[w.heap.size]?=some (.cells cur 26 (0,0)):=zaa HU0.out rfl;have hRw:RulesIn wr gr R:=(HR.out.stays HBM.out).kept HKP.out fun b q _=>⟨cu0,26,by rw[q];exact hcu0,by decide,by decide,by decide⟩
     obtain⟨gp,cp',v,r0w,hpc,-,hgp,-⟩:=hRw.at (List.getElem?_eq_getElem hks);obtain⟨p,hp⟩:∃ p,R.places[k]'hks=p:=⟨_,rfl⟩;rw[hp] at hpc;have HPK:=Zh hp;have c0:=hpc 0 _ rfl;have c1:=hpc 1 _ rfl;have c2:=hpc 2 _ rfl;have c3:=hpc 3 _ rfl;rw[Nat.add_zero] at c0;rw[HP.out] at r0w;have hkl:k<((R.places.map Plc.set).take k++List.replicate (P-k) noneP).length:=(by simp[HP.out];omega);obtain⟨x0,n0⟩:=HU.out.cell k 0 hkl (by decide);obtain⟨x1,n1⟩:=HU.out.cell k 1 hkl (by decide);obtain⟨x2,n2⟩:=HU.out.cell k 2 hkl (by decide);obtain⟨x3,n3⟩:=HU.out.cell k 3 hkl (by decide);rw[Nat.add_zero] at n0;clear hkl;have hf0:=HU.out.frozen (k*4);have hf1:=HU.out.frozen (k*4+1);have hf2:=HU.out.frozen (k*4+2);have hf3:=HU.out.frozen (k*4+3);have k0:(0:Int)<=(k:Int):=(by omega);have k1:(k:Int)<(P:Int):=(by omega);clear hpc hRw hp;go_wp2;go_roundg (P-(k+1))
     case measure=>have:=HMK.out;omega
     case rel =>
       have hset:=HU.out.set k (by simp[HP.out];omega) p.set;have hL:((R.places.map Plc.set).take k++List.replicate (P-k) noneP).set k p.set=(R.places.map Plc.set).take (k+1)++List.replicate (P-(k+1)) noneP:=zp6 _ k P noneP p.set (by rw[List.length_map];exact HP.out) hkP (by rw[List.getElem?_map,List.getElem?_eq_getElem hks,HPK.out];rfl);rw[hL] at hset;exact⟨k+1,by go_num,by omega,rfl,hset,(((HKP.out.setCell (a:=⟨w.heap.size,_,none⟩) (.inl rfl) _).setCell (a:=⟨w.heap.size,_,none⟩) (.inl rfl) _).setCell (a:=⟨w.heap.size,_,none⟩) (.inl rfl) _).setCell (a:=⟨w.heap.size,_,none⟩) (.inl rfl) _⟩
   . have hkn:k=P:=(by omega);go_wp2;go_ret;have hu:=HU.out;rw[hkn,List.take_of_length_le (by rw[List.length_map,HP.out];exact Nat.le_refl _),Nat.sub_self,List.replicate_zero,List.append_nil] at hu;exact⟨_,rfl,hu,HBM.out.trans (HKP.out.below (Nat.le_of_lt hnpos) fun b e=>by omega)⟩
end
end Go.Proofs.YtgbdanddbgomhaaDoor
