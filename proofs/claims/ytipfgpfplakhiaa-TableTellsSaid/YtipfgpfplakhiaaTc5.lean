import Derived.Test.YtipfgpfplakhiaaTc3
set_option linter.unusedVariables false
set_option linter.unusedSimpArgs false
set_option maxRecDepth 20000
set_option maxHeartbeats 4000000
namespace Go.Proofs.Ytipfgpfplakhiaa
open Go Go.RowKit
section
attribute [local go_sem ↓] Go.wp_at_zero Go.wp_at_succ
theorem Try.infoSetM:(Try.prog.info? 64).map (fun i=>(i.zero,i.size,i.bytes))=some (some (.agg #[.int .u64 0,.int .u64 0,.int .u64 0,.int .u64 0]),4,32):=by kernel_rfl
theorem ztj (z:Nat):(madeCells (Value.agg #[.int .u64 0,.int .u64 0,.int .u64 0,.int .u64 0]).cells (z*4)).toList=zb8 (List.replicate z zaa):=by
 apply yil;intro j
 by_cases hj:j<z*4
 .have hd:j=j / 4*4+j % 4:=yjz;have hlt:j / 4<(List.replicate z zaa).length:=(by rw[yhp];omega);have h1:=zcs (List.replicate z zaa) (j / 4) (j % 4) hlt yjz;rw[←hd] at h1;rw[h1,List.getElem_replicate,zah];have h4:j % 4=0∨j % 4=1∨j % 4=2∨j % 4=3:=yjz;simp only[madeCells,Value.cells,Array.toList_map,Array.toList_range,yhj,yir hj,Option.map_some];have hs:(#[Value.int .u64 0,.int .u64 0,.int .u64 0,.int .u64 0]:Array Value).size=4:=rfl;rcases h4 with h|h|h|h <;> simp[h]
 .rw[yh6 (by simp[madeCells];omega),yh6 (by rw[zet,yhp];omega)]
theorem zl4:∀ (S:List (Nat->Bool)) (p:Nat) (q:Nat->Bool),p<S.length->
 ((((zb8 S).set (p*4) (.int .u64 (word q 0))).set (p*4+1) (.int .u64 (word q 1))).set (p*4+2) (.int .u64 (word q 2))).set (p*4+3) (.int .u64 (word q 3))=zb8 (S.set p q)
 | [],p,q,h=>by simp at h
 | x::S,0,q,h=>by simp[zb8]
 | x::S,p+1,q,h=>by
  have ih:=zl4 S p q ykc;have e:∀ k,(p+1)*4+k=p*4+k+1+1+1+1:=fun k=>by omega
  have e0:(p+1)*4=p*4+1+1+1+1:=yjz;have hc:zb8 (x::S) = .int .u64 (word x 0) :: .int .u64 (word x 1) :: .int .u64 (word x 2) :: .int .u64 (word x 3)::zb8 S:=(by simp[zb8]);have hc2:zb8 ((x::S).set (p+1) q) = .int .u64 (word x 0) :: .int .u64 (word x 1) :: .int .u64 (word x 2) :: .int .u64 (word x 3)::zb8 (S.set p q):=(by simp[zb8]);rw[hc,hc2,e0,show p*4+1+1+1+1+1=p*4+1+1+1+1+1 from rfl,←ih];simp only[List.set_cons_succ]
theorem zvg {α:Type} (l:List α) (k P:Nat) (z x:α) (hl:l.length=P) (hk:k<P) (hx:l[k]?=some x):(l.take k++List.replicate (P-k) z).set k x=l.take (k+1)++List.replicate (P-(k+1)) z:=by
 have hs:l.take (k+1)=l.take k++[x]:=by
  rw[yjp,hx];rfl
 have hr:List.replicate (P-k) z=z::List.replicate (P-(k+1)) z:=by
  rw[show P-k=(P-(k+1))+1 by omega,List.replicate_succ]
 rw[hs,hr,yjl _ _ (by rw[yi9];omega),yi9,show k-min k l.length=0 by omega,yhe];rfl
def SetRow (w:World) (C g:Nat) (L:List (Nat->Bool)):Prop:=w.ownsRow C 64 4 (.slice (some ⟨g,0,none⟩) L.length L.length) L.length (zb8 L)
section
variable {w w':World} {C g:Nat} {L:List (Nat->Bool)} {Q:Nat->Prop}
theorem SetRow.frozen (h:SetRow w C g L) (j:Nat):w.frozen? ⟨g,j,none⟩=false:=yhh h j
theorem SetRow.cell (h:SetRow w C g L) (k q:Nat) (hk:k<L.length) (hq:q<4):∃ x,w.cell? ⟨g,k*4+q,none⟩=some x:=by
 rw[ygt h (k*4+q) yjz];exact⟨_,zcs L k q hk hq⟩
theorem SetRow.in (h:SetRow w C g L):C<=g∧g<w.heap.size:=ygs h g rfl
theorem SetRow.set (h:SetRow w C g L) (p:Nat) (hp:p<L.length) (q:Nat->Bool):SetRow ((((w.setCell ⟨g,p*4,none⟩ (.int .u64 (word q 0))).setCell ⟨g,p*4+1,none⟩ (.int .u64 (word q 1))).setCell ⟨g,p*4+2,none⟩ (.int .u64 (word q 2))).setCell ⟨g,p*4+3,none⟩ (.int .u64 (word q 3))) C g (L.set p q):=by
 have s1:=(yhk h (p*4) (.int .u64 (word q 0))).1;have s2:=(yhk s1 (p*4+1) (.int .u64 (word q 1))).1;have s3:=(yhk s2 (p*4+2) (.int .u64 (word q 2))).1;have s4:=(yhk s3 (p*4+3) (.int .u64 (word q 3))).1;rw[zl4 _ _ _ hp] at s4;unfold SetRow;rw[yjk];exact s4
theorem SetRow.rd (h:SetRow w C g L):RdS w w.heap.size (some ⟨g,0,none⟩) L:=fun k hk=>by
 refine⟨g,0,rfl,h.in.2,fun q hq=>?_⟩;rw[yhm,ygt h (k*4+q) yjz];exact zcs L k q hk hq
end
theorem ydk {w:World} {gr:Nat} {R:RSt} (hR:RulesIn w gr R) (hP:R.places.length<=100000):
 Calls Try.prog 34 #[.pointer (some ⟨gr,0,none⟩)] w fun e w'=>∃ g,e = .returned (.slice (some ⟨g,0,none⟩) R.places.length R.places.length)∧SetRow w' w.heap.size g (R.places.map Plc.set)∧Below w.heap.size w w':=by
 obtain⟨vp,vs,v1,hbox,hvs,hrow,hfol,hfirst⟩:=id hR;obtain⟨Ap,cp,hfp⟩:=zaf hrow;subst hfp;have HR:=Zh hR;have r0:w.cell? ⟨gr,0,none⟩=some (.slice Ap R.places.length cp):=cell_of_row w gr 0 _ _ (0,0) hbox;have hgr:gr<w.heap.size:=za1 hbox;obtain⟨P,hP'⟩:∃ P,R.places.length=P:=⟨_,rfl⟩;rw[hP'] at r0 hP ⊢;have HP:=Zh hP';obtain⟨i0,hi,hi0,hi1,hi2⟩:=info_parts Try.infoSetM;obtain⟨wm,hmk,hown,hgm⟩:=run_make_full (P:=Try.prog) w w.heap.size 74 64 i0 _ 4 Try.underlying74 hi hi0 hi1 .i64 .i64 P (by rw[hi2];omega) yka (ygo _);have hbm:Below w.heap.size w wm:=(ygr _ _).grown hgm (ygo _) fun q e=>by cases e
 have hu0:SetRow wm w.heap.size w.heap.size (List.replicate P zaa):=by
  unfold SetRow;rw[←ztj,yhp];exact hown
 have r0':=(hbm.cell (p:=⟨gr,0,none⟩) hgr).trans r0;have HBM:=Zh hbm;have HU0:=Zh hu0;have hnpos:w.heap.size<wm.heap.size:=hu0.in.2;clear hown hgm hbm hu0 hR hbox hvs hrow hfol hfirst hP';go_enter Try.func34,Try.ntmps34;go_wp2;go_loopg [16] P (fun m i wz=>∃ k:Nat,i = .int .i64 (k:Int)∧k<=P∧m=P-k∧SetRow wz w.heap.size w.heap.size ((R.places.map Plc.set).take k++List.replicate (P-k) zaa)∧Kept (fun b=>b=w.heap.size) wm wz)
 case atStart=>exact⟨0,rfl,ygy _,rfl,HU0.o,Kept.refl _ _⟩
 case round =>
  obtain⟨k,rfl,hk,hmk,hu,hkp⟩:=hrel;have HMK:=Zh hmk;have HU:=Zh hu;have HKP:=Zh hkp;clear hmk hu hkp
  by_cases hkP:k<P
  .have hks:k<R.places.length:=(by rw[HP.o];exact hkP);obtain⟨cu0,hcu0⟩:∃ cur,wm.heap[w.heap.size]?=some (.cells cur 64 (0,0)):=za8 HU0.o rfl;have hRw:RulesIn wr gr R:=(HR.o.stays HBM.o).kept HKP.o fun b q _=>⟨cu0,64,by rw[q];exact hcu0,by decide,by decide,by decide⟩
   obtain⟨gp,cp',v,r0w,hpc,-,hgp,-⟩:=hRw.at (ygn hks);obtain⟨p,hp⟩:∃ p,R.places[k]'hks=p:=⟨_,rfl⟩;rw[hp] at hpc;have HPK:=Zh hp;have c0:=hpc 0 _ rfl;have c1:=hpc 1 _ rfl;have c2:=hpc 2 _ rfl;have c3:=hpc 3 _ rfl;rw[yi2] at c0;rw[HP.o] at r0w;have hkl:k<((R.places.map Plc.set).take k++List.replicate (P-k) zaa).length:=(by simp[HP.o];omega);obtain⟨x0,n0⟩:=HU.o.cell k 0 hkl yk6;obtain⟨x1,n1⟩:=HU.o.cell k 1 hkl yk6;obtain⟨x2,n2⟩:=HU.o.cell k 2 hkl yk6;obtain⟨x3,n3⟩:=HU.o.cell k 3 hkl yk6;rw[yi2] at n0;clear hkl;have hf0:=HU.o.frozen (k*4);have hf1:=HU.o.frozen (k*4+1);have hf2:=HU.o.frozen (k*4+2);have hf3:=HU.o.frozen (k*4+3);have k0:(0:Int)<=(k:Int):=yjz;have k1:(k:Int)<(P:Int):=yjz;clear hpc hRw hp;go_wp2;go_roundg (P-(k+1))
   case measure=>have:=HMK.o;omega
   case rel =>
    have hset:=HU.o.set k (by simp[HP.o];omega) p.set;have hL:((R.places.map Plc.set).take k++List.replicate (P-k) zaa).set k p.set=(R.places.map Plc.set).take (k+1)++List.replicate (P-(k+1)) zaa:=zvg _ k P zaa p.set (by rw[yh8];exact HP.o) hkP (by rw[yhj,ygn hks,HPK.o];rfl);rw[hL] at hset;exact⟨k+1,by go_num,by omega,rfl,hset,(((HKP.o.setCell (a:=⟨w.heap.size,_,none⟩) (.inl rfl) _).setCell (a:=⟨w.heap.size,_,none⟩) (.inl rfl) _).setCell (a:=⟨w.heap.size,_,none⟩) (.inl rfl) _).setCell (a:=⟨w.heap.size,_,none⟩) (.inl rfl) _⟩
  .have hkn:k=P:=yjz;go_wp2;go_ret;have hu:=HU.o;rw[hkn,yhg (by rw[yh8,HP.o];exact ygo _),yi3,List.replicate_zero,yht] at hu;exact⟨_,rfl,hu,HBM.o.trans (HKP.o.below (yix hnpos) fun b e=>by omega)⟩
end
end Go.Proofs.Ytipfgpfplakhiaa
