import Derived.Test.YtipfgpfplakhiaaTc14
import Derived.Test.YtipfgpfplakhiaaTc11
set_option linter.unusedVariables false
set_option linter.unusedSimpArgs false
set_option maxRecDepth 20000
set_option maxHeartbeats 4000000
namespace Go.Proofs.Ytipfgpfplakhiaa
open Go Go.RowKit
section
attribute [local go_sem ↓] Go.wp_at_zero Go.wp_at_succ
def zcr (l:List Nat) (n:Nat):List Nat:=(List.range n).filter fun x=>l.contains x
theorem zzn (l:List Nat) (n x:Nat) (h:x∈zcr l n):x<n:=by
 unfold zcr at h;simp at h;exact h.1
theorem zvd (l:List Nat) (n x:Nat):x∈zcr l n↔x<n∧x∈l:=by simp[zcr]
theorem zve (l:List Nat) (n:Nat):(zcr l n).length<=n:=by
 have:=yj1 (fun x=>l.contains x) (List.range n)
 simpa [zcr] using this
theorem zth (l:List Nat) (n:Nat):zcr l (n+1)=zcr l n++(if l.contains n then [n] else []):=by
 simp only[zcr,yi6,yiu];cases hc:l.contains n
 .rw[List.filter_cons_of_neg (by rw[hc];decide)];simp
 .rw[yj9 hc];simp
theorem zvf (l:List Nat) (n:Nat) (c:Bool):addL (ns (zcr l n++(if c=true then [n] else []))) (n:Int)=ns (zcr l n++[n]):=by
 unfold addL;cases c
 .have hn:¬ (n:Int)∈ns (zcr l n):=by
   intro h;simp only[ns,yhx] at h;obtain⟨x,hx,e⟩:=h;have:=zzn l n x hx;have e':(x:Int)=(n:Int):=e;omega
  simp only[yi0,if_false,yht,yjn];rw[if_neg hn];simp[ns]
 .simp only[if_true,yjn];rw[if_pos];simp[ns]
theorem ybe (l:List Nat) (i n:Nat) (h:i<l.length):(l.take (i+1)).contains n=((l.take i).contains n||l[i]'h==n):=by
 rw[yh2 h,yie];simp only[yjn,yh7,yha,yju,beq_iff_eq];exact or_congr Iff.rfl ⟨fun e=>e.symm,fun e=>e.symm⟩
theorem zra {w:World} {B:Nat} {v:Value} {l:List Nat} (h:Ints w B v (ns l)) (hl:l.length<=100000):
 Calls Try.prog 45 #[v] w (zff w (zcr l 300)):=by
 obtain⟨A,c,rfl⟩:=h.form;have hA:∀ (j:Nat) (hj:j<l.length),∃ g,A=some ⟨g,0,none⟩∧g<w.heap.size∧w.cell? ⟨g,j,none⟩=some (.int .i64 ((l[j]:Nat):Int)):=by
  intro j hj;obtain⟨g,c',e,_,hg,hc⟩:=h.at j (by rw[za9];exact hj);injection e with e
  exact⟨g,e,hg,by rw[hc];simp[ns]⟩
 generalize hlen:(ns l).length=L at *;have hlL:l.length=L:=(by rw[←hlen,za9]);rw[hlL] at hl;have HL:=Zh hlL;have HA:=Zh hA;clear h hA hlen hlL;go_enter Try.func45,Try.ntmps45;go_wp2;go_loopg [3,4] 300 (fun m out n wr=>∃ q:Nat,n = .int .i64 (q:Int)∧q<=300∧m=300-q∧Ints wr w.heap.size out (ns (zcr l q))∧Below w.heap.size w wr)
 case atStart=>exact⟨0,rfl,by omega,rfl,Ints.nil _ _,ygr _ _⟩
 case round =>
  obtain⟨q,rfl,hq,hmq,hout,hW⟩:=hrel;have HMQ:=Zh hmq;have HOUT:=Zh hout;have HW:=Zh hW;clear hmq hout hW
  by_cases hqt:q<300
  .go_wp2;have hd:decide ((q:Int)<300)=true:=yk8;rw[hd];clear hd;go_loopg [3,5] L (fun m out i wq=>∃ j:Nat,i = .int .i64 (j:Int)∧j<=L∧m=L-j∧Ints wq w.heap.size out (ns (zcr l q++(if (l.take j).contains q=true then [q] else [])))∧Below w.heap.size w wq)
   case atStart=>exact⟨0,rfl,by omega,rfl,by simpa using HOUT.o,HW.o⟩
   case round =>
    obtain⟨j,rfl,hj,hmj,hout2,hW2⟩:=hrel;have HMJ:=Zh hmj;have HOUT2:=Zh hout2;have HW2:=Zh hW2;clear hmj hout2 hW2
    by_cases hjt:j<L
    .have hjt':j<l.length:=(by rw[HL.o];exact hjt);obtain⟨g,e1,hg,hc⟩:=HA.o j hjt';subst e1;have hht:=ybe l j q hjt';generalize l[j]'hjt'=x at *;have hcell:wr.cell? ⟨g,j,none⟩=some (.int .i64 (x:Int)):=(HW2.o.cell (p:=⟨g,j,none⟩) hg).trans hc;have hbl:(ns (zcr l q++(if (l.take j).contains q=true then [q] else []))).length<=1000000:=by
      have:=zve l q;rw[za9,ygu];split <;> simp <;> omega
     have HADD:=Zh (ygh wr w.heap.size _ (ns (zcr l q++(if (l.take j).contains q=true then [q] else []))) (q:Int) HOUT2.o HW2.o.size hbl);have hadd:=zvf l q ((l.take j).contains q);have HHT:=Zh hht;unfold ycr at HADD;rw[hadd] at HADD;clear hht hadd hbl hc;cases hxq:((x:Int)==(q:Int))
     .go_wp2;go_roundg (L-(j+1))
      case measure=>have:=HMJ.o;omega
      case rel =>
       have e:(x==q)=false:=by
        have:¬ (x:Int)=(q:Int):=by simpa using hxq
        simp;omega
       exact⟨j+1,by go_num,by omega,rfl,by rw[HHT.o,e,Bool.or_false];exact HOUT2.o,HW2.o⟩
     .go_wp2_with (first
       | (go_at_call 63;(with_reducible refine HADD.o.mono ?_);rintro e w6 ⟨v6,rfl,hi6,hg6,hv6⟩)
       | fail)
      go_roundg (L-(j+1))
      case measure=>have:=HMJ.o;omega
      case rel =>
       have e:(x==q)=true:=by
        have:(x:Int)=(q:Int):=by simpa using hxq
        simp;omega
       exact⟨j+1,by go_num,by omega,rfl,by rw[HHT.o,e,Bool.or_true];exact hi6,HW2.o.grown hg6 HW2.o.size (zrm HOUT2.o)⟩
    .have hjn:l.take j=l:=yhg ykq;rw[hjn,←zth] at HOUT2;clear hjn;go_wp2;go_roundg (300-(q+1))
     case measure=>have:=HMQ.o;omega
     case rel=>exact⟨q+1,by go_num,by omega,rfl,HOUT2.o,HW2.o⟩
  .have hqn:q=300:=yjz;subst hqn;go_wp2;go_ret;exact⟨_,rfl,HOUT.o,HW.o⟩
end
section
open Go
theorem zvv:∀ (l m:List Nat),l.Pairwise (· < ·)->m.Pairwise (· < ·)->(∀ x,x∈l↔x∈m)->l=m
 | [],[],_,_,_=>rfl
 | [],y::m,_,_,h=>by have:=(h y).2 yk3;simp at this
 | x::l,[],_,_,h=>by have:=(h x).1 yk3;simp at this
 | x::l,y::m,hl,hm,h=>by
  rw[yhq] at hl hm;have e:x=y:=by
   have h1:=(h x).1 yk3;have h2:=(h y).2 yk3;simp only[yh4] at h1 h2;rcases h1 with h1|h1
   .exact h1
   .rcases h2 with h2|h2
    .exact h2.symm
    .have:=hm.1 x h1;have:=hl.1 y h2;omega
  subst e;refine congrArg _ (zvv l m hl.2 hm.2 fun z=>⟨fun hz=>?_,fun hz=>?_⟩)
  .have h1:=(h z).1 (by simp[hz]);simp only[yh4] at h1;rcases h1 with h1|h1
   .have:=hl.1 z hz;omega
   .exact h1
  .have h1:=(h z).2 (by simp[hz]);simp only[yh4] at h1;rcases h1 with h1|h1
   .have:=hm.1 z hz;omega
   .exact h1
theorem zti (l:List Nat) (n:Nat):(zcr l n).Pairwise (· < ·):=by
 unfold zcr;exact List.pairwise_lt_range.filter _
theorem zrb {l m:List Nat} {n:Nat} (hm:m.Pairwise (· < ·)) (h:∀ x,x∈l↔x∈m) (hlt:∀ x∈m,x<n):zcr l n=m:=
 zvv _ _ (zti _ _) hm fun x=>by
  rw[zvd,h];exact⟨fun h=>h.2,fun hx=>⟨hlt x hx,hx⟩⟩
def start (z:Nat):Lay:=⟨List.replicate z zaa,List.replicate z []⟩
theorem zul {t:T} (hwf:WF t) (h256:plR t<=256):
 plT (zaq t)=plR t∧(folL (zaq t) 0 (start (plR t))).sets=(lay0 t).1.sets∧(folL (zaq t) 0 (start (plR t))).follow.map (fun l=>zcr l 300)=(lay0 t).1.follow∧
 zcr (fstT (zaq t) 0) 300=(lay0 t).2.first∧(∀ j,(lstT (zaq t) 0).contains j=(lay0 t).2.last.contains j)∧zau (zaq t)=(lay0 t).2.empty:=by
 have hl0:LInv ⟨[],[]⟩:=⟨rfl,fun q p h=>by simp at h⟩;obtain⟨h1,h2,h3,h4,h5⟩:=zxz hwf ⟨[],[]⟩ hl0;obtain⟨hi,hg⟩:=zft (xs:=[]) hwf;have hsz:(lay0 t).1.sets.length=plR t:=yld;change (lay0 t).1.sets=_ at h1;change (lay0 t).2.empty=_ at h2;change ∀ p,p∈(lay0 t).2.first↔_ at h3
 change ∀ p,p∈(lay0 t).2.last↔_ at h4;change ∀ q r,fol (lay0 t).1 q r↔_ at h5;simp only[yj6,yj5] at h1 h3 h4 h5;have hpl:plT (zaq t)=plR t:=(by rw[zjq,←h1];exact hsz);have hlf:(folL (zaq t) 0 (start (plR t))).follow.length=plR t:=(by rw[(zhl _ _ _).2];simp[start]);refine⟨hpl,?_,?_,?_,fun j=>?_,h2.symm⟩
 .rw[zp9 _ (zxs hwf) 0 _ (by simp[start];omega),h1];simp[start,hpl]
 .have hlen2:(lay0 t).1.follow.length=plR t:=(by rw[hi.len];exact hsz);apply List.ext_getElem
  .rw[yh8,hlf,hlen2]
  .intro q hq1 hq2;rw[yh8,hlf] at hq1;rw[List.getElem_map];have e1:(folL (zaq t) 0 (start (plR t))).follow[q]'yjz=(folL (zaq t) 0 (start (plR t))).follow.getD q []:=(by simp[ygq,ygn (show q<(folL (zaq t) 0 (start (plR t))).follow.length by omega)]);have e2:(lay0 t).1.follow[q]=(lay0 t).1.follow.getD q []:=(by simp[ygq,ygn hq2]);rw[e1,e2];refine zrb (hg.st q (ygy _) yjz) (fun x=>?_) fun x hx=>?_
   .rw[zsd _ _ _ (by simp[start];omega)];have h0:¬ x∈(start (plR t)).follow.getD q []:=by simp[start,ygq,yip];split <;> simp
    have h5':=h5 q x;unfold fol at h5';rw[h5'];exact⟨fun h=>h.elim (fun h=>absurd h h0) .inr,fun h=>h.elim (fun h=>(by simp at h)) .inr⟩
   .have:=hi.lt q x hx;omega
 .refine zrb hg.sf (fun x=>(h3 x).symm) fun x hx=>?_
  have:=(hg.first x hx).2;omega
 .rw[yie];simp only[yjn];exact (h4 j).symm
end
end Go.Proofs.Ytipfgpfplakhiaa
