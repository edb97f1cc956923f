import Derived.Test.YtgbdanddbgomhaaDoorMw28
import Derived.Test.YtgbdanddbgomhaaDoorMw27
set_option linter.unusedVariables false
set_option linter.unusedSimpArgs false
namespace Go.Proofs.YtgbdanddbgomhaaDoor
open Go Go.RowKit
section
attribute [local go_sem ↓] Go.wp_at_zero Go.wp_at_succ
def sortN (l:List Nat) (n:Nat):List Nat:=(List.range n).filter fun x=>l.contains x
theorem zsq (l:List Nat) (n x:Nat) (h:x∈sortN l n):x<n:=by
 unfold sortN at h;simp at h;exact h.1
theorem zp3 (l:List Nat) (n x:Nat):x∈sortN l n↔x<n∧x∈l:=by simp[sortN]
theorem zp4 (l:List Nat) (n:Nat):(sortN l n).length<=n:=by
 have:=List.length_filter_le (fun x=>l.contains x) (List.range n)
 simpa [sortN] using this
theorem znc (l:List Nat) (n:Nat):sortN l (n+1)=sortN l n++(if l.contains n then [n] else []):=by
 simp only[sortN,List.range_succ,List.filter_append];cases hc:l.contains n
 . rw[List.filter_cons_of_neg (by rw[hc];decide)];simp
 . rw[List.filter_cons_of_pos hc];simp
theorem zp5 (l:List Nat) (n:Nat) (c:Bool):addL (ns (sortN l n++(if c=true then [n] else []))) (n:Int)=ns (sortN l n++[n]):=by
 unfold addL;cases c
 . have hn:¬ (n:Int)∈ns (sortN l n):=by
     intro h;simp only[ns,List.mem_map] at h;obtain⟨x,hx,e⟩:=h;have:=zsq l n x hx;have e':(x:Int)=(n:Int):=e;omega
   simp only[Bool.false_eq_true,if_false,List.append_nil,List.contains_iff_mem];rw[if_neg hn];simp[ns]
 . simp only[if_true,List.contains_iff_mem];rw[if_pos];simp[ns]
theorem ztp (l:List Nat) (i n:Nat) (h:i<l.length):(l.take (i+1)).contains n=((l.take i).contains n||l[i]'h==n):=by
 rw[List.take_succ_eq_append_getElem h,Bool.eq_iff_iff];simp only[List.contains_iff_mem,List.mem_append,List.mem_singleton,Bool.or_eq_true,beq_iff_eq];exact or_congr Iff.rfl ⟨fun e=>e.symm,fun e=>e.symm⟩
set_option maxRecDepth 20000 in
set_option maxHeartbeats 4000000 in
theorem zle {w:World} {B:Nat} {v:Value} {l:List Nat} (h:Ints w B v (ns l)) (hl:l.length<=100000):
   Calls Tryd.prog 78 #[v] w (RetEndF w (sortN l 300)):=by
 obtain⟨A,c,rfl⟩:=h.form;have hA:∀ (j:Nat) (hj:j<l.length),∃ g,A=some ⟨g,0,none⟩∧g<w.heap.size∧w.cell? ⟨g,j,none⟩=some (.int .i64 ((l[j]:Nat):Int)):=by
   intro j hj;obtain⟨g,c',e,_,hg,hc⟩:=h.at j (by rw[za9];exact hj);injection e with e
   exact⟨g,e,hg,by rw[hc];simp[ns]⟩
 generalize hlen:(ns l).length=L at *;have hlL:l.length=L:=(by rw[←hlen,za9]);rw[hlL] at hl;have HL:=Zh hlL;have HA:=Zh hA;clear h hA hlen hlL;go_enter Tryd.func78,Tryd.ntmps78;go_wp2;go_loopg [3,4] 300 (fun m out n wr=>∃ q:Nat,n = .int .i64 (q:Int)∧q<=300∧m=300-q∧Ints wr w.heap.size out (ns (sortN l q))∧Below w.heap.size w wr)
 case atStart=>exact⟨0,rfl,by omega,rfl,Ints.nil _ _,Below.refl _ _⟩
 case round =>
   obtain⟨q,rfl,hq,hmq,hout,hW⟩:=hrel;have HMQ:=Zh hmq;have HOUT:=Zh hout;have HW:=Zh hW;clear hmq hout hW
   by_cases hqt:q<300
   . go_wp2;have hd:decide ((q:Int)<300)=true:=(by simp;omega);rw[hd];clear hd;go_loopg [3,5] L (fun m out i wq=>∃ j:Nat,i = .int .i64 (j:Int)∧j<=L∧m=L-j∧Ints wq w.heap.size out (ns (sortN l q++(if (l.take j).contains q=true then [q] else [])))∧Below w.heap.size w wq)
     case atStart=>exact⟨0,rfl,by omega,rfl,by simpa using HOUT.out,HW.out⟩
     case round =>
       obtain⟨j,rfl,hj,hmj,hout2,hW2⟩:=hrel;have HMJ:=Zh hmj;have HOUT2:=Zh hout2;have HW2:=Zh hW2;clear hmj hout2 hW2
       by_cases hjt:j<L
       . have hjt':j<l.length:=(by rw[HL.out];exact hjt);obtain⟨g,e1,hg,hc⟩:=HA.out j hjt';subst e1;have hht:=ztp l j q hjt';generalize l[j]'hjt'=x at *;have hcell:wr.cell? ⟨g,j,none⟩=some (.int .i64 (x:Int)):=(HW2.out.cell (p:=⟨g,j,none⟩) hg).trans hc;have hbl:(ns (sortN l q++(if (l.take j).contains q=true then [q] else []))).length<=1000000:=by
           have:=zp4 l q;rw[za9,List.length_append];split <;> simp <;> omega
         have HADD:=Zh (zx6 wr w.heap.size _ (ns (sortN l q++(if (l.take j).contains q=true then [q] else []))) (q:Int) HOUT2.out HW2.out.size hbl);have hadd:=zp5 l q ((l.take j).contains q);have HHT:=Zh hht;unfold RetAdd at HADD;rw[hadd] at HADD;clear hht hadd hbl hc;cases hxq:((x:Int)==(q:Int))
         . go_wp2;go_roundg (L-(j+1))
           case measure=>have:=HMJ.out;omega
           case rel =>
             have e:(x==q)=false:=by
               have:¬ (x:Int)=(q:Int):=by simpa using hxq
               simp;omega
             exact⟨j+1,by go_num,by omega,rfl,by rw[HHT.out,e,Bool.or_false];exact HOUT2.out,HW2.out⟩
         . go_wp2_with (first
             | (go_at_call 68;(with_reducible refine HADD.out.mono ?_);rintro e w6 ⟨v6,rfl,hi6,hg6,hv6⟩)
             | fail)
           go_roundg (L-(j+1))
           case measure=>have:=HMJ.out;omega
           case rel =>
             have e:(x==q)=true:=by
               have:(x:Int)=(q:Int):=by simpa using hxq
               simp;omega
             exact⟨j+1,by go_num,by omega,rfl,by rw[HHT.out,e,Bool.or_true];exact hi6,HW2.out.grown hg6 HW2.out.size (zlq HOUT2.out)⟩
       . have hjn:l.take j=l:=List.take_of_length_le (by rw[HL.out];omega);rw[hjn,←znc] at HOUT2;clear hjn;go_wp2;go_roundg (300-(q+1))
         case measure=>have:=HMQ.out;omega
         case rel=>exact⟨q+1,by go_num,by omega,rfl,HOUT2.out,HW2.out⟩
   . have hqn:q=300:=(by omega);subst hqn;go_wp2;go_ret;exact⟨_,rfl,HOUT.out,HW.out⟩
end
section
open Go
theorem zpk:∀ (l m:List Nat),l.Pairwise (· < ·)->m.Pairwise (· < ·)->(∀ x,x∈l↔x∈m)->l=m
 | [],[],_,_,_=>rfl
 | [],y::m,_,_,h=>by have:=(h y).2 (by simp);simp at this
 | x::l,[],_,_,h=>by have:=(h x).1 (by simp);simp at this
 | x::l,y::m,hl,hm,h=>by
   rw[List.pairwise_cons] at hl hm;have e:x=y:=by
     have h1:=(h x).1 (by simp);have h2:=(h y).2 (by simp);simp only[List.mem_cons] at h1 h2;rcases h1 with h1|h1
     . exact h1
     . rcases h2 with h2|h2
       . exact h2.symm
       . have:=hm.1 x h1;have:=hl.1 y h2;omega
   subst e;refine congrArg _ (zpk l m hl.2 hm.2 fun z=>⟨fun hz=>?_,fun hz=>?_⟩)
   . have h1:=(h z).1 (by simp[hz]);simp only[List.mem_cons] at h1;rcases h1 with h1|h1
     . have:=hl.1 z hz;omega
     . exact h1
   . have h1:=(h z).2 (by simp[hz]);simp only[List.mem_cons] at h1;rcases h1 with h1|h1
     . have:=hm.1 z hz;omega
     . exact h1
theorem znd (l:List Nat) (n:Nat):(sortN l n).Pairwise (· < ·):=by
 unfold sortN;exact List.pairwise_lt_range.filter _
theorem zlf {l m:List Nat} {n:Nat} (hm:m.Pairwise (· < ·)) (h:∀ x,x∈l↔x∈m) (hlt:∀ x∈m,x<n):sortN l n=m:=
 zpk _ _ (znd _ _) hm fun x=>by
   rw[zp3,h];exact⟨fun h=>h.2,fun hx=>⟨hlt x hx,hx⟩⟩
def start (z:Nat):Lay:=⟨List.replicate z noneP,List.replicate z []⟩
theorem zod {t:T} (hwf:WF t) (h256:plR t<=256):
   plT (flatT t)=plR t∧(folL (flatT t) 0 (start (plR t))).sets=(lay0 t).1.sets∧(folL (flatT t) 0 (start (plR t))).follow.map (fun l=>sortN l 300)=(lay0 t).1.follow∧
   sortN (fstT (flatT t) 0) 300=(lay0 t).2.first∧(∀ j,(lstT (flatT t) 0).contains j=(lay0 t).2.last.contains j)∧emptyT (flatT t)=(lay0 t).2.empty:=by
 have hl0:LInv ⟨[],[]⟩:=⟨rfl,fun q p h=>by simp at h⟩;obtain⟨h1,h2,h3,h4,h5⟩:=zrh hwf ⟨[],[]⟩ hl0;obtain⟨hi,hg⟩:=zc7 (xs:=[]) hwf;have hsz:(lay0 t).1.sets.length=plR t:=(by have:=zm6 hwf ⟨[],[]⟩;simpa [lay0] using this);change (lay0 t).1.sets=_ at h1;change (lay0 t).2.empty=_ at h2;change ∀ p,p∈(lay0 t).2.first↔_ at h3
 change ∀ p,p∈(lay0 t).2.last↔_ at h4;change ∀ q r,fol (lay0 t).1 q r↔_ at h5;simp only[List.nil_append,List.length_nil] at h1 h3 h4 h5;have hpl:plT (flatT t)=plR t:=(by rw[zf9,←h1];exact hsz);have hlf:(folL (flatT t) 0 (start (plR t))).follow.length=plR t:=(by rw[(zdx _ _ _).2];simp[start]);refine⟨hpl,?_,?_,?_,fun j=>?_,h2.symm⟩
 . rw[zjo _ (zra hwf) 0 _ (by simp[start];omega),h1];simp[start,hpl]
 . have hlen2:(lay0 t).1.follow.length=plR t:=(by rw[hi.len];exact hsz);apply List.ext_getElem
   . rw[List.length_map,hlf,hlen2]
   . intro q hq1 hq2;rw[List.length_map,hlf] at hq1;rw[List.getElem_map];have e1:(folL (flatT t) 0 (start (plR t))).follow[q]'(by omega)=(folL (flatT t) 0 (start (plR t))).follow.getD q []:=(by simp[List.getD_eq_getElem?_getD,List.getElem?_eq_getElem (show q<(folL (flatT t) 0 (start (plR t))).follow.length by omega)]);have e2:(lay0 t).1.follow[q]=(lay0 t).1.follow.getD q []:=(by simp[List.getD_eq_getElem?_getD,List.getElem?_eq_getElem hq2]);rw[e1,e2];refine zlf (hg.st q (Nat.zero_le _) (by omega)) (fun x=>?_) fun x hx=>?_
     . rw[zmm _ _ _ (by simp[start];omega)];have h0:¬ x∈(start (plR t)).follow.getD q []:=by simp[start,List.getD_eq_getElem?_getD,List.getElem?_replicate];split <;> simp
       have h5':=h5 q x;unfold fol at h5';rw[h5'];exact⟨fun h=>h.elim (fun h=>absurd h h0) .inr,fun h=>h.elim (fun h=>(by simp at h)) .inr⟩
     . have:=hi.lt q x hx;omega
 . refine zlf hg.sf (fun x=>(h3 x).symm) fun x hx=>?_
   have:=(hg.first x hx).2;omega
 . rw[Bool.eq_iff_iff];simp only[List.contains_iff_mem];exact (h4 j).symm
end
end Go.Proofs.YtgbdanddbgomhaaDoor
