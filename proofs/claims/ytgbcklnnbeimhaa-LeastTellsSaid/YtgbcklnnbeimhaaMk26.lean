import Derived.Test.YtgbcklnnbeimhaaMk18
import Derived.Test.YtgbcklnnbeimhaaMk12
import Derived.Test.YtgbcklnnbeimhaaMk17
import Derived.Test.YtgbcklnnbeimhaaMk23
set_option linter.unusedVariables false
set_option linter.unusedSimpArgs false
namespace Go.Proofs.Ytgbcklnnbeimhaa
open Go Go.RowKit
section
attribute [local go_sem ↓] Go.wp_at_zero Go.wp_at_succ
def sortN (l:List Nat) (n:Nat):List Nat:=(List.range n).filter fun x=>l.contains x
theorem zu1 (l:List Nat) (n x:Nat) (h:x∈sortN l n):x<n:=by
 unfold sortN at h;simp at h;exact h.1
theorem zq7 (l:List Nat) (n x:Nat):x∈sortN l n↔x<n∧x∈l:=by simp[sortN]
theorem zq8 (l:List Nat) (n:Nat):(sortN l n).length≤n:=by
 have:=List.length_filter_le (fun x=>l.contains x) (List.range n)
 simpa [sortN] using this
theorem zoe (l:List Nat) (n:Nat):sortN l (n+1)=sortN l n++(if l.contains n then [n] else []):=by
 simp only[sortN,List.range_succ,List.filter_append];cases hc:l.contains n
 · rw[List.filter_cons_of_neg (by rw[hc];decide)];simp
 · rw[List.filter_cons_of_pos hc];simp
theorem zq9 (l:List Nat) (n:Nat) (c:Bool):addL (ns (sortN l n++(if c=true then [n] else []))) (n:Int)=ns (sortN l n++[n]):=by
 unfold addL;cases c
 · have hn:¬ (n:Int)∈ns (sortN l n):=by
     intro h;simp only[ns,List.mem_map] at h;obtain⟨x,hx,e⟩:=h;have:=zu1 l n x hx;have e':(x:Int)=(n:Int):=e;omega
   simp only[Bool.false_eq_true,if_false,List.append_nil,List.contains_iff_mem];rw[if_neg hn];simp[ns]
 · simp only[if_true,List.contains_iff_mem];rw[if_pos];simp[ns]
theorem zvk (l:List Nat) (i n:Nat) (h:i<l.length):(l.take (i+1)).contains n=((l.take i).contains n||l[i]'h==n):=by
 rw[List.take_succ_eq_append_getElem h,Bool.eq_iff_iff];simp only[List.contains_iff_mem,List.mem_append,List.mem_singleton,Bool.or_eq_true,beq_iff_eq];exact or_congr Iff.rfl ⟨fun e=>e.symm,fun e=>e.symm⟩
set_option maxRecDepth 20000 in
set_option maxHeartbeats 4000000 in
theorem zmi {w:World} {B:Nat} {v:Value} {l:List Nat} (h:Ints w B v (ns l)) (hl:l.length≤100000):
   Calls Try.prog 40 #[v] w (RetEndF w (sortN l 300)):=by
 obtain⟨A,c,rfl⟩:=h.form;have hA:∀ (j:Nat) (hj:j<l.length),∃ g,A=some ⟨g,0,none⟩∧g<w.heap.size∧w.cell? ⟨g,j,none⟩=some (.int .i64 ((l[j]:Nat):Int)):=by
   intro j hj;obtain⟨g,c',e,_,hg,hc⟩:=h.at j (by rw[zae];exact hj);injection e with e
   exact⟨g,e,hg,by rw[hc];simp[ns]⟩
 generalize hlen:(ns l).length=L at *;have hlL:l.length=L:=(by rw[←hlen,zae]);rw[hlL] at hl;have HL:=Lib.hid hlL;have HA:=Lib.hid hA;clear h hA hlen hlL;go_enter Try.func40,Try.ntmps40;go_wp2;go_loopg [3,4] 300 (fun m out n wr=>∃ q:Nat,n = .int .i64 (q:Int)∧q≤300∧m=300-q∧Ints wr w.heap.size out (ns (sortN l q))∧Below w.heap.size w wr)
 case atStart=>exact⟨0,rfl,by omega,rfl,Ints.nil _ _,Below.refl _ _⟩
 case round =>
   obtain⟨q,rfl,hq,hmq,hout,hW⟩:=hrel;have HMQ:=Lib.hid hmq;have HOUT:=Lib.hid hout;have HW:=Lib.hid hW;clear hmq hout hW
   by_cases hqt:q<300
   · go_wp2;have hd:decide ((q:Int)<300)=true:=(by simp;omega);rw[hd];clear hd;go_loopg [3,5] L (fun m out i wq=>∃ j:Nat,i = .int .i64 (j:Int)∧j≤L∧m=L-j∧Ints wq w.heap.size out (ns (sortN l q++(if (l.take j).contains q=true then [q] else [])))∧Below w.heap.size w wq)
     case atStart=>exact⟨0,rfl,by omega,rfl,by simpa using HOUT.out,HW.out⟩
     case round =>
       obtain⟨j,rfl,hj,hmj,hout2,hW2⟩:=hrel;have HMJ:=Lib.hid hmj;have HOUT2:=Lib.hid hout2;have HW2:=Lib.hid hW2;clear hmj hout2 hW2
       by_cases hjt:j<L
       · have hjt':j<l.length:=(by rw[HL.out];exact hjt);obtain⟨g,e1,hg,hc⟩:=HA.out j hjt';subst e1;have hht:=zvk l j q hjt';generalize l[j]'hjt'=x at *;have hcell:wr.cell? ⟨g,j,none⟩=some (.int .i64 (x:Int)):=(HW2.out.cell (p:=⟨g,j,none⟩) hg).trans hc;have hbl:(ns (sortN l q++(if (l.take j).contains q=true then [q] else []))).length≤1000000:=by
           have:=zq8 l q;rw[zae,List.length_append];split <;> simp <;> omega
         have HADD:=Lib.hid (zze wr w.heap.size _ (ns (sortN l q++(if (l.take j).contains q=true then [q] else []))) (q:Int) HOUT2.out HW2.out.size hbl);have hadd:=zq9 l q ((l.take j).contains q);have HHT:=Lib.hid hht;unfold RetAdd at HADD;rw[hadd] at HADD;clear hht hadd hbl hc;cases hxq:((x:Int)==(q:Int))
         · go_wp2;go_roundg (L-(j+1))
           case measure=>have:=HMJ.out;omega
           case rel =>
             have e:(x==q)=false:=by
               have:¬ (x:Int)=(q:Int):=by simpa using hxq
               simp;omega
             exact⟨j+1,by go_num,by omega,rfl,by rw[HHT.out,e,Bool.or_false];exact HOUT2.out,HW2.out⟩
         · go_wp2_with (first
             | (go_at_call 55;(with_reducible refine HADD.out.mono ?_);rintro e w6 ⟨v6,rfl,hi6,hg6,hv6⟩)
             | fail)
           go_roundg (L-(j+1))
           case measure=>have:=HMJ.out;omega
           case rel =>
             have e:(x==q)=true:=by
               have:(x:Int)=(q:Int):=by simpa using hxq
               simp;omega
             exact⟨j+1,by go_num,by omega,rfl,by rw[HHT.out,e,Bool.or_true];exact hi6,HW2.out.grown hg6 HW2.out.size (zmt HOUT2.out)⟩
       · have hjn:l.take j=l:=List.take_of_length_le (by rw[HL.out];omega);rw[hjn,←zoe] at HOUT2;clear hjn;go_wp2;go_roundg (300-(q+1))
         case measure=>have:=HMQ.out;omega
         case rel=>exact⟨q+1,by go_num,by omega,rfl,HOUT2.out,HW2.out⟩
   · have hqn:q=300:=(by omega);subst hqn;go_wp2;go_ret;exact⟨_,rfl,HOUT.out,HW.out⟩
end
section
open Go
theorem zqp:∀ (l m:List Nat),l.Pairwise (· < ·)→m.Pairwise (· < ·)→(∀ x,x∈l↔x∈m)→l=m
 | [],[],_,_,_=>rfl
 | [],y::m,_,_,h=>by have:=(h y).2 (by simp);simp at this
 | x::l,[],_,_,h=>by have:=(h x).1 (by simp);simp at this
 | x::l,y::m,hl,hm,h=>by
   rw[List.pairwise_cons] at hl hm;have e:x=y:=by
     have h1:=(h x).1 (by simp);have h2:=(h y).2 (by simp);simp only[List.mem_cons] at h1 h2;rcases h1 with h1|h1
     · exact h1
     · rcases h2 with h2|h2
       · exact h2.symm
       · have:=hm.1 x h1;have:=hl.1 y h2;omega
   subst e;refine congrArg _ (zqp l m hl.2 hm.2 fun z=>⟨fun hz=>?_,fun hz=>?_⟩)
   · have h1:=(h z).1 (by simp[hz]);simp only[List.mem_cons] at h1;rcases h1 with h1|h1
     · have:=hl.1 z hz;omega
     · exact h1
   · have h1:=(h z).2 (by simp[hz]);simp only[List.mem_cons] at h1;rcases h1 with h1|h1
     · have:=hm.1 z hz;omega
     · exact h1
theorem zof (l:List Nat) (n:Nat):(sortN l n).Pairwise (· < ·):=by
 unfold sortN;exact List.pairwise_lt_range.filter _
theorem zmj {l m:List Nat} {n:Nat} (hm:m.Pairwise (· < ·)) (h:∀ x,x∈l↔x∈m) (hlt:∀ x∈m,x<n):sortN l n=m:=
 zqp _ _ (zof _ _) hm fun x=>by
   rw[zq7,h];exact⟨fun h=>h.2,fun hx=>⟨hlt x hx,hx⟩⟩
def start (z:Nat):Lay:=⟨List.replicate z noneP,List.replicate z []⟩
theorem zpg {t:T} (hwf:WF t) (h256:plR t≤256):
   plT (flatT t)=plR t∧(folL (flatT t) 0 (start (plR t))).sets=(lay0 t).1.sets∧(folL (flatT t) 0 (start (plR t))).follow.map (fun l=>sortN l 300)=(lay0 t).1.follow∧
   sortN (fstT (flatT t) 0) 300=(lay0 t).2.first∧(∀ j,(lstT (flatT t) 0).contains j=(lay0 t).2.last.contains j)∧emptyT (flatT t)=(lay0 t).2.empty:=by
 have hl0:LInv ⟨[],[]⟩:=⟨rfl,fun q p h=>by simp at h⟩;obtain⟨h1,h2,h3,h4,h5⟩:=zss hwf ⟨[],[]⟩ hl0;obtain⟨hi,hg⟩:=zem (xs:=[]) hwf;have hsz:(lay0 t).1.sets.length=plR t:=(by have:=zj1 hwf ⟨[],[]⟩;simpa [lay0] using this);change (lay0 t).1.sets=_ at h1;change (lay0 t).2.empty=_ at h2;change ∀ p,p∈(lay0 t).2.first↔_ at h3
 change ∀ p,p∈(lay0 t).2.last↔_ at h4;change ∀ q r,fol (lay0 t).1 q r↔_ at h5;simp only[List.nil_append,List.length_nil] at h1 h3 h4 h5;have hpl:plT (flatT t)=plR t:=(by rw[zg4,←h1];exact hsz);have hlf:(folL (flatT t) 0 (start (plR t))).follow.length=plR t:=(by rw[(zes _ _ _).2];simp[start]);refine⟨hpl,?_,?_,?_,fun j=>?_,h2.symm⟩
 · rw[zkt _ (zsl hwf) 0 _ (by simp[start];omega),h1];simp[start,hpl]
 · have hlen2:(lay0 t).1.follow.length=plR t:=(by rw[hi.len];exact hsz);apply List.ext_getElem
   · rw[List.length_map,hlf,hlen2]
   · intro q hq1 hq2;rw[List.length_map,hlf] at hq1;rw[List.getElem_map];have e1:(folL (flatT t) 0 (start (plR t))).follow[q]'(by omega)=(folL (flatT t) 0 (start (plR t))).follow.getD q []:=(by simp[List.getD_eq_getElem?_getD,List.getElem?_eq_getElem (show q<(folL (flatT t) 0 (start (plR t))).follow.length by omega)]);have e2:(lay0 t).1.follow[q]=(lay0 t).1.follow.getD q []:=(by simp[List.getD_eq_getElem?_getD,List.getElem?_eq_getElem hq2]);rw[e1,e2];refine zmj (hg.st q (Nat.zero_le _) (by omega)) (fun x=>?_) fun x hx=>?_
     · rw[znl _ _ _ (by simp[start];omega)];have h0:¬ x∈(start (plR t)).follow.getD q []:=by simp[start,List.getD_eq_getElem?_getD,List.getElem?_replicate];split <;> simp
       have h5':=h5 q x;unfold fol at h5';rw[h5'];exact⟨fun h=>h.elim (fun h=>absurd h h0) .inr,fun h=>h.elim (fun h=>(by simp at h)) .inr⟩
     · have:=hi.lt q x hx;omega
 · refine zmj hg.sf (fun x=>(h3 x).symm) fun x hx=>?_
   have:=(hg.first x hx).2;omega
 · rw[Bool.eq_iff_iff];simp only[List.contains_iff_mem];exact (h4 j).symm
end
section
open Go
structure PW (l:List Nat) (p:PT):Prop where
 inv:PInv p
 nod:l.Nodup
 all:∀ k∈l,k<p.n∧0<p.md k
theorem PW.step {b:Nat} {l:List Nat} {p:PT} (h:PW (b::l) p):(b<p.n∧0<p.md b)∧PW l (partF p b)∧(partF p b).N=p.N∧partAll (b::l) p=partAll l (partF p b):=by
 have hb:=h.all b (by simp);obtain⟨q1,q2,q3,_,q5⟩:=zms h.inv hb.1 hb.2;obtain⟨n1,n2⟩:=List.nodup_cons.1 h.nod;refine⟨hb,⟨q1,n2,fun k hk=>?_⟩,q2,rfl⟩;have h1:=h.all k (by simp[hk]);have hne:k≠b:=fun e=>n1 (e▸hk)
 have hnn:p.n≤(partF p b).n:=by rcases q3 with ⟨e,_⟩|⟨e,_⟩ <;> omega
 exact⟨by omega,by rw[q5 k h1.1 hne];exact h1.2⟩
def Mkg (p:PT) (ms rem:List Nat) (r:PT×List Nat):Prop:=∃ done,MI p done r∧done++rem=ms
theorem zuv {p:PT} (hp:PInv p) (hc:Clear p):MI p [] (p,[]):=
 ⟨hp,rfl,rfl,rfl,fun x hx=>by simp;exact ziy hp hx (hc _ (hp.gn x hx)),by simp,fun k hk=>by simp;exact hc k hk,fun k hk=>by simp at hk⟩
theorem zre {p:PT} (hp:PInv p) (hc:Clear p) (ms:List Nat):Mkg p ms ms (p,[]):=⟨[],zuv hp hc,rfl⟩
theorem zuu {p:PT} {ms rem:List Nat} {s:Nat} {r:PT×List Nat} (h:Mkg p ms (s::rem) r) (hn:ms.Nodup) (hs:∀ s∈ms,s<p.N):
   s<r.1.N∧¬ Mk r.1 s∧PInv r.1∧Mkg p ms rem (markS r s):=by
 obtain⟨done,hi,e⟩:=h;have hsm:s∈ms:=(by rw[←e];simp);have hsN:=hs s hsm;have hsd:s∉done:=fun hm=>by
   rw[←e,List.nodup_append] at hn;exact hn.2.2 s hm s (by simp) rfl
 have hmk:¬ Mk r.1 s:=fun e=>hsd ((hi.mks s hsN).1 e)
 refine⟨by rw[hi.eN];exact hsN,hmk,hi.inv,done++[s],?_,by rw[←e];simp⟩;have h1:=zf3 (p:=p) [s] done r hi (by
   rw[←e] at hn;have:(done++[s]++rem).Nodup:=by simpa using hn
   exact (List.nodup_append.1 this).1) (fun x hx=>by simp at hx;subst hx;exact hsN)
 simpa [markAll] using h1
theorem zk5 {n:Nat}:∀ {l:List Nat},l.Nodup→(∀ k∈l,k<n)→l.length≤n:=by
 intro l hn hl;have:=List.Nodup.length_le_of_subset (l₂:=List.range n) hn (fun x hx=>List.mem_range.2 (hl x hx))
 simpa using this
theorem zrd {p:PT} {ms rem:List Nat} {r:PT×List Nat} (h:Mkg p ms rem r):r.2.length≤p.n∧r.1.N=p.N∧r.1.n=p.n:=by
 obtain⟨done,hi,e⟩:=h;exact⟨zk5 hi.nod hi.sub,hi.eN,hi.en'⟩
theorem zxe {p:PT} {ms:List Nat} {r:PT×List Nat} (h:Mkg p ms [] r):PW r.2 r.1:=by
 obtain⟨done,hi,e⟩:=h;exact⟨hi.inv,hi.nod,fun k hk=>⟨by rw[hi.en'];exact hi.sub k hk,(hi.set k (hi.sub k hk)).1 hk⟩⟩
theorem zm1 {p:PT} (hp:PInv p) (hc:Clear p) {ms:List Nat} (hn:ms.Nodup) (hs:∀ s∈ms,s<p.N):PInv (classF ms p)∧(classF ms p).N=p.N∧Clear (classF ms p):=by
 have h:=zkx (alk:=fun s t=>s=t) (A:=fun _=>False) (g:=0) hp hc ⟨fun s t hs ht e=>by rw[e],fun s t hs ht h1 h2=>by
   have:=(h2 (p.grp s) (Nat.zero_le _) (hp.gn s hs)).1 rfl;exact this.symm⟩ (Nat.zero_le _) hn hs (fun s t e=>by rw[e])
 exact⟨h.1,h.2.1,h.2.2.2.2.1⟩
def goalsF (p:PT) (g:Nat):List Nat:=(List.range (p.en g-p.bg g)).map fun j=>p.st (p.bg g+j)
theorem zsj {p:PT} {g j:Nat} (h:j<p.en g-p.bg g):(goalsF p g)[j]?=some (p.st (p.bg g+j)):=by
 unfold goalsF;rw[List.getElem?_map,List.getElem?_range h];rfl
theorem zsi (p:PT) (g:Nat):(goalsF p g).length=p.en g-p.bg g:=by simp[goalsF]
theorem zkp {p:PT} (hp:PInv p) {g:Nat} (hg:g<p.n) (s:Nat):s∈goalsF p g↔s<p.N∧p.grp s=g:=by
 unfold goalsF;rw[List.mem_map];constructor
 · rintro⟨j,hj,rfl⟩;rw[List.mem_range] at hj;obtain⟨h1,h2⟩:=hp.of g (p.bg g+j) hg (by omega) (by omega);exact⟨hp.stN _ h1,h2⟩
 · rintro⟨h1,h2⟩;have:=hp.lo s h1;rw[h2] at this;exact⟨p.at' s-p.bg g,List.mem_range.2 (by omega),by rw[show p.bg g+(p.at' s-p.bg g)=p.at' s by omega];exact hp.sa s h1⟩
theorem zgr {p:PT} (hp:PInv p) {g:Nat} (hg:g<p.n):(goalsF p g).Nodup:=by
 have hne:=hp.ne g hg;unfold goalsF;rw[List.nodup_iff_pairwise_ne,List.pairwise_map];refine List.Pairwise.imp_of_mem ?_ (List.nodup_iff_pairwise_ne.1 List.nodup_range);intro i j hi hj hij e;rw[List.mem_range] at hi hj;have h1:=hp.ats (p.bg g+i) (by omega);have h2:=hp.ats (p.bg g+j) (by omega);rw[e] at h1;omega
theorem zo7 (δ:Nat→Nat→Nat) (C S c t:Nat) (l:List Nat):toAll δ C S c (t::l)=toW δ C S t c++toAll δ C S c l:=rfl
end
end Go.Proofs.Ytgbcklnnbeimhaa
