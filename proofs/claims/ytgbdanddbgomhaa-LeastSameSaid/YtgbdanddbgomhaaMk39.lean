import Derived.Test.YtgbdanddbgomhaaMk37
import Derived.RangeFuncRecord
import Derived.Test.YtgbdanddbgomhaaMk16
import Derived.Test.YtgbdanddbgomhaaMk1
import Derived.Deep.Strs
import Derived.Deep.Grids
set_option linter.unusedVariables false
set_option linter.unusedSimpArgs false
set_option maxRecDepth 20000
namespace Go.Proofs.Ytgbdanddbgomhaa
open Go Go.RowKit
section
attribute [local go_sem ↓] Go.wp_at_zero Go.wp_at_succ
def RetPattern (w:World) (s:ByteArray) (e:Ending) (w':World):Prop:=
 ∃ t k ok,e = .returned (.tuple #[nodeV t k,.int .i64 ok])∧Tree w' (fun b=>w.heap.size<=b) t k∧Below w.heap.size w w'∧
   ((ok=1∧parse s = .ok t∧WF t∧plN t<=60)∨(ok=0∧t=T.zero∧k = .slice none 0 0∧∀ t',parse s = .ok t'->¬ plN t'<=60))
set_option maxRecDepth 20000 in
set_option maxHeartbeats 2000000 in
theorem zht (w:World) (s:ByteArray) (hs:s.size<=9223372036854775807):Calls Try.prog 27 #[.string s] w (RetPattern w s):=by
 have HR:=Zh (fun w=>zuf w s hs);unfold RetParse at HR;have b0:=Box8.new0 w;have hB0:Below w.heap.size w (w.alloc (.cells #[.int .i64 0,.int .u64 0,.int .u64 0,.int .u64 0,.int .u64 0,.int .i64 0,.int .i64 0,.slice none 0 0] 71)):=(Below.refl _ _).alloc (Nat.le_refl _) _;have hw0:=b0.lt;cases hp:parse s with
 | error x =>
   obtain⟨cc,aa⟩:=x;simp only[hp] at HR;have HP:=Zh hp;clear hp;go_enter Try.func27,Try.ntmps27;go_wp2_with (go_at_call 48;(with_reducible refine (HR.out _).mono ?_);rintro e w3 ⟨t',k',bad,at_,rfl,ht',hb3,a1,a2,a3,a4,a5⟩;subst a1 a2 a3 a4;have a6:(bad != 0)=true:=(by simpa using a5);clear a5 ht';unfold nodeV;have b3:=b0.stays hb3;have hl3:=b3.lt;obtain⟨f0,f1,f2,f3,f4,f5,f6,f7⟩:=b3.frozen;obtain⟨r0,r1,r2,r3,r4,r5,r6,r7⟩:=b3.cell);have hB3:=gro1 (Below.refl _ _) hb3;have bF:=(b3.put (t':=T.zero) (k' := .slice none 0 0) T.zero (.slice none 0 0)).alloc (.cells #[.int .i64 (T.zero).op,.int .u64 (word (T.zero).set 0),.int .u64 (word (T.zero).set 1),.int .u64 (word (T.zero).set 2),.int .u64 (word (T.zero).set 3),.int .i64 (T.zero).lo,.int .i64 (T.zero).hi,.slice none 0 0] 71);have hF:=(zbl hB3 (Nat.le_refl w.heap.size) T.zero (.slice none 0 0)).alloc (by rw[zdb];omega) (.cells #[.int .i64 (T.zero).op,.int .u64 (word (T.zero).set 0),.int .u64 (word (T.zero).set 1),.int .u64 (word (T.zero).set 2),.int .u64 (word (T.zero).set 3),.int .i64 (T.zero).lo,.int .i64 (T.zero).hi,.slice none 0 0] 71);rw[←zj0] at bF hF;change bodyPost _ _ _ _ _ ((put80 w3 w.heap.size).alloc (.cells #[.int .i64 (T.zero).op,.int .u64 (word (T.zero).set 0),.int .u64 (word (T.zero).set 1),.int .u64 (word (T.zero).set 2),.int .u64 (word (T.zero).set 3),.int .i64 (T.zero).lo,.int .i64 (T.zero).hi,.slice none 0 0] 71));generalize (put80 w3 w.heap.size).alloc (.cells #[.int .i64 (T.zero).op,.int .u64 (word (T.zero).set 0),.int .u64 (word (T.zero).set 1),.int .u64 (word (T.zero).set 2),.int .u64 (word (T.zero).set 3),.int .i64 (T.zero).lo,.int .i64 (T.zero).hi,.slice none 0 0] 71)=wF at *;obtain⟨F0,F1,F2,F3,F4,F5,F6,F7⟩:=bF.cell;refine bodyPost_ret (v := .tuple #[nodeV T.zero (.slice none 0 0),.int .i64 0]) ?_ rfl ⟨T.zero,_,0,rfl,.nil _ rfl,hF,.inr ⟨rfl,rfl,rfl,fun t' e=>?_⟩⟩
   . simp[nodeV,results,Try.results27,go_sem,F0,F1,F2,F3,F4,F5,F6,F7]
   . rw[HP.out] at e;cases e
 | ok t =>
   simp only[hp] at HR;have hwf:=zit hp;have HP:=Zh hp;have HWF:=Zh hwf;clear hp hwf
   by_cases hpl:plN t<=60
   . have HPL:Hid (∀ W k ok,Tree W ok t k->Calls Try.prog 49 #[nodeP t k] W fun e w'=>∃ n:Nat,e = .returned (.int .i64 n)∧n<=60∧Below W.heap.size W w'):=fun W k ok ht=>(zj2 W HWF.out ht).mono fun e w' h=>⟨plN t,h.1,hpl,h.2⟩
     unfold nodeP at HPL;have HPL2:=Zh hpl;clear hpl;go_enter Try.func27,Try.ntmps27;go_wp2_with (first
       | (go_at_call 48;(with_reducible refine (HR.out _).mono ?_);rintro e w3 ⟨t',k',bad,at_,rfl,ht',hb3,a1,a2,a3⟩;have a1':=a1.symm;subst a1' a2 a3;obtain⟨A,tn,tc,rfl⟩:=ht'.form;unfold nodeV;have ht3:=ht'.alloc (.cells #[.int .i64 (t).op,.int .u64 (word (t).set 0),.int .u64 (word (t).set 1),.int .u64 (word (t).set 2),.int .u64 (word (t).set 3),.int .i64 (t).lo,.int .i64 (t).hi,.slice A tn tc] 71);have hb3':=(gro1 (Below.refl _ _) hb3).alloc (gro1 (Below.refl _ _) hb3).size (.cells #[.int .i64 (t).op,.int .u64 (word (t).set 0),.int .u64 (word (t).set 1),.int .u64 (word (t).set 2),.int .u64 (word (t).set 3),.int .i64 (t).lo,.int .i64 (t).hi,.slice A tn tc] 71);have b3:=b0.stays hb3;have hl3:=b3.lt)
       | (go_at_call 49;(with_reducible refine (HPL.out _ _ _ ht3).mono ?_);rintro e w4 ⟨pn,rfl,hpn,hb4⟩;have ht4:=ht3.stays hb4;have b4:=(b3.alloc _).stays hb4;have x4:=(Box8.new w3 t (.slice A tn tc)).stays hb4;obtain⟨f0,f1,f2,f3,f4,f5,f6,f7⟩:=b4.frozen;obtain⟨r0,r1,r2,r3,r4,r5,r6,r7⟩:=b4.cell;obtain⟨x0,x1,x2,x3,x40,x5,x6,x7⟩:=x4.cell))
     have hB4:=gro hb3' hb4;have bF:=b4.put (t':=t) (k' := .slice A tn tc) t (.slice A tn tc);have tF:=((ht4.weak (ok':=fun b=>w.heap.size<=b∧b≠w.heap.size) fun b hb _=>by simp at hb;omega).put8 (g':=w.heap.size) (t':=t) (k' := .slice A tn tc) fun b hb=>hb.2).weak (ok':=fun b=>w.heap.size<=b) fun b hb _=>hb.1
     have hF:=zbl hB4 (Nat.le_refl w.heap.size) t (.slice A tn tc);change bodyPost _ _ _ _ _ (put8 w4 w.heap.size t (.slice A tn tc));generalize put8 w4 w.heap.size t (.slice A tn tc)=wF at *;obtain⟨F0,F1,F2,F3,F4,F5,F6,F7⟩:=bF.cell;refine bodyPost_ret (v := .tuple #[nodeV t (.slice A tn tc),.int .i64 1]) ?_ rfl ⟨t,_,1,rfl,tF,hF,.inl ⟨rfl,HP.out,HWF.out,HPL2.out⟩⟩;simp[nodeV,results,Try.results27,go_sem,F0,F1,F2,F3,F4,F5,F6,F7]
   . have HPL:Hid (∀ W k ok,Tree W ok t k->Calls Try.prog 49 #[nodeP t k] W fun e w'=>∃ n:Nat,e = .returned (.int .i64 n)∧60<n∧Below W.heap.size W w'):=fun W k ok ht=>(zj2 W HWF.out ht).mono fun e w' h=>⟨plN t,h.1,by omega,h.2⟩
     unfold nodeP at HPL;have HPL2:=Zh hpl;clear hpl;go_enter Try.func27,Try.ntmps27;go_wp2_with (first
       | (go_at_call 48;(with_reducible refine (HR.out _).mono ?_);rintro e w3 ⟨t',k',bad,at_,rfl,ht',hb3,a1,a2,a3⟩;have a1':=a1.symm;subst a1' a2 a3;obtain⟨A,tn,tc,rfl⟩:=ht'.form;unfold nodeV;have ht3:=ht'.alloc (.cells #[.int .i64 (t).op,.int .u64 (word (t).set 0),.int .u64 (word (t).set 1),.int .u64 (word (t).set 2),.int .u64 (word (t).set 3),.int .i64 (t).lo,.int .i64 (t).hi,.slice A tn tc] 71);have hb3':=(gro1 (Below.refl _ _) hb3).alloc (gro1 (Below.refl _ _) hb3).size (.cells #[.int .i64 (t).op,.int .u64 (word (t).set 0),.int .u64 (word (t).set 1),.int .u64 (word (t).set 2),.int .u64 (word (t).set 3),.int .i64 (t).lo,.int .i64 (t).hi,.slice A tn tc] 71);have b3:=b0.stays hb3;have hl3:=b3.lt)
       | (go_at_call 49;(with_reducible refine (HPL.out _ _ _ ht3).mono ?_);rintro e w4 ⟨pn,rfl,hpn,hb4⟩;have ht4:=ht3.stays hb4;have b4:=(b3.alloc _).stays hb4;have x4:=(Box8.new w3 t (.slice A tn tc)).stays hb4;obtain⟨f0,f1,f2,f3,f4,f5,f6,f7⟩:=b4.frozen;obtain⟨r0,r1,r2,r3,r4,r5,r6,r7⟩:=b4.cell;obtain⟨x0,x1,x2,x3,x40,x5,x6,x7⟩:=x4.cell))
     have hB4:=gro hb3' hb4;have bF:=b4.put (t':=T.zero) (k' := .slice none 0 0) T.zero (.slice none 0 0);have hF:=zbl hB4 (Nat.le_refl w.heap.size) T.zero (.slice none 0 0);rw[←zj0] at bF hF;change bodyPost _ _ _ _ _ (put80 w4 w.heap.size);generalize put80 w4 w.heap.size=wF at *;obtain⟨F0,F1,F2,F3,F4,F5,F6,F7⟩:=bF.cell;refine bodyPost_ret (v := .tuple #[nodeV T.zero (.slice none 0 0),.int .i64 0]) ?_ rfl ⟨T.zero,_,0,rfl,.nil _ rfl,hF,.inr ⟨rfl,rfl,rfl,fun t' e=>?_⟩⟩
     . simp[nodeV,results,Try.results27,go_sem,F0,F1,F2,F3,F4,F5,F6,F7]
     . rw[HP.out] at e;injection e with e
       rw[←e];exact HPL2.out
end
theorem zp0 {w:World} {s:ByteArray} {t:T} (hs:s.size<=9223372036854775807) (hp:parse s = .ok t) (hpl:plN t<=60):Calls Try.prog 27 #[.string s] w fun e w'=>∃ A n c,e = .returned (.tuple #[nodeV t (.slice A n c),.int .i64 1])∧Tree w' (fun b=>w.heap.size<=b) t (.slice A n c)∧Below w.heap.size w w':=by
 refine (zht w s hs).mono fun e w' h=>?_
 obtain⟨t',k,ok,rfl,ht,hb,h⟩:=h;rcases h with ⟨rfl,h1,h2,h3⟩|⟨rfl,h1,h2,h3⟩
 . rw[hp] at h1;injection h1 with h1
   subst h1;obtain⟨A,n,c,rfl⟩:=ht.form;exact⟨A,n,c,rfl,ht,hb⟩
 . exact absurd hpl (h3 t hp)
theorem zp1 {w:World} {s:ByteArray} (hs:s.size<=9223372036854775807) (hp:¬ ∃ t,parse s = .ok t∧plN t<=60):Calls Try.prog 27 #[.string s] w fun e w'=>e = .returned (.tuple #[nodeV T.zero (.slice none 0 0),.int .i64 0])∧Below w.heap.size w w':=by
 refine (zht w s hs).mono fun e w' h=>?_
 obtain⟨t',k,ok,rfl,ht,hb,h⟩:=h;rcases h with ⟨rfl,h1,h2,h3⟩|⟨rfl,rfl,rfl,h3⟩
 . exact absurd ⟨t',h1,h3⟩ hp
 . exact⟨rfl,hb⟩
section
attribute [local go_sem ↓] Go.wp_at_zero Go.wp_at_succ
def RdBo (w:World) (A:Option Addr) (L:List Bool):Prop:=∀ i x,L[i]?=some x->∃ b off,A=some ⟨b,off,none⟩∧b<w.heap.size∧w.cell? ⟨b,off+i,none⟩=some (.bool x)
theorem RdBo.stays {w w':World} {A:Option Addr} {L:List Bool} (h:RdBo w A L) (hb:Below w.heap.size w w'):RdBo w' A L:=fun i s e=>by
 obtain⟨b,off,h1,h2,h3⟩:=h i s e;exact⟨b,off,h1,Nat.lt_of_lt_of_le h2 hb.size,za5 h3 hb⟩
def ruleOf (s:ByteArray) (b:Bool):List (T×Bool):=match parse s with
 | .ok t=>if plN t<=60∧lenN true t<=32 then [(t,b)] else []
 | .error _=>[]
def rulesN (L:List ByteArray) (bs:List Bool):Nat->List (T×Bool)
 | 0=>[]
 | k+1=>rulesN L bs k++ruleOf (L.getD k ⟨#[]⟩) (bs.getD k false)
theorem zov (s:ByteArray) (b:Bool):(ruleOf s b).length<=1:=by
 unfold ruleOf;split
 . split <;> simp
 . simp
theorem zf4 (L:List ByteArray) (bs:List Bool):∀ k,(rulesN L bs k).length<=k
 | 0=>by simp[rulesN]
 | k+1=>by
   have:=zf4 L bs k;have:=zov (L.getD k ⟨#[]⟩) (bs.getD k false);simp only[rulesN,List.length_append];omega
theorem zk5 (L:List ByteArray) (bs:List Bool):∀ k,∀ r∈rulesN L bs k,WF r.1∧plN r.1<=60∧lenN true r.1<=32
 | 0=>fun r h=>by simp[rulesN] at h
 | k+1=>fun r h=>by
   simp only[rulesN,List.mem_append] at h;rcases h with h|h
   . exact zk5 L bs k r h
   . unfold ruleOf at h;split at h
     . rename_i t ht;split at h
       . rename_i hc;rw[List.mem_singleton] at h;subst h;exact⟨zit ht,hc.1,hc.2⟩
       . simp at h
     . simp at h
def RetRules (w:World) (l:List (T×Bool)) (e:Ending) (w':World):Prop:=∃ A c A' c',e = .returned (.tuple #[.slice A l.length c,.slice A' l.length c'])∧l.length<=c∧l.length<=c'∧RdRules w' A l∧RdRules w' A' l∧Below w.heap.size w w'
set_option maxRecDepth 20000 in
set_option maxHeartbeats 4000000 in
theorem zxg {w:World} {A B:Option Addr} {ca cb:Nat} {L:List ByteArray} {bs:List Bool} (hs:RdStr w A L) (hb:RdBo w B bs) (hL:L.length<=9223372036854775807) (hbs:bs.length<=9223372036854775807) (hsz:∀ s∈L,s.size<=9223372036854775807):
   Calls Try.prog 6 #[.slice A L.length ca,.slice B bs.length cb] w (RetRules w (rulesN L bs (min L.length 4))):=by
 have HS:=Zh hs;have HBO:=Zh hb;have HSZ:=Zh hsz;obtain⟨N,hN⟩:∃ N,L.length=N:=⟨_,rfl⟩;obtain⟨M,hM⟩:∃ M,bs.length=M:=⟨_,rfl⟩;have HNN:=Zh hN;have HMM:=Zh hM;rw[hN] at hL ⊢;rw[hM] at hbs ⊢;clear hs hb hsz hN hM;have hk4:min N 4<=N∧min N 4<=4:=(by omega);obtain⟨Z,hZ⟩:∃ Z,min N 4=Z:=⟨_,rfl⟩;have HZ:=Zh hZ;rw[hZ] at hk4 ⊢;clear hZ;go_enter Try.func6,Try.ntmps6;go_wp2;go_loopg [6,7,8] Z (fun m va vb i wr=>∃ k:Nat,i = .int .i64 (k:Int)∧k<=Z∧m=Z-k∧RuleRow 76 wr w.heap.size va (rulesN L bs k)∧RuleRow 77 wr w.heap.size vb (rulesN L bs k)∧Below w.heap.size w wr)
 case atStart=>exact⟨0,by first | rfl | trivial,Nat.zero_le _,by first | rfl | trivial,RuleRow.nil _ _ _,RuleRow.nil _ _ _,Below.refl _ _⟩
 case round =>
   obtain⟨k,rfl,hk,hmk,ra,rb,hb⟩:=hrel;have hlk:=zf4 L bs k;have HMK:=Zh hmk;have HRA:=Zh ra;have HRB:=Zh rb;have HB:=Zh hb;obtain⟨Aa,ca',hfa,hca⟩:=ra.form;obtain⟨Ab,cb',hfb,hcb⟩:=rb.form;have hlen100:(rulesN L bs k).length<=100000:=(by omega);obtain⟨Q,hQ⟩:∃ Q,(rulesN L bs k).length=Q:=⟨_,rfl⟩;rw[hQ] at hfa hfb hca hcb;subst hfa hfb;have HQ:=Zh hQ;have HLE:=Zh hlen100;clear hmk ra rb hb hlk hQ hlen100
   by_cases hkZ:k<Z
   . have hkN:k<L.length:=(by rw[HNN.out];omega);obtain⟨s,hse⟩:∃ s,L[k]?=some s:=⟨_,List.getElem?_eq_getElem hkN⟩;have hsm:s∈L:=List.mem_of_getElem? hse;have hss:=HSZ.out s hsm;obtain⟨g,off,rfl,hg,hc0⟩:=HS.out k s hse;have x0:=za5 hc0 HB.out;have hsD:L.getD k ⟨#[]⟩=s:=(by rw[List.getD_eq_getElem?_getD,hse];rfl);have HSD:=Zh hsD;have hk1:(k:Int)<(N:Int):=(by omega);have hk0:(0:Int)<=(k:Int):=(by omega);have hk2:(k:Int)<4:=(by omega);clear hse hsm hc0 hsD
     by_cases hpat:∃ t,parse s = .ok t∧plN t<=60
     . obtain⟨t,hpt,hpl⟩:=hpat;have hwf:=zit hpt;have hpo:=zp0 (w:=wr) hss hpt hpl;unfold nodeV at hpo;have HPO:=Zh hpo;have HWF:=Zh hwf;obtain⟨d,hd⟩:∃ d,lenN true t=d:=⟨_,rfl⟩;have hro:∀ b,ruleOf s b=if plN t<=60∧d<=32 then [(t,b)] else []:=fun b=>by unfold ruleOf;rw[hpt,←hd]
       have HRO:=Zh hro;have HDD:=Zh hd;have HPL:=Zh hpl;have HLEN:=Zh (fun (W:World) (A':Option Addr) (n' c':Nat) (ok:Nat->Prop) (h:Tree W ok t (.slice A' n' c'))=>(zvl (k := .slice A' n' c') true W hwf h).mono fun e w' h=>(show _∧Below W.heap.size W w' from h));unfold nodeP at HLEN;rw[hd] at HLEN;clear hpo hwf hpt hro hd hpl
       by_cases hd32:(32:Int)<(d:Int)
       . go_wp2_with (first
           | (go_at_call 27;(with_reducible refine HPO.out.mono ?_);rintro e w3 ⟨A',n',c',rfl,t3,b3⟩;have HT3:=Zh (t3.alloc (.cells #[.int .i64 t.op,.int .u64 (word t.set 0),.int .u64 (word t.set 1),.int .u64 (word t.set 2),.int .u64 (word t.set 3),.int .i64 t.lo,.int .i64 t.hi,(.slice A' n' c')] 71));have HB3:=Zh (b3.alloc b3.size (.cells #[.int .i64 t.op,.int .u64 (word t.set 0),.int .u64 (word t.set 1),.int .u64 (word t.set 2),.int .u64 (word t.set 3),.int .i64 t.lo,.int .i64 t.hi,(.slice A' n' c')] 71));obtain⟨r0,r1,r2,r3,r4,r5,r6,r7⟩:=(Box8.new w3 t (.slice A' n' c')).cell;clear t3 b3)
           | (go_at_call 28;(with_reducible refine (HLEN.out _ _ _ _ _ HT3.out).mono ?_);rintro e w5 ⟨rfl,b5⟩;have HB5:=Zh (gro HB3.out b5);clear b5)
           | fail)
         go_roundg (Z-(k+1))
         case measure=>have:=HMK.out;omega
         case rel =>
           have e:rulesN L bs (k+1)=rulesN L bs k:=(by rw[rulesN,HSD.out,HRO.out,if_neg (by omega),List.append_nil]);exact⟨k+1,by go_num,by omega,rfl,by rw[e];exact HRA.out.stays HB5.out,by rw[e];exact HRB.out.stays HB5.out,gro HB.out HB5.out⟩
       . obtain⟨bk,hbk⟩:∃ bk,bs.getD k false=bk:=⟨_,rfl⟩;have e:rulesN L bs (k+1)=rulesN L bs k++[(t,bk)]:=(by rw[rulesN,HSD.out,HRO.out,if_pos ⟨HPL.out,by omega⟩,hbk]);have HE:=Zh e;have hbc:(¬ ((k:Int)<(M:Int))∧bk=false)∨((k:Int)<(M:Int)∧∃ g off,B=some ⟨g,off,none⟩∧∀ W,Below wr.heap.size wr W->W.cell? ⟨g,off+k,none⟩=some (.bool bk)):=by
           by_cases hkM:k<bs.length
           . obtain⟨g2,off2,e2,hg2,hc2⟩:=HBO.out k (bs[k]) (List.getElem?_eq_getElem hkM);have:bs[k]=bk:=by rw[←hbk,List.getD_eq_getElem?_getD,List.getElem?_eq_getElem hkM];rfl
             rw[this] at hc2;exact .inr ⟨by have:=HMM.out;omega,g2,off2,e2,fun W hW=>za5 (za5 hc2 HB.out) hW⟩
           . refine .inl ⟨by have:=HMM.out;omega,?_⟩;rw[←hbk,List.getD_eq_getElem?_getD,List.getElem?_eq_none (by omega)];rfl
         clear e hbk;rcases hbc with ⟨hkM,rfl⟩|⟨hkM,g2,off2,rfl,hc2⟩
         case' inr=>have HC2:=Zh hc2
         case' inr=>clear hc2
         all_goals
           go_wp2_with (first
             | (go_at_call 27;(with_reducible refine HPO.out.mono ?_);rintro e w3 ⟨A',n',c',rfl,t3,b3⟩;have HT3:=Zh (t3.alloc (.cells #[.int .i64 t.op,.int .u64 (word t.set 0),.int .u64 (word t.set 1),.int .u64 (word t.set 2),.int .u64 (word t.set 3),.int .i64 t.lo,.int .i64 t.hi,.slice A' n' c'] 71));have HB3:=Zh (b3.alloc b3.size (.cells #[.int .i64 t.op,.int .u64 (word t.set 0),.int .u64 (word t.set 1),.int .u64 (word t.set 2),.int .u64 (word t.set 3),.int .i64 t.lo,.int .i64 t.hi,.slice A' n' c'] 71));have HX3:=Zh (Box8.new w3 t (.slice A' n' c'));obtain⟨r0,r1,r2,r3,r4,r5,r6,r7⟩:=HX3.out.cell;clear t3 b3)
             | (go_at_call 28;(with_reducible refine (HLEN.out _ _ _ _ _ HT3.out).mono ?_);rintro e w5 ⟨rfl,b5⟩;have HB5:=Zh (gro HB3.out b5);have HX5:=Zh (HX3.out.stays b5);have HT5:=Zh (HT3.out.stays b5);clear r0 r1 r2 r3 r4 r5 r6 r7;obtain⟨r0,r1,r2,r3,r4,r5,r6,r7⟩:=HX5.out.cell;(try (have z0:=HC2.out w5 HB5.out));clear b5)
             | (at_builtin;refine zg3 ruleTyM (by rfl) _ _ (by rfl) (by rfl) ((HRA.out.stays HB5.out).stays ((Below.refl _ _).alloc (Nat.le_refl _) _)) (Nat.le_trans HB.out.size (Nat.le_trans HB5.out.size (by simp))) HLE.out (t,_) (.slice A' n' c') ((HT5.out.alloc _).weak fun b h1 _=>Nat.le_trans HB.out.size h1) ⟨w5.heap.size,0,none⟩ 1 (by rfl) (zmz w5 (t,_) (.slice A' n' c')) ?_;intro v6 w6 i6 g6 o6;obtain⟨hb6,rb6,t6,x6⟩:=zhm (HRA.out.stays HB5.out) (HRB.out.stays HB5.out) (by decide) ruleTyM.node (gro HB.out HB5.out) (Nat.le_trans HB.out.size HB5.out.size) HT5.out HX5.out g6;have I6:=Zh i6;have HB6:=Zh hb6;have RB6:=Zh rb6;have HT6:=Zh t6;have HX6:=Zh x6;clear r0 r1 r2 r3 r4 r5 r6 r7;obtain⟨r0,r1,r2,r3,r4,r5,r6,r7⟩:=x6.cell;clear hb6 rb6 t6 x6 i6 g6 o6)
             | (at_builtin;refine zg3 ruleTyR (by rfl) _ _ (by rfl) (by rfl) (RB6.out.stays ((Below.refl _ _).alloc (Nat.le_refl _) _)) (Nat.le_trans HB6.out.size (by simp)) HLE.out (t,_) (.slice A' n' c') ((HT6.out.alloc _).weak fun b h1 _=>Nat.le_trans HB.out.size h1) ⟨w6.heap.size,0,none⟩ 1 (by rfl) (zmz w6 (t,_) (.slice A' n' c')) ?_;intro v7 w7 i7 g7 o7;obtain⟨hb7,ra7,t7,x7⟩:=zhm RB6.out I6.out (by decide) ruleTyR.node HB6.out HB6.out.size HT6.out HX6.out g7;have I7:=Zh i7;have HB7:=Zh hb7;have RA7:=Zh ra7;clear hb7 ra7 t7 x7 i7 g7 o7)
             | fail)
         all_goals
           go_roundg (Z-(k+1))
           case measure=>have:=HMK.out;omega
           case rel=>exact⟨k+1,by go_num,by omega,rfl,by rw[HE.out];exact RA7.out,by rw[HE.out];exact I7.out,HB7.out⟩
     . have hpn:=zp1 (w:=wr) hss hpat;unfold nodeV at hpn;have HPN:=Zh hpn;have hro:∀ b,ruleOf s b=[]:=fun b=>by
         unfold ruleOf;split
         . rename_i t ht;rw[if_neg fun h=>hpat ⟨t,ht,h.1⟩]
         . rfl
       have HRO:=Zh hro;clear hpn hpat hro;go_wp2_with (first
         | (go_at_call 27;(with_reducible refine HPN.out.mono ?_);rintro e w3 ⟨rfl,b3⟩;have HB3:=Zh (b3.alloc b3.size (.cells #[.int .i64 T.zero.op,.int .u64 (word T.zero.set 0),.int .u64 (word T.zero.set 1),.int .u64 (word T.zero.set 2),.int .u64 (word T.zero.set 3),.int .i64 T.zero.lo,.int .i64 T.zero.hi,.slice none 0 0] 71));clear b3)
         | fail)
       go_roundg (Z-(k+1))
       case measure=>have:=HMK.out;omega
       case rel =>
         have e:rulesN L bs (k+1)=rulesN L bs k:=(by rw[rulesN,HSD.out,HRO.out,List.append_nil]);exact⟨k+1,by go_num,by omega,rfl,by rw[e];exact HRA.out.stays HB3.out,by rw[e];exact HRB.out.stays HB3.out,gro HB.out HB3.out⟩
   . have hkz:k=Z:=(by omega);subst hkz;have hend:¬ ((k:Int)<(N:Int))∨((k:Int)<(N:Int)∧¬ ((k:Int)<4)):=(by have:=HZ.out;omega);rcases hend with h1|⟨h1,h2⟩
     all_goals
       go_wp2;go_ret2;exact⟨Aa,ca',Ab,cb',by show Ending.returned (.tuple #[.slice Aa Q ca',.slice Ab Q cb'])=_;rw[HQ.out],by rw[HQ.out];exact hca,by rw[HQ.out];exact hcb,HRA.out.rd rfl,HRB.out.rd rfl,HB.out⟩
end
section
attribute [local go_sem ↓] Go.wp_at_zero Go.wp_at_succ
attribute [local go_sem ↓] zfs
def RetTog (w:World) (ps:List Plc) (fs:List Nat) (lam:Nat) (e:Ending) (w':World):Prop:=∃ v v1 C,e = .returned (.agg #[v,v1,.int .i64 lam])∧C<=w'.heap.size∧PlcRow w' C v ps∧Ints w' C v1 (ns fs)∧Below w.heap.size w w'
structure Tog (w wr:World) (lam:Nat) (v v1:Value) (ps:List Plc) (fs:List Nat):Prop where
 box:HasO wr (w.heap.size+1) (.cells #[v,v1,.int .i64 lam] 103 (0,0))
 res:HasO wr w.heap.size (.cells #[.slice none 0 0,.slice none 0 0,.int .i64 0] 103 (0,0))
 plc:PlcRow wr (w.heap.size+2) v ps
 fst:Ints wr (w.heap.size+2) v1 (ns fs)
 bel:Below w.heap.size w wr
section
variable {w wr wi:World} {lam:Nat} {v v1:Value} {ps:List Plc} {fs:List Nat}
theorem Tog.size (h:Tog w wr lam v v1 ps fs):w.heap.size+2<=wr.heap.size:=za4 h.box
theorem Tog.stays (h:Tog w wr lam v v1 ps fs) (hb:Below wr.heap.size wr wi):Tog w wi lam v v1 ps fs:=
 ⟨zay h.box hb,zay h.res hb,h.plc.stays h.size hb,h.fst.stays hb,h.bel.trans (hb.mono h.bel.size)⟩
theorem Tog.alloc (h:Tog w wr lam v v1 ps fs) (o:Obj):Tog w (wr.alloc o) lam v v1 ps fs:=h.stays ((Below.refl _ _).alloc (Nat.le_refl _) _)
theorem Tog.drew (h:Tog w wr lam v v1 ps fs):Tog w wr.drew lam v v1 ps fs:=h.stays (Below.refl _ _).drew
theorem Tog.new (w:World) (lam:Nat):Tog w ((w.alloc (.cells #[.slice none 0 0,.slice none 0 0,.int .i64 0] 103)).alloc (.cells #[.slice none 0 0,.slice none 0 0,.int .i64 lam] 103)) lam (.slice none 0 0) (.slice none 0 0) [] []:=by
 refine⟨zaq _ _ _ _ (by simp),zaw _ (zaq _ _ _ _ rfl),PlcRow.nil _ _,Ints.nil _ _,((Below.refl _ _).alloc (Nat.le_refl _) _).alloc (by simp) _⟩
theorem Tog.grewP {v':Value} {ps':List Plc} (h:Tog w wr lam v v1 ps fs) (hg:wr.grownBy wi v.ownBlock) (hp:PlcRow wi (w.heap.size+2) v' ps'):Tog w (wi.setCell ⟨w.heap.size+1,0,none⟩ v') lam v' v1 ps' fs:=by
 have hin:=fun b e=>(h.plc.in (b:=b) e)
 have hb1:some (w.heap.size+1)≠v.ownBlock:=fun e=>by have:=hin _ e.symm;omega
 have hb0:some w.heap.size≠v.ownBlock:=fun e=>by have:=hin _ e.symm;omega
 have hsz:=Nat.le_trans h.size hg.size;have hbx:=zbg hg h.box hb1;have hr:=zbg hg h.res hb0;have hbel:Below w.heap.size w wi:=h.bel.grown hg h.bel.size fun k e=>by have:=hin k e;omega
 have hfi:Ints wi (w.heap.size+2) v1 (ns fs):=h.fst.block fun b e _=>hg.block b (h.fst.in e).2 fun e'=>by
   obtain⟨c1,k1⟩:=h.fst.kind e;obtain⟨c2,k2⟩:=h.plc.kind e'.symm;exact za6 k1 k2 (by decide) rfl
 refine⟨?_,ze6 _ hr (by intro e;have e':w.heap.size=w.heap.size+1:=e;omega),hp.cellSet (a:=⟨w.heap.size+1,0,none⟩) hsz (by show w.heap.size+1<w.heap.size+2;omega) ⟨#[v,v1,.int .i64 lam],103,hbx,by decide⟩ _,hfi.block fun b e _=>Below.heap_setCell _ _ _ _ (by intro e';have:=(hfi.in e).1;have e2:b=w.heap.size+1:=e';omega),hbel.setCell (by simp) _⟩;unfold HasO at hbx ⊢;rw[heap_setCell_same wi (w.heap.size+1) 0 _ _ v' hbx];rfl
theorem zlr {a b c:Value} (hp:PlcRow wr (w.heap.size+2) v ps) (hf:Ints wr (w.heap.size+2) v1 (ns fs)) (hb:Below w.heap.size w wr) (hs:w.heap.size+2<=wr.heap.size) (hr:HasO wr w.heap.size (.cells #[a,b,c] 103 (0,0))) (o:Nat) (u:Value):
   PlcRow (wr.setCell ⟨w.heap.size,o,none⟩ u) (w.heap.size+2) v ps∧Ints (wr.setCell ⟨w.heap.size,o,none⟩ u) (w.heap.size+2) v1 (ns fs)∧Below w.heap.size w (wr.setCell ⟨w.heap.size,o,none⟩ u)∧w.heap.size+2<=(wr.setCell ⟨w.heap.size,o,none⟩ u).heap.size:=
 ⟨hp.cellSet (a:=⟨w.heap.size,o,none⟩) hs (by show w.heap.size<w.heap.size+2;omega) ⟨#[a,b,c],103,hr,by decide⟩ _,hf.block fun b e _=>Below.heap_setCell _ _ _ _ (by intro e';have:=(hf.in e).1;have e2:b=w.heap.size:=e';omega),hb.setCell (by simp) _,by simp[World.setCell];omega⟩
theorem Tog.fin (h:Tog w wr lam v v1 ps fs):HasO (((wr.setCell ⟨w.heap.size,0,none⟩ v).setCell ⟨w.heap.size,1,none⟩ v1).setCell ⟨w.heap.size,2,none⟩ (.int .i64 lam)) w.heap.size (.cells #[v,v1,.int .i64 lam] 103 (0,0))∧
   PlcRow (((wr.setCell ⟨w.heap.size,0,none⟩ v).setCell ⟨w.heap.size,1,none⟩ v1).setCell ⟨w.heap.size,2,none⟩ (.int .i64 lam)) (w.heap.size+2) v ps∧Ints (((wr.setCell ⟨w.heap.size,0,none⟩ v).setCell ⟨w.heap.size,1,none⟩ v1).setCell ⟨w.heap.size,2,none⟩ (.int .i64 lam)) (w.heap.size+2) v1 (ns fs)∧
   Below w.heap.size w (((wr.setCell ⟨w.heap.size,0,none⟩ v).setCell ⟨w.heap.size,1,none⟩ v1).setCell ⟨w.heap.size,2,none⟩ (.int .i64 lam))∧w.heap.size+2<=(((wr.setCell ⟨w.heap.size,0,none⟩ v).setCell ⟨w.heap.size,1,none⟩ v1).setCell ⟨w.heap.size,2,none⟩ (.int .i64 lam)).heap.size:=by
 have r0:=h.res;unfold HasO at r0;have r1:=heap_setCell_same wr w.heap.size 0 _ _ v r0;have r2:=heap_setCell_same _ w.heap.size 1 _ _ v1 r1;have r3:=heap_setCell_same _ w.heap.size 2 _ _ (.int .i64 lam) r2;obtain⟨a1,a2,a3,a4⟩:=zlr (a := .slice none 0 0) (b := .slice none 0 0) (c := .int .i64 0) h.plc h.fst h.bel h.size r0 0 v;obtain⟨b1,b2,b3,b4⟩:=zlr (a:=v) (b := .slice none 0 0) (c := .int .i64 0) a1 a2 a3 a4 r1 1 v1;obtain⟨c1,c2,c3,c4⟩:=zlr (a:=v) (b:=v1) (c := .int .i64 0) b1 b2 b3 b4 r2 2 (.int .i64 lam);exact⟨r3,c1,c2,c3,c4⟩
end
section
variable {w:World} {g x:Nat} {v1 v2 e:Value}
theorem zvg (h:HasO w g (.cells #[v1,v2,e] 103 (0,0))):(loadVar 103 ⟨g,0,none⟩).run Try.prog w = .ok (.agg #[v1,v2,e]) w:=by
 have c0:w.cell? ⟨g,0,none⟩=some v1:=cell_of_row w g 0 _ _ (0,0) h;have c1:w.cell? ⟨g,1,none⟩=some v2:=cell_of_row w g 1 _ _ (0,0) h;have c2:w.cell? ⟨g,2,none⟩=some e:=cell_of_row w g 2 _ _ (0,0) h;have h1:(loadCells ⟨g,0,none⟩ 3).run Try.prog w = .ok #[v1,v2,e] w:=run_loadCells w ⟨g,0,none⟩ 3 (fun j=>if j=0 then v1 else if j=1 then v2 else e) (fun j hj=>by
   rw[Addr.add_lit,Nat.zero_add]
   match j,hj with
   | 0,_=>exact c0
   | 1,_=>exact c1
   | 2,_=>exact c2)
 have h2:(isAgg 103).run Try.prog w = .ok true w:=(by kernel_rfl);have h3:(sizeOf 103).run Try.prog w = .ok 3 w:=(by kernel_rfl);simp[loadVar,Sem.run_bind,h1,h2,h3]
theorem zxi {fn:Func} {R:Ending->World->Prop} {a:Act} (hr:fn.results=#[.cell x 103]) (hx:a.tmps.getD x undef = .pointer (some ⟨g,0,none⟩)) (hd:a.defers=[]) (h:HasO w g (.cells #[v1,v2,e] 103 (0,0)))
   (hR:R (.returned (.agg #[v1,v2,e])) w):bodyPost Try.prog fn R .ret a w:=by
 refine bodyPost_ret ?_ hd hR;have e0:(#[ResultVar.cell x 103]:Array ResultVar)=[ResultVar.cell x 103].toArray:=rfl;rw[Array.getD_eq_getD_getElem?] at hx;unfold results;rw[hr,e0];simp[Sem.run_bind,hx,zvg h,asAddr]
end
theorem Tog.grewF {w wr wi:World} {lam:Nat} {v v1:Value} {ps:List Plc} {fs fs':List Nat} {v':Value} (h:Tog w wr lam v v1 ps fs) (hg:wr.grownBy wi v1.ownBlock) (hp:Ints wi (w.heap.size+2) v' (ns fs')):Tog w (wi.setCell ⟨w.heap.size+1,1,none⟩ v') lam v v' ps fs':=by
 have hin:=fun b e=>(h.fst.in (b:=b) e)
 have hb1:some (w.heap.size+1)≠v1.ownBlock:=fun e=>by have:=hin _ e.symm;omega
 have hb0:some w.heap.size≠v1.ownBlock:=fun e=>by have:=hin _ e.symm;omega
 have hsz:=Nat.le_trans h.size hg.size;have hbx:=zbg hg h.box hb1;have hr:=zbg hg h.res hb0;have hbC:Below (w.heap.size+2) wr wi:=(Below.refl _ _).grown hg h.size fun k e=>(hin k e).1
 have hbel:Below w.heap.size w wi:=h.bel.grown hg h.bel.size fun k e=>by have:=hin k e;omega
 have hpl:PlcRow wi (w.heap.size+2) v ps:=h.plc.block h.size hbC fun b e=>hg.block b (h.plc.in e).2 fun e'=>by
   obtain⟨c1,k1⟩:=h.plc.kind e;obtain⟨c2,k2⟩:=h.fst.kind e'.symm;exact za6 k1 k2 (by decide) rfl
 refine⟨?_,ze6 _ hr (by intro e;have e':w.heap.size=w.heap.size+1:=e;omega),hpl.cellSet (a:=⟨w.heap.size+1,1,none⟩) hsz (by show w.heap.size+1<w.heap.size+2;omega) ⟨#[v,v1,.int .i64 lam],103,hbx,by decide⟩ _,hp.block fun b e _=>Below.heap_setCell _ _ _ _ (by intro e';have:=(hp.in e).1;have e2:b=w.heap.size+1:=e';omega),hbel.setCell (by simp) _⟩;unfold HasO at hbx ⊢;rw[heap_setCell_same wi (w.heap.size+1) 1 _ _ v' hbx];rfl
theorem zsm (w:World) (x:Int):Ints (w.alloc (.cells #[.int .i64 x] 3)) 0 (.slice (some ⟨w.heap.size,0,none⟩) 1 1) [x]:=
 World.ownsRow_lit w #[.int .i64 x] 1 (Nat.zero_le _) (by decide) rfl
theorem zu5 {w w':World} {ops:Array Oper} {o:Oper} {a:Act} {K:Act->World->Prop} {Q:Exit->Act->World->Prop} {E:Prop} {v u v':Value} {t:TypeId} (hgd:o.guard=none) (s x:Operand) (ho:o.op = .call {callee := .builtin .append,args:=#[s,x],argTypes:=#[t,t]})
   (hs:a.eval s=v) (hx:a.eval x=u) (ty:TypeId) (hty:o.type=ty) (hr:(Builtin.append_ #[t,t] ty #[v,u]).run Try.prog w = .ok v' w') (hk:K (a.put o.dst v') w'):if Region.wanted o (yielded ops a.tmps)=true then Oper.wp Try.prog o a w K Q else E:=by
 have hw:Region.wanted o (yielded ops a.tmps)=true:=(by simp[Region.wanted,hgd]);rw[if_pos hw];subst hty;unfold Oper.wp;simp[execOp,ho,resolve,invoke,builtin,hs,hx,hr,Result.andThen];exact hk
set_option maxRecDepth 20000 in
set_option maxHeartbeats 4000000 in
theorem zoh {w:World} {A B:Option Addr} {ca cb lam:Nat} {L:List (Lay×Str)} {bs:List Bool} (h:RdNfas w w.heap.size A L) (hb:RdBo w B bs) (hl:bs.length=L.length) (hL:L.length<=64) (hP:∀ s x,(s,x)∈L->s.sets.length<=256) (hF:∀ s x,(s,x)∈L->x.first.length<=256) (hI:∀ s x,(s,x)∈L->∀ p∈x.first,p<s.sets.length):
   Calls Try.prog 40 #[.slice A L.length ca,.slice B bs.length cb,.int .i64 lam] w (RetTog w (togP L bs L.length) (togF L bs L.length) lam):=by
 have HR:=Zh h;have HBO:=Zh hb;have hlen:=zfq L bs 256 hP;have hlenF:=ziv L bs 256 hF;have HLP:=Zh hlen;have HLF:=Zh hlenF;have HP:=Zh hP;have HF:=Zh hF;have HI:=Zh hI;obtain⟨N,hN⟩:∃ N,L.length=N:=⟨_,rfl⟩;rw[hl];rw[hN] at hL ⊢;have HN:=Zh hN;have HBL:=Zh hl;clear h hb hl hP hF hI hN hlen hlenF;go_enter Try.func40,Try.ntmps40;go_wp2;go_loopg [19] N (fun m i wr=>∃ (k:Nat) (v v1:Value),i = .int .i64 (k:Int)∧k<=N∧m=N-k∧Tog w wr lam v v1 (togP L bs k) (togF L bs k))
 case atStart=>exact⟨0,_,_,by first | rfl | trivial,Nat.zero_le _,by first | rfl | trivial,Tog.new w lam⟩
 case round =>
   obtain⟨k,v,v1,rfl,hk,hmk,ht⟩:=hrel;generalize wr=wo at *;have HMK:=Zh hmk;have HT:=Zh ht;obtain⟨Ap,cp,hfp,hcp⟩:=ht.plc.form;obtain⟨Af,cf,hff⟩:=ht.fst.form;obtain⟨Q,hQ⟩:∃ Q,(togP L bs k).length=Q:=⟨_,rfl⟩;rw[hQ] at hfp hcp;have HQ:=Zh hQ;obtain⟨FL,hFL⟩:∃ FL,(ns (togF L bs k)).length=FL:=⟨_,rfl⟩;rw[hFL] at hff;have HFL:=Zh hFL;subst hfp hff;have b0:=cell_of_row wo (w.heap.size+1) 0 _ _ (0,0) ht.box;have b1:=cell_of_row wo (w.heap.size+1) 1 _ _ (0,0) ht.box;have b2:=cell_of_row wo (w.heap.size+1) 2 _ _ (0,0) ht.box;have hsz:=ht.size;clear hmk ht hQ hFL
   by_cases hkN:k<N
   . have hkL:k<L.length:=(by rw[HN.out];exact hkN);obtain⟨s,x,hsx⟩:∃ s x,L[k]?=some (s,x):=⟨L[k].1,L[k].2,List.getElem?_eq_getElem hkL⟩;obtain⟨g,off,A1,m1,c1,A2,m2,c2,gm,A3,m3,c3,rfl,hg,hcs,rfl,rfl,rfl,hn⟩:=HR.out k s x hsx;have hcs:=fun q u hu=>(HT.out.bel.cell (p:=⟨g,off+k*5+q,none⟩) hg).trans (hcs q u hu)
     obtain⟨P,hP⟩:∃ P,s.sets.length=P:=⟨_,rfl⟩;obtain⟨F,hF⟩:∃ F,x.first.length=F:=⟨_,rfl⟩
     obtain⟨ex,hex⟩:∃ F,x.empty=F:=⟨_,rfl⟩;rw[hP,hF,hex] at hcs;rw[hP,hF] at hn;have HNI:=Zh hn;have HPP:=Zh hP;have HFF:=Zh hF;have HSX:=Zh hsx;have n0:=hcs 0 _ rfl;have n1:=hcs 1 _ rfl;have n2:=hcs 2 _ rfl;have n3:=hcs 3 _ rfl;have n4:=hcs 4 _ rfl;rw[Nat.add_zero] at n0;have hP256:P<=256:=(by rw[←hP];exact HP.out s x (List.mem_of_getElem? hsx));have hF256:F<=256:=(by rw[←hF];exact HF.out s x (List.mem_of_getElem? hsx));have k0:(0:Int)<=(k:Int):=(by omega);have k1:(k:Int)<(N:Int):=(by omega);clear hn hP hF hsx hcs hex;go_upto_region 5 with fail
     generalize hw1:wo.alloc (.cells #[.slice A1 P c1,.slice A2 F c2,.slice (some ⟨gm,0,none⟩) P P,.slice A3 P c3,.bool ex] 83)=w1 at *;have ht1:Tog w w1 lam (.slice Ap Q cp) (.slice Af FL cf) (togP L bs k) (togF L bs k):=(by rw[←hw1];exact HT.out.alloc _);have hx1:HasO w1 wo.heap.size (.cells #[.slice A1 P c1,.slice A2 F c2,.slice (some ⟨gm,0,none⟩) P P,.slice A3 P c3,.bool ex] 83 (0,0)):=(by rw[←hw1];exact zaq _ _ _ _ rfl);have HT1:=Zh ht1;have HX1:=Zh hx1;have r0:=cell_of_row w1 (w.heap.size+1) 0 _ _ (0,0) ht1.box;have a0:=cell_of_row w1 wo.heap.size 0 _ _ (0,0) hx1;have a1:=cell_of_row w1 wo.heap.size 1 _ _ (0,0) hx1;have a3:=cell_of_row w1 wo.heap.size 3 _ _ (0,0) hx1;clear b0 b1 b2 n0 n1 n2 n3 n4 ht1 hx1 hw1;go_wp2;go_loopg [30] P (fun m i wi=>∃ (q:Nat) (v:Value),i = .int .i64 (q:Int)∧q<=P∧m=P-q∧Tog w wi lam v (.slice Af FL cf) (togP L bs k++plcsOf s x Q (bs.getD k false) q) (togF L bs k)∧HasO wi wo.heap.size (.cells #[.slice A1 P c1,.slice A2 F c2,.slice (some ⟨gm,0,none⟩) P P,.slice A3 P c3,.bool ex] 83 (0,0)))
     case atStart=>exact⟨0,_,by first | rfl | trivial,Nat.zero_le _,by first | rfl | trivial,by rw[plcsOf,List.append_nil];exact HT1.out,HX1.out⟩
     case round =>
       obtain⟨q,v,rfl,hq,hmq,htq,hxq⟩:=hrel;generalize wr=wi at *;have HMQ:=Zh hmq;have HTQ:=Zh htq;have HXQ:=Zh hxq;obtain⟨Av,cv,hfv,hcv⟩:=htq.plc.form;rw[List.length_append,zb5,HQ.out] at hfv hcv;subst hfv;clear hmq htq hxq
       by_cases hqP:q<P
       . have hq0:(0:Int)<=(q:Int):=(by omega);have hq1:(q:Int)<(P:Int):=(by omega);have hqs:q<s.sets.length:=(by rw[HPP.out];exact hqP);have hni:=HNI.out.below HTQ.out.bel;have hbe:=HTQ.out.bel.size;obtain⟨g1,c1',e1,hg1,hs4⟩:=hni.sets q hqs;obtain⟨g3,c3',v3,e3,hg3,hc3,hi3,hv3⟩:=hni.fols q hqs;have hlq:=hni.last q hqs;have hgm:=hni.lastB;rw[HPP.out] at e1 e3;simp only[Value.slice.injEq] at e1 e3;obtain⟨rfl,-,rfl⟩:=e1;obtain⟨rfl,-,rfl⟩:=e3;obtain⟨A4,c4,hf3⟩:=hi3.form;obtain⟨N4,hN4⟩:∃ n,(ns (s.follow.getD q [])).length=n:=⟨_,rfl⟩;rw[hN4] at hf3;subst hf3;obtain⟨S,hS⟩:∃ P,s.sets.getD q noneP=P:=⟨_,rfl⟩;rw[hS] at hs4;obtain⟨lq,hlq'⟩:∃ b,x.last.contains q=b:=⟨_,rfl⟩;rw[hlq'] at hlq;have s0:=hs4 0 (by omega);have s1:=hs4 1 (by omega);have s2:=hs4 2 (by omega);have s3:=hs4 3 (by omega);rw[Nat.add_zero] at s0;obtain⟨gb,offb,rfl,hgb,hcb⟩:=HBO.out k (bs.getD k false) (by rw[List.getD_eq_getElem?_getD,List.getElem?_eq_getElem (by rw[HBL.out];exact hkL)];rfl);have hcb:=(HTQ.out.bel.cell (p:=⟨gb,offb+k,none⟩) hgb).trans hcb;obtain⟨lu,hlu⟩:∃ b,bs.getD k false=b:=⟨_,rfl⟩;rw[hlu] at hcb;have HI3:=Zh hi3;have HV3:=Zh hv3;have HS:=Zh hS;have HLQ:=Zh hlq';have HLU:=Zh hlu;have HN4:=Zh hN4;have p0:=cell_of_row wi (w.heap.size+1) 0 _ _ (0,0) HTQ.out.box;have p2:=cell_of_row wi wo.heap.size 2 _ _ (0,0) HXQ.out;have p3:=cell_of_row wi wo.heap.size 3 _ _ (0,0) HXQ.out;clear hi3 hv3 hS hlq' hlu hN4 hs4 hni;have hwos:=HXQ.out;have hwol:wo.heap.size<wi.heap.size:=za4 hwos;go_upto_region 9 with fail
         generalize hw2:wi.alloc (.cells #[.int .u64 (word S 0),.int .u64 (word S 1),.int .u64 (word S 2),.int .u64 (word S 3)] 68)=w2 at *;have hx2:HasO w2 wi.heap.size (.cells #[.int .u64 (word S 0),.int .u64 (word S 1),.int .u64 (word S 2),.int .u64 (word S 3)] 68 (0,0)):=(by rw[←hw2];exact zaq _ _ _ _ rfl);have hb2:Below wi.heap.size wi w2:=(by rw[←hw2];exact (Below.refl _ _).alloc (Nat.le_refl _) _);have ht2:=HTQ.out.stays hb2;have hs2:w2.heap.size=wi.heap.size+1:=(by rw[←hw2];simp);have z0:w2.cell? ⟨wi.heap.size,0,none⟩=some (.int .u64 (word S 0)):=cell_of_row w2 wi.heap.size 0 _ _ (0,0) hx2;have z1:w2.cell? ⟨wi.heap.size,1,none⟩=some (.int .u64 (word S 1)):=cell_of_row w2 wi.heap.size 1 _ _ (0,0) hx2;have z2:w2.cell? ⟨wi.heap.size,2,none⟩=some (.int .u64 (word S 2)):=cell_of_row w2 wi.heap.size 2 _ _ (0,0) hx2;have z3:w2.cell? ⟨wi.heap.size,3,none⟩=some (.int .u64 (word S 3)):=cell_of_row w2 wi.heap.size 3 _ _ (0,0) hx2;have p0':w2.cell? ⟨w.heap.size+1,0,none⟩=some (.slice Av (Q+q) cv):=za5 p0 hb2;have p2':w2.cell? ⟨wo.heap.size,2,none⟩=some (.slice (some ⟨gm,0,none⟩) P P):=za5 p2 hb2;have p3':w2.cell? ⟨wo.heap.size,3,none⟩=some (.slice (some ⟨g3,0,none⟩) P c3):=za5 p3 hb2;have hc3':=za5 hc3 hb2;have hlq':=za5 hlq hb2;have hcb':=za5 hcb hb2;have hsz2:=HTQ.out.size;have n1:wi.heap.size≠w.heap.size+1:=(by omega);have n2:wo.heap.size≠w.heap.size+1:=(by omega);have n3:g3≠w.heap.size+1:=(by omega);have n4:gm≠w.heap.size+1:=(by omega);have n5:gb≠w.heap.size+1:=(by omega);have htd:=ht2.alloc (.cells #[.int .u64 (word S 0),.int .u64 (word S 1),.int .u64 (word S 2),.int .u64 (word S 3),.slice A4 N4 c4,.int .i64 (Q:Int),.bool lq,.bool lu] 142);have hal:=htd.drew;have hus:Ints w2 0 (.slice A4 N4 c4) (ns (s.follow.getD q [])):=HI3.out.stays hb2;have hlen2:(togP L bs k++plcsOf s x Q (bs.getD k false) q).length<=100000:=by
           rw[List.length_append,zb5];have h1:=HLP.out k (by omega);have h2:=HP.out s x (List.mem_of_getElem? HSX.out);have h3:=HPP.out;have h4:=HN.out;have:k*256<=64*256:=Nat.mul_le_mul_right _ (by omega);omega
         obtain⟨v6,w6,hr6,h6,g6,o6⟩:=zus hal.plc (by have:=hal.size;omega) hlen2 ⟨S,s.follow.getD q [],Q,lq,lu⟩ (.slice A4 N4 c4) (show Ints (w2.alloc (.cells #[.int .u64 (word S 0),.int .u64 (word S 1),.int .u64 (word S 2),.int .u64 (word S 3),.slice A4 N4 c4,.int .i64 (Q:Int),.bool lq,.bool lu] 142)).drew 0 _ _ from Ints.alloc hus _) (fun b e=>by have:=HV3.out b e;omega) 101 ⟨w2.heap.size,0,none⟩ 1 (fun j u hu=>by
           rw[Addr.add_lit,Nat.zero_add];refine (cell_of_row _ w2.heap.size j _ 142 (0,0) (heap_alloc_new w2 _)).trans ?_
           simpa [plcC] using hu)
         obtain⟨a1,a2,a3⟩:=zts hr6;obtain⟨A6,c6,hf6,hc6⟩:=h6.form;have hl6:(togP L bs k++plcsOf s x Q (bs.getD k false) q++[(⟨S,s.follow.getD q [],Q,lq,lu⟩:Plc)]).length=Q+q+1:=(by rw[List.length_append,List.length_append,zb5,HQ.out];rfl);rw[hl6] at hf6;subst hf6;have hin2:=fun b e=>(ht2.plc.in (b:=b) e)
         have hkind:=fun b e=>(ht2.plc.kind (b:=b) e)
         have m0:some wi.heap.size≠(Value.slice Av (Q+q) cv).ownBlock:=fun e=>by
           obtain⟨c2,k2⟩:=hkind _ e.symm;exact za6 k2 hx2 (by decide) rfl
         have m1:some wo.heap.size≠(Value.slice Av (Q+q) cv).ownBlock:=fun e=>by
           obtain⟨c2,k2⟩:=hkind _ e.symm;exact za6 k2 (zay hwos hb2) (by decide) rfl
         have m2:∀ b,b<w.heap.size+2->some b≠(Value.slice Av (Q+q) cv).ownBlock:=fun b hb e=>by have:=(hin2 _ e.symm).1;omega
         have keep6:∀ b o u,b<w2.heap.size->some b≠(Value.slice Av (Q+q) cv).ownBlock->w2.cell? ⟨b,o,none⟩=some u->w6.cell? ⟨b,o,none⟩=some u:=fun b o u hl hne h =>
           (World.cell?_of_block (g6.block b (by rw[World.size_drew,World.size_alloc];exact Nat.lt_succ_of_lt hl) hne)).trans (zaz (zbi h _))
         have y0:=keep6 _ _ _ (by omega) m0 z0;have y1:=keep6 _ _ _ (by omega) m0 z1;have y2:=keep6 _ _ _ (by omega) m0 z2;have y3:=keep6 _ _ _ (by omega) m0 z3;have y4:=keep6 _ _ _ (by omega) (m2 _ (by omega)) p0';have y5:=keep6 _ _ _ (by omega) m1 p2';have y6:=keep6 _ _ _ (by omega) m1 p3';have y7:=keep6 _ _ _ (by omega) (m2 _ (by omega)) hc3';have y8:=keep6 _ _ _ (by omega) (m2 _ (by omega)) hlq';have y9:=keep6 _ _ _ (by omega) (m2 _ (by omega)) hcb';have hbx6:=zbg g6 hal.box (m2 _ (by omega));have hxo6:HasO w6 wo.heap.size _:=zbg g6 (zbc (zaw (.cells #[.int .u64 (word S 0),.int .u64 (word S 1),.int .u64 (word S 2),.int .u64 (word S 3),.slice A4 N4 c4,.int .i64 (Q:Int),.bool lq,.bool lu] 142) (zay hwos hb2))) m1;have f6:=frozen_of_row w6 (w.heap.size+1) 0 _ _ hbx6;have H6:=Zh h6;have G6:=Zh g6;have HAL:=Zh hal;have HXO6:=Zh hxo6;have p0d:=zaz (zbi p0' (.cells #[.int .u64 (word S 0),.int .u64 (word S 1),.int .u64 (word S 2),.int .u64 (word S 3),.slice A4 N4 c4,.int .i64 (Q:Int),.bool lq,.bool lu] 142));have HS2:=Zh hs2;clear hs2;clear h6 g6 hal hbx6 hxo6 keep6 hin2 hkind hus hlen2 o6 hl6 htd hx2 ht2 hw2 hb2 p0 p2 p3 hc3 hlq hcb hc6;have hmx:Try.prog.follows .mixedOrders=true:=(by kernel_rfl);have hS0:(fun W:World=>W.cell? ⟨wi.heap.size,0,none⟩=some (.int .u64 (word S 0))∧W.cell? ⟨wi.heap.size,1,none⟩=some (.int .u64 (word S 1))∧W.cell? ⟨wi.heap.size,2,none⟩=some (.int .u64 (word S 2))∧W.cell? ⟨wi.heap.size,3,none⟩=some (.int .u64 (word S 3))∧W.cell? ⟨wo.heap.size,2,none⟩=some (.slice (some ⟨gm,0,none⟩) P P)∧W.cell? ⟨wo.heap.size,3,none⟩=some (.slice (some ⟨g3,0,none⟩) P c3)∧W.cell? ⟨g3,q,none⟩=some (.slice A4 N4 c4)∧W.cell? ⟨gm,q,none⟩=some (.bool lq)∧W.cell? ⟨gb,offb+k,none⟩=some (.bool lu)∧W.cell? ⟨w.heap.size+1,0,none⟩=some (.slice Av (Q+q) cv)) w2.drew:=⟨zaz z0,zaz z1,zaz z2,zaz z3,zaz p2',zaz p3',zaz hc3',zaz hlq',zaz hcb',zaz p0'⟩;have hS1:(fun W:World=>W.cell? ⟨wi.heap.size,0,none⟩=some (.int .u64 (word S 0))∧W.cell? ⟨wi.heap.size,1,none⟩=some (.int .u64 (word S 1))∧W.cell? ⟨wi.heap.size,2,none⟩=some (.int .u64 (word S 2))∧W.cell? ⟨wi.heap.size,3,none⟩=some (.int .u64 (word S 3))∧W.cell? ⟨wo.heap.size,2,none⟩=some (.slice (some ⟨gm,0,none⟩) P P)∧W.cell? ⟨wo.heap.size,3,none⟩=some (.slice (some ⟨g3,0,none⟩) P c3)∧W.cell? ⟨g3,q,none⟩=some (.slice A4 N4 c4)∧W.cell? ⟨gm,q,none⟩=some (.bool lq)∧W.cell? ⟨gb,offb+k,none⟩=some (.bool lu)∧W.cell? ⟨w.heap.size+1,0,none⟩=some (.slice Av (Q+q) cv)) (w2.alloc (.cells #[.int .u64 (word S 0),.int .u64 (word S 1),.int .u64 (word S 2),.int .u64 (word S 3),.slice A4 N4 c4,.int .i64 (Q:Int),.bool lq,.bool lu] 142)).drew:=⟨zaz (zbi z0 _),zaz (zbi z1 _),zaz (zbi z2 _),zaz (zbi z3 _),zaz (zbi p2' _),zaz (zbi p3' _),zaz (zbi hc3' _),zaz (zbi hlq' _),zaz (zbi hcb' _),p0d⟩;have hS2:(fun W:World=>W.cell? ⟨wi.heap.size,0,none⟩=some (.int .u64 (word S 0))∧W.cell? ⟨wi.heap.size,1,none⟩=some (.int .u64 (word S 1))∧W.cell? ⟨wi.heap.size,2,none⟩=some (.int .u64 (word S 2))∧W.cell? ⟨wi.heap.size,3,none⟩=some (.int .u64 (word S 3))∧W.cell? ⟨wo.heap.size,2,none⟩=some (.slice (some ⟨gm,0,none⟩) P P)∧W.cell? ⟨wo.heap.size,3,none⟩=some (.slice (some ⟨g3,0,none⟩) P c3)∧W.cell? ⟨g3,q,none⟩=some (.slice A4 N4 c4)∧W.cell? ⟨gm,q,none⟩=some (.bool lq)∧W.cell? ⟨gb,offb+k,none⟩=some (.bool lu)∧W.cell? ⟨w.heap.size+1,0,none⟩=some (.slice Av (Q+q) cv)) w6:=⟨y0,y1,y2,y3,y5,y6,y7,y8,y9,y4⟩;refine zbn (R:=fun _=>True) (S:=fun W=>W.cell? ⟨wi.heap.size,0,none⟩=some (.int .u64 (word S 0))∧W.cell? ⟨wi.heap.size,1,none⟩=some (.int .u64 (word S 1))∧W.cell? ⟨wi.heap.size,2,none⟩=some (.int .u64 (word S 2))∧W.cell? ⟨wi.heap.size,3,none⟩=some (.int .u64 (word S 3))∧W.cell? ⟨wo.heap.size,2,none⟩=some (.slice (some ⟨gm,0,none⟩) P P)∧W.cell? ⟨wo.heap.size,3,none⟩=some (.slice (some ⟨g3,0,none⟩) P c3)∧W.cell? ⟨g3,q,none⟩=some (.slice A4 N4 c4)∧W.cell? ⟨gm,q,none⟩=some (.bool lq)∧W.cell? ⟨gb,offb+k,none⟩=some (.bool lu)∧W.cell? ⟨w.heap.size+1,0,none⟩=some (.slice Av (Q+q) cv)) (T:=[22]) hmx ?_
         refine zal (i:=0) (v := .pointer (some ⟨w.heap.size+1,0,none⟩)) rfl (by kernel_rfl) (by kernel_rfl) (by kernel_rfl) (fun _ _ _ h=>h) (by kernel_rfl) (by decide) (by kernel_rfl) (Or.inl ⟨by rfl,fun w' hS=>by obtain⟨s0,s1,s2,s3,s4,s5,s6,s7,s8,s9⟩:=hS;go_simp⟩) trivial hS0 ?_;refine zal (i:=1) (v := .slice Av (Q+q) cv) rfl (by kernel_rfl) (by kernel_rfl) (by kernel_rfl) (fun _ _ _ h=>h) (by kernel_rfl) (by decide) (by kernel_rfl) (Or.inl ⟨by rfl,fun w' hS=>by obtain⟨s0,s1,s2,s3,s4,s5,s6,s7,s8,s9⟩:=hS;go_simp⟩) trivial hS0 ?_;refine zal (i:=2) (v := .agg #[.int .u64 (word S 0),.int .u64 (word S 1),.int .u64 (word S 2),.int .u64 (word S 3)]) rfl (by kernel_rfl) (by kernel_rfl) (by kernel_rfl) (fun _ _ _ h=>h) (by kernel_rfl) (by decide) (by kernel_rfl) (Or.inl ⟨by rfl,fun w' hS=>by obtain⟨s0,s1,s2,s3,s4,s5,s6,s7,s8,s9⟩:=hS;go_simp⟩) trivial hS0 ?_;refine zal (i:=3) (v := .pointer (some ⟨wo.heap.size,3,none⟩)) rfl (by kernel_rfl) (by kernel_rfl) (by kernel_rfl) (fun _ _ _ h=>h) (by kernel_rfl) (by decide) (by kernel_rfl) (Or.inl ⟨by rfl,fun w' hS=>by obtain⟨s0,s1,s2,s3,s4,s5,s6,s7,s8,s9⟩:=hS;go_simp⟩) trivial hS0 ?_;go_simp;refine zal (i:=4) (v := .slice (some ⟨g3,0,none⟩) P c3) rfl (by kernel_rfl) (by kernel_rfl) (by kernel_rfl) (fun _ _ _ h=>h) (by kernel_rfl) (by decide) (by kernel_rfl) (Or.inl ⟨by rfl,fun w' hS=>by obtain⟨s0,s1,s2,s3,s4,s5,s6,s7,s8,s9⟩:=hS;go_simp⟩) trivial hS0 ?_;refine zal (i:=5) (v := .int .i64 (q:Int)) rfl (by kernel_rfl) (by kernel_rfl) (by kernel_rfl) (fun _ _ _ h=>h) (by kernel_rfl) (by decide) (by kernel_rfl) (Or.inl ⟨by rfl,fun w' hS=>by obtain⟨s0,s1,s2,s3,s4,s5,s6,s7,s8,s9⟩:=hS;go_simp⟩) trivial hS0 ?_;refine zal (i:=6) (v := .pointer (some ⟨g3,q,none⟩)) rfl (by kernel_rfl) (by kernel_rfl) (by kernel_rfl) (fun _ _ _ h=>h) (by kernel_rfl) (by decide) (by kernel_rfl) (Or.inl ⟨by rfl,fun w' hS=>by obtain⟨s0,s1,s2,s3,s4,s5,s6,s7,s8,s9⟩:=hS;go_simp⟩) trivial hS0 ?_;go_simp;refine zal (i:=7) (v := .slice A4 N4 c4) rfl (by kernel_rfl) (by kernel_rfl) (by kernel_rfl) (fun _ _ _ h=>h) (by kernel_rfl) (by decide) (by kernel_rfl) (Or.inl ⟨by rfl,fun w' hS=>by obtain⟨s0,s1,s2,s3,s4,s5,s6,s7,s8,s9⟩:=hS;go_simp⟩) trivial hS0 ?_;refine zal (i:=8) (v := .int .i64 (Q:Int)) rfl (by kernel_rfl) (by kernel_rfl) (by kernel_rfl) (fun _ _ _ h=>h) (by kernel_rfl) (by decide) (by kernel_rfl) (Or.inl ⟨by rfl,fun w' hS=>by obtain⟨s0,s1,s2,s3,s4,s5,s6,s7,s8,s9⟩:=hS;go_simp⟩) trivial hS0 ?_;refine zal (i:=9) (v := .pointer (some ⟨wo.heap.size,2,none⟩)) rfl (by kernel_rfl) (by kernel_rfl) (by kernel_rfl) (fun _ _ _ h=>h) (by kernel_rfl) (by decide) (by kernel_rfl) (Or.inl ⟨by rfl,fun w' hS=>by obtain⟨s0,s1,s2,s3,s4,s5,s6,s7,s8,s9⟩:=hS;go_simp⟩) trivial hS0 ?_;go_simp;refine zal (i:=10) (v := .slice (some ⟨gm,0,none⟩) P P) rfl (by kernel_rfl) (by kernel_rfl) (by kernel_rfl) (fun _ _ _ h=>h) (by kernel_rfl) (by decide) (by kernel_rfl) (Or.inl ⟨by rfl,fun w' hS=>by obtain⟨s0,s1,s2,s3,s4,s5,s6,s7,s8,s9⟩:=hS;go_simp⟩) trivial hS0 ?_;refine zal (i:=11) (v := .int .i64 (q:Int)) rfl (by kernel_rfl) (by kernel_rfl) (by kernel_rfl) (fun _ _ _ h=>h) (by kernel_rfl) (by decide) (by kernel_rfl) (Or.inl ⟨by rfl,fun w' hS=>by obtain⟨s0,s1,s2,s3,s4,s5,s6,s7,s8,s9⟩:=hS;go_simp⟩) trivial hS0 ?_;refine zal (i:=12) (v := .pointer (some ⟨gm,q,none⟩)) rfl (by kernel_rfl) (by kernel_rfl) (by kernel_rfl) (fun _ _ _ h=>h) (by kernel_rfl) (by decide) (by kernel_rfl) (Or.inl ⟨by rfl,fun w' hS=>by obtain⟨s0,s1,s2,s3,s4,s5,s6,s7,s8,s9⟩:=hS;go_simp⟩) trivial hS0 ?_;go_simp;refine zal (i:=13) (v := .bool lq) rfl (by kernel_rfl) (by kernel_rfl) (by kernel_rfl) (fun _ _ _ h=>h) (by kernel_rfl) (by decide) (by kernel_rfl) (Or.inl ⟨by rfl,fun w' hS=>by obtain⟨s0,s1,s2,s3,s4,s5,s6,s7,s8,s9⟩:=hS;go_simp⟩) trivial hS0 ?_;refine zal (i:=14) (v := .slice (some ⟨gb,offb,none⟩) N cb) rfl (by kernel_rfl) (by kernel_rfl) (by kernel_rfl) (fun _ _ _ h=>h) (by kernel_rfl) (by decide) (by kernel_rfl) (Or.inl ⟨by rfl,fun w' hS=>by obtain⟨s0,s1,s2,s3,s4,s5,s6,s7,s8,s9⟩:=hS;go_simp⟩) trivial hS0 ?_
         refine zal (i:=15) (v := .int .i64 (k:Int)) rfl (by kernel_rfl) (by kernel_rfl) (by kernel_rfl) (fun _ _ _ h=>h) (by kernel_rfl) (by decide) (by kernel_rfl) (Or.inl ⟨by rfl,fun w' hS=>by obtain⟨s0,s1,s2,s3,s4,s5,s6,s7,s8,s9⟩:=hS;go_simp⟩) trivial hS0 ?_;go_simp;refine zal (i:=16) (v := .pointer (some ⟨gb,offb+k,none⟩)) rfl (by kernel_rfl) (by kernel_rfl) (by kernel_rfl) (fun _ _ _ h=>h) (by kernel_rfl) (by decide) (by kernel_rfl) (Or.inl ⟨by rfl,fun w' hS=>by obtain⟨s0,s1,s2,s3,s4,s5,s6,s7,s8,s9⟩:=hS;go_simp⟩) trivial hS0 ?_;refine zal (i:=17) (v := .bool lu) rfl (by kernel_rfl) (by kernel_rfl) (by kernel_rfl) (fun _ _ _ h=>h) (by kernel_rfl) (by decide) (by kernel_rfl) (Or.inl ⟨by rfl,fun w' hS=>by obtain⟨s0,s1,s2,s3,s4,s5,s6,s7,s8,s9⟩:=hS;go_simp⟩) trivial hS0 ?_;go_simp;refine za1 (rs:=[18]) (by kernel_rfl) (by simp) ?_;refine za2 (za0 rfl fun K' hK=>?_);go_simp;refine hK.out _ _ trivial (fun _=>hS0) ?_;clear hK K';go_simp;refine za1 (rs:=[19]) (by kernel_rfl) (by simp) ?_;refine za2 (za0 rfl fun K' hK=>?_);go_simp;refine hK.out _ _ trivial (fun _=>hS1) ?_;clear hK K';go_simp;refine za1 (rs:=[20]) (by kernel_rfl) (by simp) ?_;refine za2 (za0 rfl fun K' hK=>?_);refine zu5 (by rfl) _ _ (by rfl) (by go_simp) (by go_simp) _ (by rfl) hr6 ?_;refine hK.out _ _ trivial (fun _=>hS2) ?_;clear hK K';go_simp;refine za1 (rs:=[21]) (by kernel_rfl) (by simp) ?_;refine za2 (za0 rfl fun K' hK=>?_);go_simp;refine hK.out _ _ trivial (fun _=>hS2) ?_;clear hK K';go_simp;refine za1 (rs:=[22]) (by kernel_rfl) (by simp) ?_;refine za2 (za0 rfl fun K' hK=>?_);go_simp;refine hK.out _ _ trivial (za3 (t:=22) (by simp) (by kernel_rfl)) ?_;clear hK K';refine zao (by kernel_rfl) ?_ _;go_wp2;go_roundg (P-(q+1))
         case measure=>have:=HMQ.out;omega
         case rel =>
           have e1:togP L bs k++plcsOf s x Q (bs.getD k false) (q+1)=togP L bs k++plcsOf s x Q (bs.getD k false) q++[(⟨S,s.follow.getD q [],Q,lq,lu⟩:Plc)]:=by
             rw[plcsOf,plcOf,HS.out,HLQ.out,HLU.out,List.append_assoc]
           exact⟨q+1,_,by go_num,by omega,rfl,by rw[e1];exact HAL.out.grewP G6.out H6.out,ze6 _ HXO6.out (fun e=>n2 e)⟩
       . have hqP':q=P:=(by omega);subst hqP';have hQ256:=hP256;have hbe:=HTQ.out.bel.size;have p1:wi.cell? ⟨wo.heap.size,1,none⟩=some (.slice A2 F c2):=cell_of_row wi wo.heap.size 1 _ _ (0,0) HXQ.out;have hni:=HNI.out.below HTQ.out.bel;go_wp2;go_loopg [61] F (fun m i wj=>∃ (p:Nat) (u:Value),i = .int .i64 (p:Int)∧p<=F∧m=F-p∧Tog w wj lam (.slice Av (Q+q) cv) u (togP L bs k++plcsOf s x Q (bs.getD k false) q) (togF L bs k++(x.first.take p).map (Q+·)))
         case atStart=>exact⟨0,_,by first | rfl | trivial,Nat.zero_le _,by first | rfl | trivial,by rw[List.take_zero,List.map_nil,List.append_nil];exact HTQ.out⟩
         case round =>
           obtain⟨p,u,rfl,hp,hmp,htp⟩:=hrel;generalize wr=wj at *;have HMP:=Zh hmp;have HTP:=Zh htp;obtain⟨Au,cu,hfu⟩:=htp.fst.form;obtain⟨M,hM⟩:∃ M,(ns (togF L bs k++(x.first.take p).map (Q+·))).length=M:=⟨_,rfl⟩;rw[hM] at hfu;subst hfu;have HM:=Zh hM;clear hmp htp hM
           by_cases hpF:p<F
           . have hpx:p<x.first.length:=by rw[HFF.out];exact hpF
             have hnj:=HNI.out.below HTP.out.bel;obtain⟨g2,c2',e2,_,hg2,hy⟩:=hnj.first.at p (by rw[zag];exact hpx)
             rw[zag,HFF.out] at e2;simp only[Value.slice.injEq] at e2;obtain⟨rfl,-,rfl⟩:=e2;obtain⟨y,hyx⟩:∃ y,x.first[p]'hpx=y:=⟨_,rfl⟩
             have hyn:(ns x.first)[p]'(by rw[zag];exact hpx)=(y:Int):=(by simp[ns,hyx]);rw[hyn] at hy;have hyP:y<q:=by
               have:=HI.out s x (List.mem_of_getElem? HSX.out) y (by rw[←hyx];exact List.getElem_mem _);rw[HPP.out] at this;exact this
             have HYX:=Zh hyx;have hp0:(0:Int)<=(p:Int):=(by omega);have hp1:(p:Int)<(F:Int):=(by omega);have hQk:Q<=64*256:=by
               have h1:=HLP.out k (by omega);have h2:=HQ.out;have h4:k*256<=64*256:=Nat.mul_le_mul_right _ (by omega);omega
             have hMM:M<=64*256+256:=by
               have h1:=HLF.out k (by omega);have h2:=HM.out;have h4:k*256<=64*256:=Nat.mul_le_mul_right _ (by omega);rw[zag,List.length_append,List.length_map,List.length_take] at h2;omega
             have t1:wj.cell? ⟨w.heap.size+1,1,none⟩=some (.slice Au M cu):=cell_of_row wj (w.heap.size+1) 1 _ _ (0,0) HTP.out.box;have hszj:=HTP.out.size;have hal:=HTP.out.alloc (.cells #[.int .i64 ((Q:Int)+(y:Int))] 3);have hne:some (w.heap.size+1)≠(Value.slice Au M cu).ownBlock:=fun e=>by
               have:=(HTP.out.fst.in e.symm).1;omega
             have e2:ns (togF L bs k++(x.first.take (p+1)).map (Q+·))=ns (togF L bs k++(x.first.take p).map (Q+·))++[(Q:Int)+(y:Int)]:=by
               rw[List.take_succ_eq_append_getElem hpx,hyx,List.map_append,←List.append_assoc,zek];simp[ns]
             have HAL:=Zh hal;have HNE:=Zh hne;have HE2:=Zh e2;clear hni hnj hyn hyx p1 hal hne e2;go_wp2_with (first
               | (at_builtin;refine zbv rfl _ _ (by rfl) (by rfl) (by rfl) HAL.out.fst (zsm wj ((Q:Int)+(y:Int))) (by have:=HM.out;simp only[List.length_cons,List.length_nil];omega) (by simp;omega) ?_;intro v6 w6 i6 g6 o6;have hbx6:=zbg g6 HAL.out.box HNE.out;obtain⟨A6,n6,c6,rfl⟩:=i6.form3;have t6:w6.cell? ⟨w.heap.size+1,1,none⟩=some (.slice Au M cu):=cell_of_row w6 (w.heap.size+1) 1 _ _ (0,0) hbx6;have f6:=frozen_of_row w6 (w.heap.size+1) 1 _ _ hbx6;have I6:=Zh i6;have G6:=Zh g6;clear i6 g6 o6 hbx6)
               | fail)
             go_roundg (F-(p+1))
             case measure=>have:=HMP.out;omega
             case rel=>exact⟨p+1,_,by go_num,by omega,rfl,HAL.out.grewF G6.out (by rw[HE2.out];exact I6.out)⟩
           . have hpF':p=F:=(by omega);have hx1:L.getD k lx0=(s,x):=(by rw[List.getD_eq_getElem?_getD,HSX.out];rfl);have e3:togP L bs (k+1)=togP L bs k++plcsOf s x Q (bs.getD k false) q:=(by rw[togP,hx1,HQ.out,HPP.out]);have e4:togF L bs (k+1)=togF L bs k++(x.first.take p).map (Q+·):=(by rw[togF,hx1,HQ.out,hpF',←HFF.out,List.take_length]);have HE3:=Zh e3;have HE4:=Zh e4;clear hx1 e3 e4 hni p1;go_wp2;go_roundg (N-(k+1))
             case measure=>have:=HMK.out;omega
             case rel=>exact⟨k+1,_,_,by go_num,by omega,rfl,by rw[HE3.out,HE4.out];exact HTP.out⟩
   . have hkn:k=N:=(by omega);subst hkn;have d0:wo.cell? ⟨w.heap.size,0,none⟩=some (.slice none 0 0):=cell_of_row wo w.heap.size 0 _ _ (0,0) HT.out.res;have d1:wo.cell? ⟨w.heap.size,1,none⟩=some (.slice none 0 0):=cell_of_row wo w.heap.size 1 _ _ (0,0) HT.out.res;have d2:wo.cell? ⟨w.heap.size,2,none⟩=some (.int .i64 0):=cell_of_row wo w.heap.size 2 _ _ (0,0) HT.out.res;have f0:=frozen_of_row wo w.heap.size 0 _ _ HT.out.res;have f1:=frozen_of_row wo w.heap.size 1 _ _ HT.out.res;have f2:=frozen_of_row wo w.heap.size 2 _ _ HT.out.res;go_wp2;obtain⟨q0,q1,q2,q3,q4⟩:=HT.out.fin;refine zxi (x:=6) rfl rfl rfl q0 ⟨_,_,_,rfl,q4,q1,q2,q3⟩
end
section
open Go Go.ChangeShapes Go.WideShapes Go.ChangeAt Go.RowKit Go.Deep
theorem zim {W:World} {a:Addr} {v:Value} (h:W.cell? (a.add 0)=some v):∃ b off,a=⟨b,off,none⟩:=by
 obtain⟨b,off,spot⟩:=a;have:spot=none:=by simpa [Addr.add] using World.cell?_spot h
 subst this;exact⟨b,off,rfl⟩
section
variable {H:Type} {enc:TypeId×Value->H} {W:World} {base:Nat} {held:Bool} {v:Value} {d:DataW H} {ps:List MemPlace}
theorem zp4 (hv:Value.okWide Try.prog W .any base 22 v) (h:DataW.Trod enc Try.prog W 0 (fun _=>true) held 22 v d ps):
   ∃ A n cap L,v = .slice A n cap∧n=L.length∧RdStr W A L∧n<=cap∧cap<=maxLen∧∀ s∈L,s.size<=maxLen:=by
 obtain⟨A,n,cap,rfl⟩:=okWide_slice Try.underlying22 hv;obtain⟨fuel,hf⟩:=h;rcases open_strs Try.underlying22 Try.underlying9 (by kernel_rfl) hf with ⟨hcs,_⟩|⟨a,len,c,m,Sx,hcs,_,hl,hm,hmm,_,hcell⟩
 . simp[Value.cells] at hcs;obtain⟨rfl,rfl,rfl⟩:=hcs;exact⟨none,0,0,[],rfl,rfl,fun k s hk=>by simp at hk,Nat.le_refl _,Nat.zero_le _,fun s hs=>by simp at hs⟩
 . simp[Value.cells] at hcs;obtain⟨rfl,rfl,rfl⟩:=hcs;have hnm:n<=m:=(by rw[hmm];simp;omega);refine⟨_,n,cap,(List.range n).map Sx,rfl,by simp,fun i s hi=>?_,hl,hm,fun s hs=>?_⟩
   . have hlt:i<n:=(by have:=(List.getElem?_eq_some_iff.1 hi).1;simpa using this);simp[hlt] at hi;subst hi;obtain⟨b,off,rfl⟩:=zim (hcell 0 (by omega)).1;have hc:=(hcell i (by omega)).1;rw[Go.WideShapes.add_plain] at hc;exact⟨b,off,rfl,World.block_lt_of_cell? W ⟨b,off+i,none⟩ hc,hc⟩
   . simp at hs;obtain⟨i,hi,rfl⟩:=hs;exact (hcell i (by omega)).2
theorem zlv (hv:Value.okWide Try.prog W .any base 23 v) (h:DataW.Trod enc Try.prog W 0 (fun _=>true) held 23 v d ps):
   ∃ A n cap L,v = .slice A n cap∧n=L.length∧RdBo W A L∧n<=cap∧cap<=maxLen:=by
 obtain⟨A,n,cap,rfl⟩:=okWide_slice Try.underlying23 hv;obtain⟨fuel,hf⟩:=h;rcases open_bools Try.underlying23 Try.underlying4 (by kernel_rfl) hf with ⟨hcs,_⟩|⟨a,len,c,B,hcs,_,hl,hm,_,hcell⟩
 . simp[Value.cells] at hcs;obtain⟨rfl,rfl,rfl⟩:=hcs;exact⟨none,0,0,[],rfl,rfl,fun k s hk=>by simp at hk,Nat.le_refl _,Nat.zero_le _⟩
 . simp[Value.cells] at hcs;obtain⟨rfl,rfl,rfl⟩:=hcs;refine⟨_,n,cap,(List.range n).map B,rfl,by simp,fun i s hi=>?_,hl,hm⟩;have hlt:i<n:=(by have:=(List.getElem?_eq_some_iff.1 hi).1;simpa using this);simp[hlt] at hi;subst hi;obtain⟨b,off,rfl⟩:=zim (hcell 0 (by omega));have hc:=hcell i (by omega);rw[Go.WideShapes.add_plain] at hc;exact⟨b,off,rfl,World.block_lt_of_cell? W ⟨b,off+i,none⟩ hc,hc⟩
end
end
end Go.Proofs.Ytgbdanddbgomhaa
