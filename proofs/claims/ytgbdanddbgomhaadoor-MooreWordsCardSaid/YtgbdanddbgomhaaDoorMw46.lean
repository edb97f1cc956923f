import Derived.Test.YtgbdanddbgomhaaDoorMw21
import Derived.Test.YtgbdanddbgomhaaDoorMw44
import Derived.RangeFuncRecord
import Derived.Test.YtgbdanddbgomhaaDoorMw20
set_option linter.unusedVariables false
set_option linter.unusedSimpArgs false
namespace Go.Proofs.YtgbdanddbgomhaaDoor
open Go Go.RowKit
section
attribute [local go_sem ↓] Go.wp_at_zero Go.wp_at_succ
def RetPattern (w:World) (s:ByteArray) (e:Ending) (w':World):Prop:=
 ∃ t k ok,e = .returned (.tuple #[nodeV t k,.int .i64 ok])∧Tree w' (fun b=>w.heap.size<=b) t k∧Below w.heap.size w w'∧
   ((ok=1∧parse s = .ok t∧WF t∧plN t<=60)∨(ok=0∧t=T.zero∧k = .slice none 0 0∧∀ t',parse s = .ok t'->¬ plN t'<=60))
set_option maxRecDepth 20000 in
set_option maxHeartbeats 2000000 in
theorem zgo (w:World) (s:ByteArray) (hs:s.size<=9223372036854775807):Calls Tryd.prog 8 #[.string s] w (RetPattern w s):=by
 have HR:=Zh (fun w=>zst w s hs);unfold RetParse at HR;have b0:=Box8.new0 w;have hB0:Below w.heap.size w (w.alloc (.cells #[.int .i64 0,.int .u64 0,.int .u64 0,.int .u64 0,.int .u64 0,.int .i64 0,.int .i64 0,.slice none 0 0] 29)):=(Below.refl _ _).alloc (Nat.le_refl _) _;have hw0:=b0.lt;cases hp:parse s with
 | error x =>
   obtain⟨cc,aa⟩:=x;simp only[hp] at HR;have HP:=Zh hp;clear hp;go_enter Tryd.func8,Tryd.ntmps8;go_wp2_with (go_at_call 30;(with_reducible refine (HR.out _).mono ?_);rintro e w3 ⟨t',k',bad,at_,rfl,ht',hb3,a1,a2,a3,a4,a5⟩;subst a1 a2 a3 a4;have a6:(bad != 0)=true:=(by simpa using a5);clear a5 ht';unfold nodeV;have b3:=b0.stays hb3;have hl3:=b3.lt;obtain⟨f0,f1,f2,f3,f4,f5,f6,f7⟩:=b3.frozen;obtain⟨r0,r1,r2,r3,r4,r5,r6,r7⟩:=b3.cell);have hB3:=gro1 (Below.refl _ _) hb3;have bF:=(b3.put (t':=T.zero) (k' := .slice none 0 0) T.zero (.slice none 0 0)).alloc (.cells #[.int .i64 (T.zero).op,.int .u64 (word (T.zero).set 0),.int .u64 (word (T.zero).set 1),.int .u64 (word (T.zero).set 2),.int .u64 (word (T.zero).set 3),.int .i64 (T.zero).lo,.int .i64 (T.zero).hi,.slice none 0 0] 29);have hF:=(zb5 hB3 (Nat.le_refl w.heap.size) T.zero (.slice none 0 0)).alloc (by rw[zcm];omega) (.cells #[.int .i64 (T.zero).op,.int .u64 (word (T.zero).set 0),.int .u64 (word (T.zero).set 1),.int .u64 (word (T.zero).set 2),.int .u64 (word (T.zero).set 3),.int .i64 (T.zero).lo,.int .i64 (T.zero).hi,.slice none 0 0] 29);rw[←zhs] at bF hF;change bodyPost _ _ _ _ _ ((put80 w3 w.heap.size).alloc (.cells #[.int .i64 (T.zero).op,.int .u64 (word (T.zero).set 0),.int .u64 (word (T.zero).set 1),.int .u64 (word (T.zero).set 2),.int .u64 (word (T.zero).set 3),.int .i64 (T.zero).lo,.int .i64 (T.zero).hi,.slice none 0 0] 29));generalize (put80 w3 w.heap.size).alloc (.cells #[.int .i64 (T.zero).op,.int .u64 (word (T.zero).set 0),.int .u64 (word (T.zero).set 1),.int .u64 (word (T.zero).set 2),.int .u64 (word (T.zero).set 3),.int .i64 (T.zero).lo,.int .i64 (T.zero).hi,.slice none 0 0] 29)=wF at *;obtain⟨F0,F1,F2,F3,F4,F5,F6,F7⟩:=bF.cell;refine bodyPost_ret (v := .tuple #[nodeV T.zero (.slice none 0 0),.int .i64 0]) ?_ rfl ⟨T.zero,_,0,rfl,.nil _ rfl,hF,.inr ⟨rfl,rfl,rfl,fun t' e=>?_⟩⟩
   . simp[nodeV,results,Tryd.results8,go_sem,F0,F1,F2,F3,F4,F5,F6,F7]
   . rw[HP.out] at e;cases e
 | ok t =>
   simp only[hp] at HR;have hwf:=zhj hp;have HP:=Zh hp;have HWF:=Zh hwf;clear hp hwf
   by_cases hpl:plN t<=60
   . have HPL:Hid (∀ W k ok,Tree W ok t k->Calls Tryd.prog 31 #[nodeP t k] W fun e w'=>∃ n:Nat,e = .returned (.int .i64 n)∧n<=60∧Below W.heap.size W w'):=fun W k ok ht=>(zht W HWF.out ht).mono fun e w' h=>⟨plN t,h.1,hpl,h.2⟩
     unfold nodeP at HPL;have HPL2:=Zh hpl;clear hpl;go_enter Tryd.func8,Tryd.ntmps8;go_wp2_with (first
       | (go_at_call 30;(with_reducible refine (HR.out _).mono ?_);rintro e w3 ⟨t',k',bad,at_,rfl,ht',hb3,a1,a2,a3⟩;have a1':=a1.symm;subst a1' a2 a3;obtain⟨A,tn,tc,rfl⟩:=ht'.form;unfold nodeV;have ht3:=ht'.alloc (.cells #[.int .i64 (t).op,.int .u64 (word (t).set 0),.int .u64 (word (t).set 1),.int .u64 (word (t).set 2),.int .u64 (word (t).set 3),.int .i64 (t).lo,.int .i64 (t).hi,.slice A tn tc] 29);have hb3':=(gro1 (Below.refl _ _) hb3).alloc (gro1 (Below.refl _ _) hb3).size (.cells #[.int .i64 (t).op,.int .u64 (word (t).set 0),.int .u64 (word (t).set 1),.int .u64 (word (t).set 2),.int .u64 (word (t).set 3),.int .i64 (t).lo,.int .i64 (t).hi,.slice A tn tc] 29);have b3:=b0.stays hb3;have hl3:=b3.lt)
       | (go_at_call 31;(with_reducible refine (HPL.out _ _ _ ht3).mono ?_);rintro e w4 ⟨pn,rfl,hpn,hb4⟩;have ht4:=ht3.stays hb4;have b4:=(b3.alloc _).stays hb4;have x4:=(Box8.new w3 t (.slice A tn tc)).stays hb4;obtain⟨f0,f1,f2,f3,f4,f5,f6,f7⟩:=b4.frozen;obtain⟨r0,r1,r2,r3,r4,r5,r6,r7⟩:=b4.cell;obtain⟨x0,x1,x2,x3,x40,x5,x6,x7⟩:=x4.cell))
     have hB4:=gro hb3' hb4;have bF:=b4.put (t':=t) (k' := .slice A tn tc) t (.slice A tn tc);have tF:=((ht4.weak (ok':=fun b=>w.heap.size<=b∧b≠w.heap.size) fun b hb _=>by simp at hb;omega).put8 (g':=w.heap.size) (t':=t) (k' := .slice A tn tc) fun b hb=>hb.2).weak (ok':=fun b=>w.heap.size<=b) fun b hb _=>hb.1
     have hF:=zb5 hB4 (Nat.le_refl w.heap.size) t (.slice A tn tc);change bodyPost _ _ _ _ _ (put8 w4 w.heap.size t (.slice A tn tc));generalize put8 w4 w.heap.size t (.slice A tn tc)=wF at *;obtain⟨F0,F1,F2,F3,F4,F5,F6,F7⟩:=bF.cell;refine bodyPost_ret (v := .tuple #[nodeV t (.slice A tn tc),.int .i64 1]) ?_ rfl ⟨t,_,1,rfl,tF,hF,.inl ⟨rfl,HP.out,HWF.out,HPL2.out⟩⟩;simp[nodeV,results,Tryd.results8,go_sem,F0,F1,F2,F3,F4,F5,F6,F7]
   . have HPL:Hid (∀ W k ok,Tree W ok t k->Calls Tryd.prog 31 #[nodeP t k] W fun e w'=>∃ n:Nat,e = .returned (.int .i64 n)∧60<n∧Below W.heap.size W w'):=fun W k ok ht=>(zht W HWF.out ht).mono fun e w' h=>⟨plN t,h.1,by omega,h.2⟩
     unfold nodeP at HPL;have HPL2:=Zh hpl;clear hpl;go_enter Tryd.func8,Tryd.ntmps8;go_wp2_with (first
       | (go_at_call 30;(with_reducible refine (HR.out _).mono ?_);rintro e w3 ⟨t',k',bad,at_,rfl,ht',hb3,a1,a2,a3⟩;have a1':=a1.symm;subst a1' a2 a3;obtain⟨A,tn,tc,rfl⟩:=ht'.form;unfold nodeV;have ht3:=ht'.alloc (.cells #[.int .i64 (t).op,.int .u64 (word (t).set 0),.int .u64 (word (t).set 1),.int .u64 (word (t).set 2),.int .u64 (word (t).set 3),.int .i64 (t).lo,.int .i64 (t).hi,.slice A tn tc] 29);have hb3':=(gro1 (Below.refl _ _) hb3).alloc (gro1 (Below.refl _ _) hb3).size (.cells #[.int .i64 (t).op,.int .u64 (word (t).set 0),.int .u64 (word (t).set 1),.int .u64 (word (t).set 2),.int .u64 (word (t).set 3),.int .i64 (t).lo,.int .i64 (t).hi,.slice A tn tc] 29);have b3:=b0.stays hb3;have hl3:=b3.lt)
       | (go_at_call 31;(with_reducible refine (HPL.out _ _ _ ht3).mono ?_);rintro e w4 ⟨pn,rfl,hpn,hb4⟩;have ht4:=ht3.stays hb4;have b4:=(b3.alloc _).stays hb4;have x4:=(Box8.new w3 t (.slice A tn tc)).stays hb4;obtain⟨f0,f1,f2,f3,f4,f5,f6,f7⟩:=b4.frozen;obtain⟨r0,r1,r2,r3,r4,r5,r6,r7⟩:=b4.cell;obtain⟨x0,x1,x2,x3,x40,x5,x6,x7⟩:=x4.cell))
     have hB4:=gro hb3' hb4;have bF:=b4.put (t':=T.zero) (k' := .slice none 0 0) T.zero (.slice none 0 0);have hF:=zb5 hB4 (Nat.le_refl w.heap.size) T.zero (.slice none 0 0);rw[←zhs] at bF hF;change bodyPost _ _ _ _ _ (put80 w4 w.heap.size);generalize put80 w4 w.heap.size=wF at *;obtain⟨F0,F1,F2,F3,F4,F5,F6,F7⟩:=bF.cell;refine bodyPost_ret (v := .tuple #[nodeV T.zero (.slice none 0 0),.int .i64 0]) ?_ rfl ⟨T.zero,_,0,rfl,.nil _ rfl,hF,.inr ⟨rfl,rfl,rfl,fun t' e=>?_⟩⟩
     . simp[nodeV,results,Tryd.results8,go_sem,F0,F1,F2,F3,F4,F5,F6,F7]
     . rw[HP.out] at e;injection e with e
       rw[←e];exact HPL2.out
end
theorem znh {w:World} {s:ByteArray} {t:T} (hs:s.size<=9223372036854775807) (hp:parse s = .ok t) (hpl:plN t<=60):Calls Tryd.prog 8 #[.string s] w fun e w'=>∃ A n c,e = .returned (.tuple #[nodeV t (.slice A n c),.int .i64 1])∧Tree w' (fun b=>w.heap.size<=b) t (.slice A n c)∧Below w.heap.size w w':=by
 refine (zgo w s hs).mono fun e w' h=>?_
 obtain⟨t',k,ok,rfl,ht,hb,h⟩:=h;rcases h with ⟨rfl,h1,h2,h3⟩|⟨rfl,h1,h2,h3⟩
 . rw[hp] at h1;injection h1 with h1
   subst h1;obtain⟨A,n,c,rfl⟩:=ht.form;exact⟨A,n,c,rfl,ht,hb⟩
 . exact absurd hpl (h3 t hp)
theorem zni {w:World} {s:ByteArray} (hs:s.size<=9223372036854775807) (hp:¬ ∃ t,parse s = .ok t∧plN t<=60):Calls Tryd.prog 8 #[.string s] w fun e w'=>e = .returned (.tuple #[nodeV T.zero (.slice none 0 0),.int .i64 0])∧Below w.heap.size w w':=by
 refine (zgo w s hs).mono fun e w' h=>?_
 obtain⟨t',k,ok,rfl,ht,hb,h⟩:=h;rcases h with ⟨rfl,h1,h2,h3⟩|⟨rfl,rfl,rfl,h3⟩
 . exact absurd ⟨t',h1,h3⟩ hp
 . exact⟨rfl,hb⟩
section
attribute [local go_sem ↓] Go.wp_at_zero Go.wp_at_succ
def RdBo (w:World) (A:Option Addr) (L:List Bool):Prop:=∀ i x,L[i]?=some x->∃ b off,A=some ⟨b,off,none⟩∧b<w.heap.size∧w.cell? ⟨b,off+i,none⟩=some (.bool x)
theorem RdBo.stays {w w':World} {A:Option Addr} {L:List Bool} (h:RdBo w A L) (hb:Below w.heap.size w w'):RdBo w' A L:=fun i s e=>by
 obtain⟨b,off,h1,h2,h3⟩:=h i s e;exact⟨b,off,h1,Nat.lt_of_lt_of_le h2 hb.size,za2 h3 hb⟩
def ruleOf (s:ByteArray) (b:Bool):List (T×Bool):=match parse s with
 | .ok t=>if plN t<=60∧lenN true t<=32 then [(t,b)] else []
 | .error _=>[]
def rulesN (L:List ByteArray) (bs:List Bool):Nat->List (T×Bool)
 | 0=>[]
 | k+1=>rulesN L bs k++ruleOf (L.getD k ⟨#[]⟩) (bs.getD k false)
theorem znf (s:ByteArray) (b:Bool):(ruleOf s b).length<=1:=by
 unfold ruleOf;split
 . split <;> simp
 . simp
theorem ze4 (L:List ByteArray) (bs:List Bool):∀ k,(rulesN L bs k).length<=k
 | 0=>by simp[rulesN]
 | k+1=>by
   have:=ze4 L bs k;have:=znf (L.getD k ⟨#[]⟩) (bs.getD k false);simp only[rulesN,List.length_append];omega
theorem ziw (L:List ByteArray) (bs:List Bool):∀ k,∀ r∈rulesN L bs k,WF r.1∧plN r.1<=60∧lenN true r.1<=32
 | 0=>fun r h=>by simp[rulesN] at h
 | k+1=>fun r h=>by
   simp only[rulesN,List.mem_append] at h;rcases h with h|h
   . exact ziw L bs k r h
   . unfold ruleOf at h;split at h
     . rename_i t ht;split at h
       . rename_i hc;rw[List.mem_singleton] at h;subst h;exact⟨zhj ht,hc.1,hc.2⟩
       . simp at h
     . simp at h
def RetRules (w:World) (l:List (T×Bool)) (e:Ending) (w':World):Prop:=∃ A c A' c',e = .returned (.tuple #[.slice A l.length c,.slice A' l.length c'])∧l.length<=c∧l.length<=c'∧RdRules w' A l∧RdRules w' A' l∧Below w.heap.size w w'
set_option maxRecDepth 20000 in
set_option maxHeartbeats 4000000 in
theorem zv0 {w:World} {A B:Option Addr} {ca cb:Nat} {L:List ByteArray} {bs:List Bool} (hs:RdStr w A L) (hb:RdBo w B bs) (hL:L.length<=9223372036854775807) (hbs:bs.length<=9223372036854775807) (hsz:∀ s∈L,s.size<=9223372036854775807):
   Calls Tryd.prog 20 #[.slice A L.length ca,.slice B bs.length cb] w (RetRules w (rulesN L bs (min L.length 4))):=by
 have HS:=Zh hs;have HBO:=Zh hb;have HSZ:=Zh hsz;obtain⟨N,hN⟩:∃ N,L.length=N:=⟨_,rfl⟩;obtain⟨M,hM⟩:∃ M,bs.length=M:=⟨_,rfl⟩;have HNN:=Zh hN;have HMM:=Zh hM;rw[hN] at hL ⊢;rw[hM] at hbs ⊢;clear hs hb hsz hN hM;have hk4:min N 4<=N∧min N 4<=4:=(by omega);obtain⟨Z,hZ⟩:∃ Z,min N 4=Z:=⟨_,rfl⟩;have HZ:=Zh hZ;rw[hZ] at hk4 ⊢;clear hZ;go_enter Tryd.func20,Tryd.ntmps20;go_wp2;go_loopg [6,7,8] Z (fun m va vb i wr=>∃ k:Nat,i = .int .i64 (k:Int)∧k<=Z∧m=Z-k∧RuleRow 101 wr w.heap.size va (rulesN L bs k)∧RuleRow 102 wr w.heap.size vb (rulesN L bs k)∧Below w.heap.size w wr)
 case atStart=>exact⟨0,by first | rfl | trivial,Nat.zero_le _,by first | rfl | trivial,RuleRow.nil _ _ _,RuleRow.nil _ _ _,Below.refl _ _⟩
 case round =>
   obtain⟨k,rfl,hk,hmk,ra,rb,hb⟩:=hrel;have hlk:=ze4 L bs k;have HMK:=Zh hmk;have HRA:=Zh ra;have HRB:=Zh rb;have HB:=Zh hb;obtain⟨Aa,ca',hfa,hca⟩:=ra.form;obtain⟨Ab,cb',hfb,hcb⟩:=rb.form;have hlen100:(rulesN L bs k).length<=100000:=(by omega);obtain⟨Q,hQ⟩:∃ Q,(rulesN L bs k).length=Q:=⟨_,rfl⟩;rw[hQ] at hfa hfb hca hcb;subst hfa hfb;have HQ:=Zh hQ;have HLE:=Zh hlen100;clear hmk ra rb hb hlk hQ hlen100
   by_cases hkZ:k<Z
   . have hkN:k<L.length:=(by rw[HNN.out];omega);obtain⟨s,hse⟩:∃ s,L[k]?=some s:=⟨_,List.getElem?_eq_getElem hkN⟩;have hsm:s∈L:=List.mem_of_getElem? hse;have hss:=HSZ.out s hsm;obtain⟨g,off,rfl,hg,hc0⟩:=HS.out k s hse;have x0:=za2 hc0 HB.out;have hsD:L.getD k ⟨#[]⟩=s:=(by rw[List.getD_eq_getElem?_getD,hse];rfl);have HSD:=Zh hsD;have hk1:(k:Int)<(N:Int):=(by omega);have hk0:(0:Int)<=(k:Int):=(by omega);have hk2:(k:Int)<4:=(by omega);clear hse hsm hc0 hsD
     by_cases hpat:∃ t,parse s = .ok t∧plN t<=60
     . obtain⟨t,hpt,hpl⟩:=hpat;have hwf:=zhj hpt;have hpo:=znh (w:=wr) hss hpt hpl;unfold nodeV at hpo;have HPO:=Zh hpo;have HWF:=Zh hwf;obtain⟨d,hd⟩:∃ d,lenN true t=d:=⟨_,rfl⟩;have hro:∀ b,ruleOf s b=if plN t<=60∧d<=32 then [(t,b)] else []:=fun b=>by unfold ruleOf;rw[hpt,←hd]
       have HRO:=Zh hro;have HDD:=Zh hd;have HPL:=Zh hpl;have HLEN:=Zh (fun (W:World) (A':Option Addr) (n' c':Nat) (ok:Nat->Prop) (h:Tree W ok t (.slice A' n' c'))=>(zti (k := .slice A' n' c') true W hwf h).mono fun e w' h=>(show _∧Below W.heap.size W w' from h));unfold nodeP at HLEN;rw[hd] at HLEN;clear hpo hwf hpt hro hd hpl
       by_cases hd32:(32:Int)<(d:Int)
       . go_wp2_with (first
           | (go_at_call 8;(with_reducible refine HPO.out.mono ?_);rintro e w3 ⟨A',n',c',rfl,t3,b3⟩;have HT3:=Zh (t3.alloc (.cells #[.int .i64 t.op,.int .u64 (word t.set 0),.int .u64 (word t.set 1),.int .u64 (word t.set 2),.int .u64 (word t.set 3),.int .i64 t.lo,.int .i64 t.hi,(.slice A' n' c')] 29));have HB3:=Zh (b3.alloc b3.size (.cells #[.int .i64 t.op,.int .u64 (word t.set 0),.int .u64 (word t.set 1),.int .u64 (word t.set 2),.int .u64 (word t.set 3),.int .i64 t.lo,.int .i64 t.hi,(.slice A' n' c')] 29));obtain⟨r0,r1,r2,r3,r4,r5,r6,r7⟩:=(Box8.new w3 t (.slice A' n' c')).cell;clear t3 b3)
           | (go_at_call 12;(with_reducible refine (HLEN.out _ _ _ _ _ HT3.out).mono ?_);rintro e w5 ⟨rfl,b5⟩;have HB5:=Zh (gro HB3.out b5);clear b5)
           | fail)
         go_roundg (Z-(k+1))
         case measure=>have:=HMK.out;omega
         case rel =>
           have e:rulesN L bs (k+1)=rulesN L bs k:=(by rw[rulesN,HSD.out,HRO.out,if_neg (by omega),List.append_nil]);exact⟨k+1,by go_num,by omega,rfl,by rw[e];exact HRA.out.stays HB5.out,by rw[e];exact HRB.out.stays HB5.out,gro HB.out HB5.out⟩
       . obtain⟨bk,hbk⟩:∃ bk,bs.getD k false=bk:=⟨_,rfl⟩;have e:rulesN L bs (k+1)=rulesN L bs k++[(t,bk)]:=(by rw[rulesN,HSD.out,HRO.out,if_pos ⟨HPL.out,by omega⟩,hbk]);have HE:=Zh e;have hbc:(¬ ((k:Int)<(M:Int))∧bk=false)∨((k:Int)<(M:Int)∧∃ g off,B=some ⟨g,off,none⟩∧∀ W,Below wr.heap.size wr W->W.cell? ⟨g,off+k,none⟩=some (.bool bk)):=by
           by_cases hkM:k<bs.length
           . obtain⟨g2,off2,e2,hg2,hc2⟩:=HBO.out k (bs[k]) (List.getElem?_eq_getElem hkM);have:bs[k]=bk:=by rw[←hbk,List.getD_eq_getElem?_getD,List.getElem?_eq_getElem hkM];rfl
             rw[this] at hc2;exact .inr ⟨by have:=HMM.out;omega,g2,off2,e2,fun W hW=>za2 (za2 hc2 HB.out) hW⟩
           . refine .inl ⟨by have:=HMM.out;omega,?_⟩;rw[←hbk,List.getD_eq_getElem?_getD,List.getElem?_eq_none (by omega)];rfl
         clear e hbk;rcases hbc with ⟨hkM,rfl⟩|⟨hkM,g2,off2,rfl,hc2⟩
         case' inr=>have HC2:=Zh hc2
         case' inr=>clear hc2
         all_goals
           go_wp2_with (first
             | (go_at_call 8;(with_reducible refine HPO.out.mono ?_);rintro e w3 ⟨A',n',c',rfl,t3,b3⟩;have HT3:=Zh (t3.alloc (.cells #[.int .i64 t.op,.int .u64 (word t.set 0),.int .u64 (word t.set 1),.int .u64 (word t.set 2),.int .u64 (word t.set 3),.int .i64 t.lo,.int .i64 t.hi,.slice A' n' c'] 29));have HB3:=Zh (b3.alloc b3.size (.cells #[.int .i64 t.op,.int .u64 (word t.set 0),.int .u64 (word t.set 1),.int .u64 (word t.set 2),.int .u64 (word t.set 3),.int .i64 t.lo,.int .i64 t.hi,.slice A' n' c'] 29));have HX3:=Zh (Box8.new w3 t (.slice A' n' c'));obtain⟨r0,r1,r2,r3,r4,r5,r6,r7⟩:=HX3.out.cell;clear t3 b3)
             | (go_at_call 12;(with_reducible refine (HLEN.out _ _ _ _ _ HT3.out).mono ?_);rintro e w5 ⟨rfl,b5⟩;have HB5:=Zh (gro HB3.out b5);have HX5:=Zh (HX3.out.stays b5);have HT5:=Zh (HT3.out.stays b5);clear r0 r1 r2 r3 r4 r5 r6 r7;obtain⟨r0,r1,r2,r3,r4,r5,r6,r7⟩:=HX5.out.cell;(try (have z0:=HC2.out w5 HB5.out));clear b5)
             | (at_builtin;refine zf1 ruleTyM (by rfl) _ _ (by rfl) (by rfl) ((HRA.out.stays HB5.out).stays ((Below.refl _ _).alloc (Nat.le_refl _) _)) (Nat.le_trans HB.out.size (Nat.le_trans HB5.out.size (by simp))) HLE.out (t,_) (.slice A' n' c') ((HT5.out.alloc _).weak fun b h1 _=>Nat.le_trans HB.out.size h1) ⟨w5.heap.size,0,none⟩ 1 (by rfl) (zll w5 (t,_) (.slice A' n' c')) ?_;intro v6 w6 i6 g6 o6;obtain⟨hb6,rb6,t6,x6⟩:=zgh (HRA.out.stays HB5.out) (HRB.out.stays HB5.out) (by decide) ruleTyM.node (gro HB.out HB5.out) (Nat.le_trans HB.out.size HB5.out.size) HT5.out HX5.out g6;have I6:=Zh i6;have HB6:=Zh hb6;have RB6:=Zh rb6;have HT6:=Zh t6;have HX6:=Zh x6;clear r0 r1 r2 r3 r4 r5 r6 r7;obtain⟨r0,r1,r2,r3,r4,r5,r6,r7⟩:=x6.cell;clear hb6 rb6 t6 x6 i6 g6 o6)
             | (at_builtin;refine zf1 ruleTyR (by rfl) _ _ (by rfl) (by rfl) (RB6.out.stays ((Below.refl _ _).alloc (Nat.le_refl _) _)) (Nat.le_trans HB6.out.size (by simp)) HLE.out (t,_) (.slice A' n' c') ((HT6.out.alloc _).weak fun b h1 _=>Nat.le_trans HB.out.size h1) ⟨w6.heap.size,0,none⟩ 1 (by rfl) (zll w6 (t,_) (.slice A' n' c')) ?_;intro v7 w7 i7 g7 o7;obtain⟨hb7,ra7,t7,x7⟩:=zgh RB6.out I6.out (by decide) ruleTyR.node HB6.out HB6.out.size HT6.out HX6.out g7;have I7:=Zh i7;have HB7:=Zh hb7;have RA7:=Zh ra7;clear hb7 ra7 t7 x7 i7 g7 o7)
             | fail)
         all_goals
           go_roundg (Z-(k+1))
           case measure=>have:=HMK.out;omega
           case rel=>exact⟨k+1,by go_num,by omega,rfl,by rw[HE.out];exact RA7.out,by rw[HE.out];exact I7.out,HB7.out⟩
     . have hpn:=zni (w:=wr) hss hpat;unfold nodeV at hpn;have HPN:=Zh hpn;have hro:∀ b,ruleOf s b=[]:=fun b=>by
         unfold ruleOf;split
         . rename_i t ht;rw[if_neg fun h=>hpat ⟨t,ht,h.1⟩]
         . rfl
       have HRO:=Zh hro;clear hpn hpat hro;go_wp2_with (first
         | (go_at_call 8;(with_reducible refine HPN.out.mono ?_);rintro e w3 ⟨rfl,b3⟩;have HB3:=Zh (b3.alloc b3.size (.cells #[.int .i64 T.zero.op,.int .u64 (word T.zero.set 0),.int .u64 (word T.zero.set 1),.int .u64 (word T.zero.set 2),.int .u64 (word T.zero.set 3),.int .i64 T.zero.lo,.int .i64 T.zero.hi,.slice none 0 0] 29));clear b3)
         | fail)
       go_roundg (Z-(k+1))
       case measure=>have:=HMK.out;omega
       case rel =>
         have e:rulesN L bs (k+1)=rulesN L bs k:=(by rw[rulesN,HSD.out,HRO.out,List.append_nil]);exact⟨k+1,by go_num,by omega,rfl,by rw[e];exact HRA.out.stays HB3.out,by rw[e];exact HRB.out.stays HB3.out,gro HB.out HB3.out⟩
   . have hkz:k=Z:=(by omega);subst hkz;have hend:¬ ((k:Int)<(N:Int))∨((k:Int)<(N:Int)∧¬ ((k:Int)<4)):=(by have:=HZ.out;omega);rcases hend with h1|⟨h1,h2⟩
     all_goals
       go_wp2;go_ret2;exact⟨Aa,ca',Ab,cb',by show Ending.returned (.tuple #[.slice Aa Q ca',.slice Ab Q cb'])=_;rw[HQ.out],by rw[HQ.out];exact hca,by rw[HQ.out];exact hcb,HRA.out.rd rfl,HRB.out.rd rfl,HB.out⟩
end
end Go.Proofs.YtgbdanddbgomhaaDoor
