import Derived.Test.YtipfgpfplakhiaaDoorTw39
import Derived.RangeFuncRecord
import Derived.Test.YtipfgpfplakhiaaDoorTw16
import Derived.Test.YtipfgpfplakhiaaDoorTw1
import Derived.Deep.Strs
import Derived.Deep.Grids
set_option linter.unusedVariables false
set_option linter.unusedSimpArgs false
set_option maxRecDepth 20000
set_option maxRecDepth 20000
set_option maxHeartbeats 4000000
namespace Go.Proofs.YtipfgpfplakhiaaDoor
open Go Go.RowKit
section
attribute [local go_sem ↓] Go.wp_at_zero Go.wp_at_succ
def zu7 (w:World) (s:ByteArray) (e:Ending) (w':World):Prop:=
 ∃ t k ok,e = .returned (.tuple #[zah t k,.int .i64 ok])∧Tree w' (fun b=>w.heap.size<=b) t k∧Below w.heap.size w w'∧
  ((ok=1∧parse s = .ok t∧WF t∧plN t<=60)∨(ok=0∧t=T.zero∧k = .slice none 0 0∧∀ t',parse s = .ok t'->¬ plN t'<=60))
theorem zkw (w:World) (s:ByteArray) (hs:s.size<=9223372036854775807):Calls Tryd.prog 16 #[.string s] w (zu7 w s):=by
 have HR:=Zh (fun w=>zyh w s hs);unfold zsi at HR;have b0:=Box8.new0 w;have hB0:Below w.heap.size w (w.alloc (.cells #[.int .i64 0,.int .u64 0,.int .u64 0,.int .u64 0,.int .u64 0,.int .i64 0,.int .i64 0,.slice none 0 0] 56)):=(yf6 _ _).alloc (yez _) _;have hw0:=b0.lt;cases hp:parse s with
 | error x =>
  obtain⟨cc,aa⟩:=x;simp only[hp] at HR;have HP:=Zh hp;clear hp;go_enter Tryd.func16,Tryd.ntmps16;go_wp2_with (go_at_call 33;(with_reducible refine (HR.o _).mono ?_);rintro e w3 ⟨t',k',bad,at_,rfl,ht',hb3,a1,a2,a3,a4,a5⟩;subst a1 a2 a3 a4;have a6:(bad != 0)=true:=(by simpa using a5);clear a5 ht';unfold zah;have b3:=b0.stays hb3;have hl3:=b3.lt;obtain⟨f0,f1,f2,f3,f4,f5,f6,f7⟩:=b3.frozen;obtain⟨r0,r1,r2,r3,r4,r5,r6,r7⟩:=b3.cell);have hB3:=gro1 (yf6 _ _) hb3;have bF:=(b3.put (t':=T.zero) (k' := .slice none 0 0) T.zero (.slice none 0 0)).alloc (.cells #[.int .i64 (T.zero).op,.int .u64 (word (T.zero).set 0),.int .u64 (word (T.zero).set 1),.int .u64 (word (T.zero).set 2),.int .u64 (word (T.zero).set 3),.int .i64 (T.zero).lo,.int .i64 (T.zero).hi,.slice none 0 0] 56);have hF:=(zej hB3 (yez w.heap.size) T.zero (.slice none 0 0)).alloc (by rw[zf6];omega) (.cells #[.int .i64 (T.zero).op,.int .u64 (word (T.zero).set 0),.int .u64 (word (T.zero).set 1),.int .u64 (word (T.zero).set 2),.int .u64 (word (T.zero).set 3),.int .i64 (T.zero).lo,.int .i64 (T.zero).hi,.slice none 0 0] 56);rw[←zm8] at bF hF;change bodyPost _ _ _ _ _ ((zo2 w3 w.heap.size).alloc (.cells #[.int .i64 (T.zero).op,.int .u64 (word (T.zero).set 0),.int .u64 (word (T.zero).set 1),.int .u64 (word (T.zero).set 2),.int .u64 (word (T.zero).set 3),.int .i64 (T.zero).lo,.int .i64 (T.zero).hi,.slice none 0 0] 56));generalize (zo2 w3 w.heap.size).alloc (.cells #[.int .i64 (T.zero).op,.int .u64 (word (T.zero).set 0),.int .u64 (word (T.zero).set 1),.int .u64 (word (T.zero).set 2),.int .u64 (word (T.zero).set 3),.int .i64 (T.zero).lo,.int .i64 (T.zero).hi,.slice none 0 0] 56)=wF at *;obtain⟨F0,F1,F2,F3,F4,F5,F6,F7⟩:=bF.cell;refine bodyPost_ret (v := .tuple #[zah T.zero (.slice none 0 0),.int .i64 0]) ?_ rfl ⟨T.zero,_,0,rfl,.nil _ rfl,hF,.inr ⟨rfl,rfl,rfl,fun t' e=>?_⟩⟩
  .simp[zah,results,Tryd.results16,go_sem,F0,F1,F2,F3,F4,F5,F6,F7]
  .rw[HP.o] at e;cases e
 | ok t =>
  simp only[hp] at HR;have hwf:=zlu hp;have HP:=Zh hp;have HWF:=Zh hwf;clear hp hwf
  by_cases hpl:plN t<=60
  .have HPL:Hid (∀ W k ok,Tree W ok t k->Calls Tryd.prog 34 #[zcu t k] W fun e w'=>∃ n:Nat,e = .returned (.int .i64 n)∧n<=60∧Below W.heap.size W w'):=fun W k ok ht=>(zr4 W HWF.o ht).mono fun e w' h=>⟨plN t,h.1,hpl,h.2⟩
   unfold zcu at HPL;have HPL2:=Zh hpl;clear hpl;go_enter Tryd.func16,Tryd.ntmps16;go_wp2_with (first
    | (go_at_call 33;(with_reducible refine (HR.o _).mono ?_);rintro e w3 ⟨t',k',bad,at_,rfl,ht',hb3,a1,a2,a3⟩;have a1':=a1.symm;subst a1' a2 a3;obtain⟨A,tn,tc,rfl⟩:=ht'.form;unfold zah;have ht3:=ht'.alloc (.cells #[.int .i64 (t).op,.int .u64 (word (t).set 0),.int .u64 (word (t).set 1),.int .u64 (word (t).set 2),.int .u64 (word (t).set 3),.int .i64 (t).lo,.int .i64 (t).hi,.slice A tn tc] 56);have hb3':=(gro1 (yf6 _ _) hb3).alloc (gro1 (yf6 _ _) hb3).size (.cells #[.int .i64 (t).op,.int .u64 (word (t).set 0),.int .u64 (word (t).set 1),.int .u64 (word (t).set 2),.int .u64 (word (t).set 3),.int .i64 (t).lo,.int .i64 (t).hi,.slice A tn tc] 56);have b3:=b0.stays hb3;have hl3:=b3.lt)
    | (go_at_call 34;(with_reducible refine (HPL.o _ _ _ ht3).mono ?_);rintro e w4 ⟨pn,rfl,hpn,hb4⟩;have ht4:=ht3.stays hb4;have b4:=(b3.alloc _).stays hb4;have x4:=(Box8.new w3 t (.slice A tn tc)).stays hb4;obtain⟨f0,f1,f2,f3,f4,f5,f6,f7⟩:=b4.frozen;obtain⟨r0,r1,r2,r3,r4,r5,r6,r7⟩:=b4.cell;obtain⟨x0,x1,x2,x3,x40,x5,x6,x7⟩:=x4.cell))
   have hB4:=gro hb3' hb4;have bF:=b4.put (t':=t) (k' := .slice A tn tc) t (.slice A tn tc);have tF:=((ht4.weak (ok':=fun b=>w.heap.size<=b∧b≠w.heap.size) fun b hb _=>by simp at hb;omega).put8 (g':=w.heap.size) (t':=t) (k' := .slice A tn tc) fun b hb=>hb.2).weak (ok':=fun b=>w.heap.size<=b) fun b hb _=>hb.1
   have hF:=zej hB4 (yez w.heap.size) t (.slice A tn tc);change bodyPost _ _ _ _ _ (put8 w4 w.heap.size t (.slice A tn tc));generalize put8 w4 w.heap.size t (.slice A tn tc)=wF at *;obtain⟨F0,F1,F2,F3,F4,F5,F6,F7⟩:=bF.cell;refine bodyPost_ret (v := .tuple #[zah t (.slice A tn tc),.int .i64 1]) ?_ rfl ⟨t,_,1,rfl,tF,hF,.inl ⟨rfl,HP.o,HWF.o,HPL2.o⟩⟩;simp[zah,results,Tryd.results16,go_sem,F0,F1,F2,F3,F4,F5,F6,F7]
  .have HPL:Hid (∀ W k ok,Tree W ok t k->Calls Tryd.prog 34 #[zcu t k] W fun e w'=>∃ n:Nat,e = .returned (.int .i64 n)∧60<n∧Below W.heap.size W w'):=fun W k ok ht=>(zr4 W HWF.o ht).mono fun e w' h=>⟨plN t,h.1,by omega,h.2⟩
   unfold zcu at HPL;have HPL2:=Zh hpl;clear hpl;go_enter Tryd.func16,Tryd.ntmps16;go_wp2_with (first
    | (go_at_call 33;(with_reducible refine (HR.o _).mono ?_);rintro e w3 ⟨t',k',bad,at_,rfl,ht',hb3,a1,a2,a3⟩;have a1':=a1.symm;subst a1' a2 a3;obtain⟨A,tn,tc,rfl⟩:=ht'.form;unfold zah;have ht3:=ht'.alloc (.cells #[.int .i64 (t).op,.int .u64 (word (t).set 0),.int .u64 (word (t).set 1),.int .u64 (word (t).set 2),.int .u64 (word (t).set 3),.int .i64 (t).lo,.int .i64 (t).hi,.slice A tn tc] 56);have hb3':=(gro1 (yf6 _ _) hb3).alloc (gro1 (yf6 _ _) hb3).size (.cells #[.int .i64 (t).op,.int .u64 (word (t).set 0),.int .u64 (word (t).set 1),.int .u64 (word (t).set 2),.int .u64 (word (t).set 3),.int .i64 (t).lo,.int .i64 (t).hi,.slice A tn tc] 56);have b3:=b0.stays hb3;have hl3:=b3.lt)
    | (go_at_call 34;(with_reducible refine (HPL.o _ _ _ ht3).mono ?_);rintro e w4 ⟨pn,rfl,hpn,hb4⟩;have ht4:=ht3.stays hb4;have b4:=(b3.alloc _).stays hb4;have x4:=(Box8.new w3 t (.slice A tn tc)).stays hb4;obtain⟨f0,f1,f2,f3,f4,f5,f6,f7⟩:=b4.frozen;obtain⟨r0,r1,r2,r3,r4,r5,r6,r7⟩:=b4.cell;obtain⟨x0,x1,x2,x3,x40,x5,x6,x7⟩:=x4.cell))
   have hB4:=gro hb3' hb4;have bF:=b4.put (t':=T.zero) (k' := .slice none 0 0) T.zero (.slice none 0 0);have hF:=zej hB4 (yez w.heap.size) T.zero (.slice none 0 0);rw[←zm8] at bF hF;change bodyPost _ _ _ _ _ (zo2 w4 w.heap.size);generalize zo2 w4 w.heap.size=wF at *;obtain⟨F0,F1,F2,F3,F4,F5,F6,F7⟩:=bF.cell;refine bodyPost_ret (v := .tuple #[zah T.zero (.slice none 0 0),.int .i64 0]) ?_ rfl ⟨T.zero,_,0,rfl,.nil _ rfl,hF,.inr ⟨rfl,rfl,rfl,fun t' e=>?_⟩⟩
   .simp[zah,results,Tryd.results16,go_sem,F0,F1,F2,F3,F4,F5,F6,F7]
   .rw[HP.o] at e;injection e with e
    rw[←e];exact HPL2.o
end
theorem zt3 {w:World} {s:ByteArray} {t:T} (hs:s.size<=9223372036854775807) (hp:parse s = .ok t) (hpl:plN t<=60):Calls Tryd.prog 16 #[.string s] w fun e w'=>∃ A n c,e = .returned (.tuple #[zah t (.slice A n c),.int .i64 1])∧Tree w' (fun b=>w.heap.size<=b) t (.slice A n c)∧Below w.heap.size w w':=by
 refine (zkw w s hs).mono fun e w' h=>?_
 obtain⟨t',k,ok,rfl,ht,hb,h⟩:=h;rcases h with ⟨rfl,h1,h2,h3⟩|⟨rfl,h1,h2,h3⟩
 .rw[hp] at h1;injection h1 with h1
  subst h1;obtain⟨A,n,c,rfl⟩:=ht.form;exact⟨A,n,c,rfl,ht,hb⟩
 .exact absurd hpl (h3 t hp)
theorem zt4 {w:World} {s:ByteArray} (hs:s.size<=9223372036854775807) (hp:¬ ∃ t,parse s = .ok t∧plN t<=60):Calls Tryd.prog 16 #[.string s] w fun e w'=>e = .returned (.tuple #[zah T.zero (.slice none 0 0),.int .i64 0])∧Below w.heap.size w w':=by
 refine (zkw w s hs).mono fun e w' h=>?_
 obtain⟨t',k,ok,rfl,ht,hb,h⟩:=h;rcases h with ⟨rfl,h1,h2,h3⟩|⟨rfl,rfl,rfl,h3⟩
 .exact absurd ⟨t',h1,h3⟩ hp
 .exact⟨rfl,hb⟩
section
attribute [local go_sem ↓] Go.wp_at_zero Go.wp_at_succ
def RdBo (w:World) (A:Option Addr) (L:List Bool):Prop:=∀ i x,L[i]?=some x->∃ b off,A=some ⟨b,off,none⟩∧b<w.heap.size∧w.cell? ⟨b,off+i,none⟩=some (.bool x)
theorem RdBo.stays {w w':World} {A:Option Addr} {L:List Bool} (h:RdBo w A L) (hb:Below w.heap.size w w'):RdBo w' A L:=fun i s e=>by
 obtain⟨b,off,h1,h2,h3⟩:=h i s e;exact⟨b,off,h1,yff h2 hb.size,za4 h3 hb⟩
def zi6 (s:ByteArray) (b:Bool):List (T×Bool):=match parse s with
 | .ok t=>if plN t<=60∧lenN true t<=32 then [(t,b)] else []
 | .error _=>[]
def zbn (L:List ByteArray) (bs:List Bool):Nat->List (T×Bool)
 | 0=>[]
 | k+1=>zbn L bs k++zi6 (L.getD k ⟨#[]⟩) (bs.getD k false)
theorem zt0 (s:ByteArray) (b:Bool):(zi6 s b).length<=1:=by
 unfold zi6;split
 .split <;> simp
 .simp
theorem zhr (L:List ByteArray) (bs:List Bool):∀ k,(zbn L bs k).length<=k
 | 0=>by simp[zbn]
 | k+1=>by
  have:=zhr L bs k;have:=zt0 (L.getD k ⟨#[]⟩) (bs.getD k false);simp only[zbn,yfd];omega
theorem znx (L:List ByteArray) (bs:List Bool):∀ k,∀ r∈zbn L bs k,WF r.1∧plN r.1<=60∧lenN true r.1<=32
 | 0=>fun r h=>by simp[zbn] at h
 | k+1=>fun r h=>by
  simp only[zbn,yfm] at h;rcases h with h|h
  .exact znx L bs k r h
  .unfold zi6 at h;split at h
   .rename_i t ht;split at h
    .rename_i hc;rw[yfn] at h;subst h;exact⟨zlu ht,hc.1,hc.2⟩
    .simp at h
   .simp at h
def zsh (w:World) (l:List (T×Bool)) (e:Ending) (w':World):Prop:=∃ A c A' c',e = .returned (.tuple #[.slice A l.length c,.slice A' l.length c'])∧l.length<=c∧l.length<=c'∧RdRules w' A l∧RdRules w' A' l∧Below w.heap.size w w'
theorem yb8 {w:World} {A B:Option Addr} {ca cb:Nat} {L:List ByteArray} {bs:List Bool} (hs:RdStr w A L) (hb:RdBo w B bs) (hL:L.length<=9223372036854775807) (hbs:bs.length<=9223372036854775807) (hsz:∀ s∈L,s.size<=9223372036854775807):
 Calls Tryd.prog 6 #[.slice A L.length ca,.slice B bs.length cb] w (zsh w (zbn L bs (min L.length 4))):=by
 have HS:=Zh hs;have HBO:=Zh hb;have HSZ:=Zh hsz;obtain⟨N,hN⟩:∃ N,L.length=N:=⟨_,rfl⟩;obtain⟨M,hM⟩:∃ M,bs.length=M:=⟨_,rfl⟩;have HNN:=Zh hN;have HMM:=Zh hM;rw[hN] at hL ⊢;rw[hM] at hbs ⊢;clear hs hb hsz hN hM;have hk4:min N 4<=N∧min N 4<=4:=yie;obtain⟨Z,hZ⟩:∃ Z,min N 4=Z:=⟨_,rfl⟩;have HZ:=Zh hZ;rw[hZ] at hk4 ⊢;clear hZ;go_enter Tryd.func6,Tryd.ntmps6;go_wp2;go_loopg [6,7,8] Z (fun m va vb i wr=>∃ k:Nat,i = .int .i64 (k:Int)∧k<=Z∧m=Z-k∧RuleRow 58 wr w.heap.size va (zbn L bs k)∧RuleRow 66 wr w.heap.size vb (zbn L bs k)∧Below w.heap.size w wr)
 case atStart=>exact⟨0,by first | rfl | trivial,yf8 _,by first | rfl | trivial,RuleRow.nil _ _ _,RuleRow.nil _ _ _,yf6 _ _⟩
 case round =>
  obtain⟨k,rfl,hk,hmk,ra,rb,hb⟩:=hrel;have hlk:=zhr L bs k;have HMK:=Zh hmk;have HRA:=Zh ra;have HRB:=Zh rb;have HB:=Zh hb;obtain⟨Aa,ca',hfa,hca⟩:=ra.form;obtain⟨Ab,cb',hfb,hcb⟩:=rb.form;have hlen100:(zbn L bs k).length<=100000:=yie;obtain⟨Q,hQ⟩:∃ Q,(zbn L bs k).length=Q:=⟨_,rfl⟩;rw[hQ] at hfa hfb hca hcb;subst hfa hfb;have HQ:=Zh hQ;have HLE:=Zh hlen100;clear hmk ra rb hb hlk hQ hlen100
  by_cases hkZ:k<Z
  .have hkN:k<L.length:=(by rw[HNN.o];omega);obtain⟨s,hse⟩:∃ s,L[k]?=some s:=⟨_,yey hkN⟩;have hsm:s∈L:=yfh hse;have hss:=HSZ.o s hsm;obtain⟨g,off,rfl,hg,hc0⟩:=HS.o k s hse;have x0:=za4 hc0 HB.o;have hsD:L.getD k ⟨#[]⟩=s:=(by rw[yf0,hse];rfl);have HSD:=Zh hsD;have hk1:(k:Int)<(N:Int):=yie;have hk0:(0:Int)<=(k:Int):=yie;have hk2:(k:Int)<4:=yie;clear hse hsm hc0 hsD
   by_cases hpat:∃ t,parse s = .ok t∧plN t<=60
   .obtain⟨t,hpt,hpl⟩:=hpat;have hwf:=zlu hpt;have hpo:=zt3 (w:=wr) hss hpt hpl;unfold zah at hpo;have HPO:=Zh hpo;have HWF:=Zh hwf;obtain⟨d,hd⟩:∃ d,lenN true t=d:=⟨_,rfl⟩;have hro:∀ b,zi6 s b=if plN t<=60∧d<=32 then [(t,b)] else []:=fun b=>by unfold zi6;rw[hpt,←hd]
    have HRO:=Zh hro;have HDD:=Zh hd;have HPL:=Zh hpl;have HLEN:=Zh (fun (W:World) (A':Option Addr) (n' c':Nat) (ok:Nat->Prop) (h:Tree W ok t (.slice A' n' c'))=>(zzf (k := .slice A' n' c') true W hwf h).mono fun e w' h=>(show _∧Below W.heap.size W w' from h));unfold zcu at HLEN;rw[hd] at HLEN;clear hpo hwf hpt hro hd hpl
    by_cases hd32:(32:Int)<(d:Int)
    .go_wp2_with (first
      | (go_at_call 16;(with_reducible refine HPO.o.mono ?_);rintro e w3 ⟨A',n',c',rfl,t3,b3⟩;have HT3:=Zh (t3.alloc (.cells #[.int .i64 t.op,.int .u64 (word t.set 0),.int .u64 (word t.set 1),.int .u64 (word t.set 2),.int .u64 (word t.set 3),.int .i64 t.lo,.int .i64 t.hi,(.slice A' n' c')] 56));have HB3:=Zh (b3.alloc b3.size (.cells #[.int .i64 t.op,.int .u64 (word t.set 0),.int .u64 (word t.set 1),.int .u64 (word t.set 2),.int .u64 (word t.set 3),.int .i64 t.lo,.int .i64 t.hi,(.slice A' n' c')] 56));obtain⟨r0,r1,r2,r3,r4,r5,r6,r7⟩:=(Box8.new w3 t (.slice A' n' c')).cell;clear t3 b3)
      | (go_at_call 17;(with_reducible refine (HLEN.o _ _ _ _ _ HT3.o).mono ?_);rintro e w5 ⟨rfl,b5⟩;have HB5:=Zh (gro HB3.o b5);clear b5)
      | fail)
     go_roundg (Z-(k+1))
     case measure=>have:=HMK.o;omega
     case rel =>
      have e:zbn L bs (k+1)=zbn L bs k:=(by rw[zbn,HSD.o,HRO.o,if_neg yie,ygm]);exact⟨k+1,by go_num,by omega,rfl,by rw[e];exact HRA.o.stays HB5.o,by rw[e];exact HRB.o.stays HB5.o,gro HB.o HB5.o⟩
    .obtain⟨bk,hbk⟩:∃ bk,bs.getD k false=bk:=⟨_,rfl⟩;have e:zbn L bs (k+1)=zbn L bs k++[(t,bk)]:=(by rw[zbn,HSD.o,HRO.o,if_pos ⟨HPL.o,by omega⟩,hbk]);have HE:=Zh e;have hbc:(¬ ((k:Int)<(M:Int))∧bk=false)∨((k:Int)<(M:Int)∧∃ g off,B=some ⟨g,off,none⟩∧∀ W,Below wr.heap.size wr W->W.cell? ⟨g,off+k,none⟩=some (.bool bk)):=by
      by_cases hkM:k<bs.length
      .obtain⟨g2,off2,e2,hg2,hc2⟩:=HBO.o k (bs[k]) (yey hkM);have:bs[k]=bk:=by rw[←hbk,yf0,yey hkM];rfl
       rw[this] at hc2;exact .inr ⟨by have:=HMM.o;omega,g2,off2,e2,fun W hW=>za4 (za4 hc2 HB.o) hW⟩
      .refine .inl ⟨by have:=HMM.o;omega,?_⟩;rw[←hbk,yf0,yfj yie];rfl
     clear e hbk;rcases hbc with ⟨hkM,rfl⟩|⟨hkM,g2,off2,rfl,hc2⟩
     case' inr=>have HC2:=Zh hc2
     case' inr=>clear hc2
     all_goals
      go_wp2_with (first
       | (go_at_call 16;(with_reducible refine HPO.o.mono ?_);rintro e w3 ⟨A',n',c',rfl,t3,b3⟩;have HT3:=Zh (t3.alloc (.cells #[.int .i64 t.op,.int .u64 (word t.set 0),.int .u64 (word t.set 1),.int .u64 (word t.set 2),.int .u64 (word t.set 3),.int .i64 t.lo,.int .i64 t.hi,.slice A' n' c'] 56));have HB3:=Zh (b3.alloc b3.size (.cells #[.int .i64 t.op,.int .u64 (word t.set 0),.int .u64 (word t.set 1),.int .u64 (word t.set 2),.int .u64 (word t.set 3),.int .i64 t.lo,.int .i64 t.hi,.slice A' n' c'] 56));have HX3:=Zh (Box8.new w3 t (.slice A' n' c'));obtain⟨r0,r1,r2,r3,r4,r5,r6,r7⟩:=HX3.o.cell;clear t3 b3)
       | (go_at_call 17;(with_reducible refine (HLEN.o _ _ _ _ _ HT3.o).mono ?_);rintro e w5 ⟨rfl,b5⟩;have HB5:=Zh (gro HB3.o b5);have HX5:=Zh (HX3.o.stays b5);have HT5:=Zh (HT3.o.stays b5);clear r0 r1 r2 r3 r4 r5 r6 r7;obtain⟨r0,r1,r2,r3,r4,r5,r6,r7⟩:=HX5.o.cell;(try (have z0:=HC2.o w5 HB5.o));clear b5)
       | (at_builtin;refine ziu ruleTyM yik _ _ yik yik ((HRA.o.stays HB5.o).stays ((yf6 _ _).alloc (yez _) _)) (yfa HB.o.size (yfa HB5.o.size yii)) HLE.o (t,_) (.slice A' n' c') ((HT5.o.alloc _).weak fun b h1 _=>yfa HB.o.size h1) ⟨w5.heap.size,0,none⟩ 1 yik (zr1 w5 (t,_) (.slice A' n' c')) ?_;intro v6 w6 i6 g6 o6;obtain⟨hb6,rb6,t6,x6⟩:=zkq (HRA.o.stays HB5.o) (HRB.o.stays HB5.o) yij ruleTyM.node (gro HB.o HB5.o) (yfa HB.o.size HB5.o.size) HT5.o HX5.o g6;have I6:=Zh i6;have HB6:=Zh hb6;have RB6:=Zh rb6;have HT6:=Zh t6;have HX6:=Zh x6;clear r0 r1 r2 r3 r4 r5 r6 r7;obtain⟨r0,r1,r2,r3,r4,r5,r6,r7⟩:=x6.cell;clear hb6 rb6 t6 x6 i6 g6 o6)
       | (at_builtin;refine ziu ruleTyR yik _ _ yik yik (RB6.o.stays ((yf6 _ _).alloc (yez _) _)) (yfa HB6.o.size yii) HLE.o (t,_) (.slice A' n' c') ((HT6.o.alloc _).weak fun b h1 _=>yfa HB.o.size h1) ⟨w6.heap.size,0,none⟩ 1 yik (zr1 w6 (t,_) (.slice A' n' c')) ?_;intro v7 w7 i7 g7 o7;obtain⟨hb7,ra7,t7,x7⟩:=zkq RB6.o I6.o yij ruleTyR.node HB6.o HB6.o.size HT6.o HX6.o g7;have I7:=Zh i7;have HB7:=Zh hb7;have RA7:=Zh ra7;clear hb7 ra7 t7 x7 i7 g7 o7)
       | fail)
     all_goals
      go_roundg (Z-(k+1))
      case measure=>have:=HMK.o;omega
      case rel=>exact⟨k+1,by go_num,by omega,rfl,by rw[HE.o];exact RA7.o,by rw[HE.o];exact I7.o,HB7.o⟩
   .have hpn:=zt4 (w:=wr) hss hpat;unfold zah at hpn;have HPN:=Zh hpn;have hro:∀ b,zi6 s b=[]:=fun b=>by
     unfold zi6;split
     .rename_i t ht;rw[if_neg fun h=>hpat ⟨t,ht,h.1⟩]
     .rfl
    have HRO:=Zh hro;clear hpn hpat hro;go_wp2_with (first
     | (go_at_call 16;(with_reducible refine HPN.o.mono ?_);rintro e w3 ⟨rfl,b3⟩;have HB3:=Zh (b3.alloc b3.size (.cells #[.int .i64 T.zero.op,.int .u64 (word T.zero.set 0),.int .u64 (word T.zero.set 1),.int .u64 (word T.zero.set 2),.int .u64 (word T.zero.set 3),.int .i64 T.zero.lo,.int .i64 T.zero.hi,.slice none 0 0] 56));clear b3)
     | fail)
    go_roundg (Z-(k+1))
    case measure=>have:=HMK.o;omega
    case rel =>
     have e:zbn L bs (k+1)=zbn L bs k:=(by rw[zbn,HSD.o,HRO.o,ygm]);exact⟨k+1,by go_num,by omega,rfl,by rw[e];exact HRA.o.stays HB3.o,by rw[e];exact HRB.o.stays HB3.o,gro HB.o HB3.o⟩
  .have hkz:k=Z:=yie;subst hkz;have hend:¬ ((k:Int)<(N:Int))∨((k:Int)<(N:Int)∧¬ ((k:Int)<4)):=(by have:=HZ.o;omega);rcases hend with h1|⟨h1,h2⟩
   all_goals
    go_wp2;go_ret2;exact⟨Aa,ca',Ab,cb',by show Ending.returned (.tuple #[.slice Aa Q ca',.slice Ab Q cb'])=_;rw[HQ.o],by rw[HQ.o];exact hca,by rw[HQ.o];exact hcb,HRA.o.rd rfl,HRB.o.rd rfl,HB.o⟩
end
section
attribute [local go_sem ↓] Go.wp_at_zero Go.wp_at_succ
attribute [local go_sem ↓] zgq
def yas (w:World) (ps:List Plc) (fs:List Nat) (lam:Nat) (e:Ending) (w':World):Prop:=∃ v v1 C,e = .returned (.agg #[v,v1,.int .i64 lam])∧C<=w'.heap.size∧PlcRow w' C v ps∧Ints w' C v1 (ns fs)∧Below w.heap.size w w'
structure Tog (w wr:World) (lam:Nat) (v v1:Value) (ps:List Plc) (fs:List Nat):Prop where
 box:HasO wr (w.heap.size+1) (.cells #[v,v1,.int .i64 lam] 77 (0,0))
 res:HasO wr w.heap.size (.cells #[.slice none 0 0,.slice none 0 0,.int .i64 0] 77 (0,0))
 plc:PlcRow wr (w.heap.size+2) v ps
 fst:Ints wr (w.heap.size+2) v1 (ns fs)
 bel:Below w.heap.size w wr
section
variable {w wr wi:World} {lam:Nat} {v v1:Value} {ps:List Plc} {fs:List Nat}
theorem Tog.size (h:Tog w wr lam v v1 ps fs):w.heap.size+2<=wr.heap.size:=za0 h.box
theorem Tog.stays (h:Tog w wr lam v v1 ps fs) (hb:Below wr.heap.size wr wi):Tog w wi lam v v1 ps fs:=
 ⟨zbj h.box hb,zbj h.res hb,h.plc.stays h.size hb,h.fst.stays hb,h.bel.trans (hb.mono h.bel.size)⟩
theorem Tog.alloc (h:Tog w wr lam v v1 ps fs) (o:Obj):Tog w (wr.alloc o) lam v v1 ps fs:=h.stays ((yf6 _ _).alloc (yez _) _)
theorem Tog.drew (h:Tog w wr lam v v1 ps fs):Tog w wr.drew lam v v1 ps fs:=h.stays (yf6 _ _).drew
theorem Tog.new (w:World) (lam:Nat):Tog w ((w.alloc (.cells #[.slice none 0 0,.slice none 0 0,.int .i64 0] 77)).alloc (.cells #[.slice none 0 0,.slice none 0 0,.int .i64 lam] 77)) lam (.slice none 0 0) (.slice none 0 0) [] []:=by
 refine⟨zav _ _ _ _ yii,zbq _ (zav _ _ _ _ rfl),PlcRow.nil _ _,Ints.nil _ _,((yf6 _ _).alloc (yez _) _).alloc yii _⟩
theorem Tog.grewP {v':Value} {ps':List Plc} (h:Tog w wr lam v v1 ps fs) (hg:wr.grownBy wi v.ownBlock) (hp:PlcRow wi (w.heap.size+2) v' ps'):Tog w (wi.setCell ⟨w.heap.size+1,0,none⟩ v') lam v' v1 ps' fs:=by
 have hin:=fun b e=>(h.plc.in (b:=b) e)
 have hb1:some (w.heap.size+1)≠v.ownBlock:=fun e=>by have:=hin _ e.symm;omega
 have hb0:some w.heap.size≠v.ownBlock:=fun e=>by have:=hin _ e.symm;omega
 have hsz:=yfa h.size hg.size;have hbx:=zbp hg h.box hb1;have hr:=zbp hg h.res hb0;have hbel:Below w.heap.size w wi:=h.bel.grown hg h.bel.size fun k e=>by have:=hin k e;omega
 have hfi:Ints wi (w.heap.size+2) v1 (ns fs):=h.fst.block fun b e _=>hg.block b (h.fst.in e).2 fun e'=>by
  obtain⟨c1,k1⟩:=h.fst.kind e;obtain⟨c2,k2⟩:=h.plc.kind e'.symm;exact za1 k1 k2 yij rfl
 refine⟨?_,zbf _ hr (by intro e;have e':w.heap.size=w.heap.size+1:=e;omega),hp.cellSet (a:=⟨w.heap.size+1,0,none⟩) hsz (by show w.heap.size+1<w.heap.size+2;omega) ⟨#[v,v1,.int .i64 lam],77,hbx,by decide⟩ _,hfi.block fun b e _=>yf9 _ _ _ _ (by intro e';have:=(hfi.in e).1;have e2:b=w.heap.size+1:=e';omega),hbel.setCell yii _⟩;unfold HasO at hbx ⊢;rw[heap_setCell_same wi (w.heap.size+1) 0 _ _ v' hbx];rfl
theorem zpq {a b c:Value} (hp:PlcRow wr (w.heap.size+2) v ps) (hf:Ints wr (w.heap.size+2) v1 (ns fs)) (hb:Below w.heap.size w wr) (hs:w.heap.size+2<=wr.heap.size) (hr:HasO wr w.heap.size (.cells #[a,b,c] 77 (0,0))) (o:Nat) (u:Value):
 PlcRow (wr.setCell ⟨w.heap.size,o,none⟩ u) (w.heap.size+2) v ps∧Ints (wr.setCell ⟨w.heap.size,o,none⟩ u) (w.heap.size+2) v1 (ns fs)∧Below w.heap.size w (wr.setCell ⟨w.heap.size,o,none⟩ u)∧w.heap.size+2<=(wr.setCell ⟨w.heap.size,o,none⟩ u).heap.size:=
 ⟨hp.cellSet (a:=⟨w.heap.size,o,none⟩) hs (by show w.heap.size<w.heap.size+2;omega) ⟨#[a,b,c],77,hr,by decide⟩ _,hf.block fun b e _=>yf9 _ _ _ _ (by intro e';have:=(hf.in e).1;have e2:b=w.heap.size:=e';omega),hb.setCell yii _,by simp[World.setCell];omega⟩
theorem Tog.fin (h:Tog w wr lam v v1 ps fs):HasO (((wr.setCell ⟨w.heap.size,0,none⟩ v).setCell ⟨w.heap.size,1,none⟩ v1).setCell ⟨w.heap.size,2,none⟩ (.int .i64 lam)) w.heap.size (.cells #[v,v1,.int .i64 lam] 77 (0,0))∧
 PlcRow (((wr.setCell ⟨w.heap.size,0,none⟩ v).setCell ⟨w.heap.size,1,none⟩ v1).setCell ⟨w.heap.size,2,none⟩ (.int .i64 lam)) (w.heap.size+2) v ps∧Ints (((wr.setCell ⟨w.heap.size,0,none⟩ v).setCell ⟨w.heap.size,1,none⟩ v1).setCell ⟨w.heap.size,2,none⟩ (.int .i64 lam)) (w.heap.size+2) v1 (ns fs)∧
 Below w.heap.size w (((wr.setCell ⟨w.heap.size,0,none⟩ v).setCell ⟨w.heap.size,1,none⟩ v1).setCell ⟨w.heap.size,2,none⟩ (.int .i64 lam))∧w.heap.size+2<=(((wr.setCell ⟨w.heap.size,0,none⟩ v).setCell ⟨w.heap.size,1,none⟩ v1).setCell ⟨w.heap.size,2,none⟩ (.int .i64 lam)).heap.size:=by
 have r0:=h.res;unfold HasO at r0;have r1:=heap_setCell_same wr w.heap.size 0 _ _ v r0;have r2:=heap_setCell_same _ w.heap.size 1 _ _ v1 r1;have r3:=heap_setCell_same _ w.heap.size 2 _ _ (.int .i64 lam) r2;obtain⟨a1,a2,a3,a4⟩:=zpq (a := .slice none 0 0) (b := .slice none 0 0) (c := .int .i64 0) h.plc h.fst h.bel h.size r0 0 v;obtain⟨b1,b2,b3,b4⟩:=zpq (a:=v) (b := .slice none 0 0) (c := .int .i64 0) a1 a2 a3 a4 r1 1 v1;obtain⟨c1,c2,c3,c4⟩:=zpq (a:=v) (b:=v1) (c := .int .i64 0) b1 b2 b3 b4 r2 2 (.int .i64 lam);exact⟨r3,c1,c2,c3,c4⟩
end
section
variable {w:World} {g x:Nat} {v1 v2 e:Value}
theorem zz9 (h:HasO w g (.cells #[v1,v2,e] 77 (0,0))):(loadVar 77 ⟨g,0,none⟩).run Tryd.prog w = .ok (.agg #[v1,v2,e]) w:=by
 have c0:w.cell? ⟨g,0,none⟩=some v1:=cell_of_row w g 0 _ _ (0,0) h;have c1:w.cell? ⟨g,1,none⟩=some v2:=cell_of_row w g 1 _ _ (0,0) h;have c2:w.cell? ⟨g,2,none⟩=some e:=cell_of_row w g 2 _ _ (0,0) h;have h1:(loadCells ⟨g,0,none⟩ 3).run Tryd.prog w = .ok #[v1,v2,e] w:=run_loadCells w ⟨g,0,none⟩ 3 (fun j=>if j=0 then v1 else if j=1 then v2 else e) (fun j hj=>by
  rw[Addr.add_lit,yg5]
  match j,hj with
  | 0,_=>exact c0
  | 1,_=>exact c1
  | 2,_=>exact c2)
 have h2:(isAgg 77).run Tryd.prog w = .ok true w:=yih;have h3:(sizeOf 77).run Tryd.prog w = .ok 3 w:=yih;simp[loadVar,Sem.run_bind,h1,h2,h3]
theorem yb9 {fn:Func} {R:Ending->World->Prop} {a:Act} (hr:fn.results=#[.cell x 77]) (hx:a.tmps.getD x undef = .pointer (some ⟨g,0,none⟩)) (hd:a.defers=[]) (h:HasO w g (.cells #[v1,v2,e] 77 (0,0)))
 (hR:R (.returned (.agg #[v1,v2,e])) w):bodyPost Tryd.prog fn R .ret a w:=by
 refine bodyPost_ret ?_ hd hR;have e0:(#[ResultVar.cell x 77]:Array ResultVar)=[ResultVar.cell x 77].toArray:=rfl;rw[ygj] at hx;unfold results;rw[hr,e0];simp[Sem.run_bind,hx,zz9 h,asAddr]
end
theorem Tog.grewF {w wr wi:World} {lam:Nat} {v v1:Value} {ps:List Plc} {fs fs':List Nat} {v':Value} (h:Tog w wr lam v v1 ps fs) (hg:wr.grownBy wi v1.ownBlock) (hp:Ints wi (w.heap.size+2) v' (ns fs')):Tog w (wi.setCell ⟨w.heap.size+1,1,none⟩ v') lam v v' ps fs':=by
 have hin:=fun b e=>(h.fst.in (b:=b) e)
 have hb1:some (w.heap.size+1)≠v1.ownBlock:=fun e=>by have:=hin _ e.symm;omega
 have hb0:some w.heap.size≠v1.ownBlock:=fun e=>by have:=hin _ e.symm;omega
 have hsz:=yfa h.size hg.size;have hbx:=zbp hg h.box hb1;have hr:=zbp hg h.res hb0;have hbC:Below (w.heap.size+2) wr wi:=(yf6 _ _).grown hg h.size fun k e=>(hin k e).1
 have hbel:Below w.heap.size w wi:=h.bel.grown hg h.bel.size fun k e=>by have:=hin k e;omega
 have hpl:PlcRow wi (w.heap.size+2) v ps:=h.plc.block h.size hbC fun b e=>hg.block b (h.plc.in e).2 fun e'=>by
  obtain⟨c1,k1⟩:=h.plc.kind e;obtain⟨c2,k2⟩:=h.fst.kind e'.symm;exact za1 k1 k2 yij rfl
 refine⟨?_,zbf _ hr (by intro e;have e':w.heap.size=w.heap.size+1:=e;omega),hpl.cellSet (a:=⟨w.heap.size+1,1,none⟩) hsz (by show w.heap.size+1<w.heap.size+2;omega) ⟨#[v,v1,.int .i64 lam],77,hbx,by decide⟩ _,hp.block fun b e _=>yf9 _ _ _ _ (by intro e';have:=(hp.in e).1;have e2:b=w.heap.size+1:=e';omega),hbel.setCell yii _⟩;unfold HasO at hbx ⊢;rw[heap_setCell_same wi (w.heap.size+1) 1 _ _ v' hbx];rfl
theorem zwm (w:World) (x:Int):Ints (w.alloc (.cells #[.int .i64 x] 3)) 0 (.slice (some ⟨w.heap.size,0,none⟩) 1 1) [x]:=
 yhz w #[.int .i64 x] 1 (yf8 _) yij rfl
theorem zy9 {w w':World} {ops:Array Oper} {o:Oper} {a:Act} {K:Act->World->Prop} {Q:Exit->Act->World->Prop} {E:Prop} {v u v':Value} {t:TypeId} (hgd:o.guard=none) (s x:Operand) (ho:o.op = .call {callee := .builtin .append,args:=#[s,x],argTypes:=#[t,t]})
 (hs:a.eval s=v) (hx:a.eval x=u) (ty:TypeId) (hty:o.type=ty) (hr:(Builtin.append_ #[t,t] ty #[v,u]).run Tryd.prog w = .ok v' w') (hk:K (a.put o.dst v') w'):if Region.wanted o (yielded ops a.tmps)=true then Oper.wp Tryd.prog o a w K Q else E:=by
 have hw:Region.wanted o (yielded ops a.tmps)=true:=(by simp[Region.wanted,hgd]);rw[if_pos hw];subst hty;unfold Oper.wp;simp[execOp,ho,resolve,invoke,builtin,hs,hx,hr,Result.andThen];exact hk
theorem zsp {w:World} {A B:Option Addr} {ca cb lam:Nat} {L:List (Lay×Str)} {bs:List Bool} (h:RdNfas w w.heap.size A L) (hb:RdBo w B bs) (hl:bs.length=L.length) (hL:L.length<=64) (hP:∀ s x,(s,x)∈L->s.sets.length<=256) (hF:∀ s x,(s,x)∈L->x.first.length<=256) (hI:∀ s x,(s,x)∈L->∀ p∈x.first,p<s.sets.length):
 Calls Tryd.prog 19 #[.slice A L.length ca,.slice B bs.length cb,.int .i64 lam] w (yas w (togP L bs L.length) (togF L bs L.length) lam):=by
 have HR:=Zh h;have HBO:=Zh hb;have hlen:=zij L bs 256 hP;have hlenF:=zly L bs 256 hF;have HLP:=Zh hlen;have HLF:=Zh hlenF;have HP:=Zh hP;have HF:=Zh hF;have HI:=Zh hI;obtain⟨N,hN⟩:∃ N,L.length=N:=⟨_,rfl⟩;rw[hl];rw[hN] at hL ⊢;have HN:=Zh hN;have HBL:=Zh hl;clear h hb hl hP hF hI hN hlen hlenF;go_enter Tryd.func19,Tryd.ntmps19;go_wp2;go_loopg [19] N (fun m i wr=>∃ (k:Nat) (v v1:Value),i = .int .i64 (k:Int)∧k<=N∧m=N-k∧Tog w wr lam v v1 (togP L bs k) (togF L bs k))
 case atStart=>exact⟨0,_,_,by first | rfl | trivial,yf8 _,by first | rfl | trivial,Tog.new w lam⟩
 case round =>
  obtain⟨k,v,v1,rfl,hk,hmk,ht⟩:=hrel;generalize wr=wo at *;have HMK:=Zh hmk;have HT:=Zh ht;obtain⟨Ap,cp,hfp,hcp⟩:=ht.plc.form;obtain⟨Af,cf,hff⟩:=ht.fst.form;obtain⟨Q,hQ⟩:∃ Q,(togP L bs k).length=Q:=⟨_,rfl⟩;rw[hQ] at hfp hcp;have HQ:=Zh hQ;obtain⟨FL,hFL⟩:∃ FL,(ns (togF L bs k)).length=FL:=⟨_,rfl⟩;rw[hFL] at hff;have HFL:=Zh hFL;subst hfp hff;have b0:=cell_of_row wo (w.heap.size+1) 0 _ _ (0,0) ht.box;have b1:=cell_of_row wo (w.heap.size+1) 1 _ _ (0,0) ht.box;have b2:=cell_of_row wo (w.heap.size+1) 2 _ _ (0,0) ht.box;have hsz:=ht.size;clear hmk ht hQ hFL
  by_cases hkN:k<N
  .have hkL:k<L.length:=(by rw[HN.o];exact hkN);obtain⟨s,x,hsx⟩:∃ s x,L[k]?=some (s,x):=⟨L[k].1,L[k].2,yey hkL⟩;obtain⟨g,off,A1,m1,c1,A2,m2,c2,gm,A3,m3,c3,rfl,hg,hcs,rfl,rfl,rfl,hn⟩:=HR.o k s x hsx;have hcs:=fun q u hu=>(HT.o.bel.cell (p:=⟨g,off+k*5+q,none⟩) hg).trans (hcs q u hu)
   obtain⟨P,hP⟩:∃ P,s.sets.length=P:=⟨_,rfl⟩;obtain⟨F,hF⟩:∃ F,x.first.length=F:=⟨_,rfl⟩
   obtain⟨ex,hex⟩:∃ F,x.empty=F:=⟨_,rfl⟩;rw[hP,hF,hex] at hcs;rw[hP,hF] at hn;have HNI:=Zh hn;have HPP:=Zh hP;have HFF:=Zh hF;have HSX:=Zh hsx;have n0:=hcs 0 _ rfl;have n1:=hcs 1 _ rfl;have n2:=hcs 2 _ rfl;have n3:=hcs 3 _ rfl;have n4:=hcs 4 _ rfl;rw[yh1] at n0;have hP256:P<=256:=(by rw[←hP];exact HP.o s x (yfh hsx));have hF256:F<=256:=(by rw[←hF];exact HF.o s x (yfh hsx));have k0:(0:Int)<=(k:Int):=yie;have k1:(k:Int)<(N:Int):=yie;clear hn hP hF hsx hcs hex;go_upto_region 5 with fail
   generalize hw1:wo.alloc (.cells #[.slice A1 P c1,.slice A2 F c2,.slice (some ⟨gm,0,none⟩) P P,.slice A3 P c3,.bool ex] 73)=w1 at *;have ht1:Tog w w1 lam (.slice Ap Q cp) (.slice Af FL cf) (togP L bs k) (togF L bs k):=(by rw[←hw1];exact HT.o.alloc _);have hx1:HasO w1 wo.heap.size (.cells #[.slice A1 P c1,.slice A2 F c2,.slice (some ⟨gm,0,none⟩) P P,.slice A3 P c3,.bool ex] 73 (0,0)):=(by rw[←hw1];exact zav _ _ _ _ rfl);have HT1:=Zh ht1;have HX1:=Zh hx1;have r0:=cell_of_row w1 (w.heap.size+1) 0 _ _ (0,0) ht1.box;have a0:=cell_of_row w1 wo.heap.size 0 _ _ (0,0) hx1;have a1:=cell_of_row w1 wo.heap.size 1 _ _ (0,0) hx1;have a3:=cell_of_row w1 wo.heap.size 3 _ _ (0,0) hx1;clear b0 b1 b2 n0 n1 n2 n3 n4 ht1 hx1 hw1;go_wp2;go_loopg [30] P (fun m i wi=>∃ (q:Nat) (v:Value),i = .int .i64 (q:Int)∧q<=P∧m=P-q∧Tog w wi lam v (.slice Af FL cf) (togP L bs k++zby s x Q (bs.getD k false) q) (togF L bs k)∧HasO wi wo.heap.size (.cells #[.slice A1 P c1,.slice A2 F c2,.slice (some ⟨gm,0,none⟩) P P,.slice A3 P c3,.bool ex] 73 (0,0)))
   case atStart=>exact⟨0,_,by first | rfl | trivial,yf8 _,by first | rfl | trivial,by rw[zby,ygm];exact HT1.o,HX1.o⟩
   case round =>
    obtain⟨q,v,rfl,hq,hmq,htq,hxq⟩:=hrel;generalize wr=wi at *;have HMQ:=Zh hmq;have HTQ:=Zh htq;have HXQ:=Zh hxq;obtain⟨Av,cv,hfv,hcv⟩:=htq.plc.form;rw[yfd,zb7,HQ.o] at hfv hcv;subst hfv;clear hmq htq hxq
    by_cases hqP:q<P
    .have hq0:(0:Int)<=(q:Int):=yie;have hq1:(q:Int)<(P:Int):=yie;have hqs:q<s.sets.length:=(by rw[HPP.o];exact hqP);have hni:=HNI.o.below HTQ.o.bel;have hbe:=HTQ.o.bel.size;obtain⟨g1,c1',e1,hg1,hs4⟩:=hni.sets q hqs;obtain⟨g3,c3',v3,e3,hg3,hc3,hi3,hv3⟩:=hni.fols q hqs;have hlq:=hni.last q hqs;have hgm:=hni.lastB;rw[HPP.o] at e1 e3;simp only[Value.slice.injEq] at e1 e3;obtain⟨rfl,-,rfl⟩:=e1;obtain⟨rfl,-,rfl⟩:=e3;obtain⟨A4,c4,hf3⟩:=hi3.form;obtain⟨N4,hN4⟩:∃ n,(ns (s.follow.getD q [])).length=n:=⟨_,rfl⟩;rw[hN4] at hf3;subst hf3;obtain⟨S,hS⟩:∃ P,s.sets.getD q za9=P:=⟨_,rfl⟩;rw[hS] at hs4;obtain⟨lq,hlq'⟩:∃ b,x.last.contains q=b:=⟨_,rfl⟩;rw[hlq'] at hlq;have s0:=hs4 0 yie;have s1:=hs4 1 yie;have s2:=hs4 2 yie;have s3:=hs4 3 yie;rw[yh1] at s0;obtain⟨gb,offb,rfl,hgb,hcb⟩:=HBO.o k (bs.getD k false) (by rw[yf0,yey (by rw[HBL.o];exact hkL)];rfl);have hcb:=(HTQ.o.bel.cell (p:=⟨gb,offb+k,none⟩) hgb).trans hcb;obtain⟨lu,hlu⟩:∃ b,bs.getD k false=b:=⟨_,rfl⟩;rw[hlu] at hcb;have HI3:=Zh hi3;have HV3:=Zh hv3;have HS:=Zh hS;have HLQ:=Zh hlq';have HLU:=Zh hlu;have HN4:=Zh hN4;have p0:=cell_of_row wi (w.heap.size+1) 0 _ _ (0,0) HTQ.o.box;have p2:=cell_of_row wi wo.heap.size 2 _ _ (0,0) HXQ.o;have p3:=cell_of_row wi wo.heap.size 3 _ _ (0,0) HXQ.o;clear hi3 hv3 hS hlq' hlu hN4 hs4 hni;have hwos:=HXQ.o;have hwol:wo.heap.size<wi.heap.size:=za0 hwos;go_upto_region 9 with fail
     generalize hw2:wi.alloc (.cells #[.int .u64 (word S 0),.int .u64 (word S 1),.int .u64 (word S 2),.int .u64 (word S 3)] 53)=w2 at *;have hx2:HasO w2 wi.heap.size (.cells #[.int .u64 (word S 0),.int .u64 (word S 1),.int .u64 (word S 2),.int .u64 (word S 3)] 53 (0,0)):=(by rw[←hw2];exact zav _ _ _ _ rfl);have hb2:Below wi.heap.size wi w2:=(by rw[←hw2];exact (yf6 _ _).alloc (yez _) _);have ht2:=HTQ.o.stays hb2;have hs2:w2.heap.size=wi.heap.size+1:=(by rw[←hw2];simp);have z0:w2.cell? ⟨wi.heap.size,0,none⟩=some (.int .u64 (word S 0)):=cell_of_row w2 wi.heap.size 0 _ _ (0,0) hx2;have z1:w2.cell? ⟨wi.heap.size,1,none⟩=some (.int .u64 (word S 1)):=cell_of_row w2 wi.heap.size 1 _ _ (0,0) hx2;have z2:w2.cell? ⟨wi.heap.size,2,none⟩=some (.int .u64 (word S 2)):=cell_of_row w2 wi.heap.size 2 _ _ (0,0) hx2;have z3:w2.cell? ⟨wi.heap.size,3,none⟩=some (.int .u64 (word S 3)):=cell_of_row w2 wi.heap.size 3 _ _ (0,0) hx2;have p0':w2.cell? ⟨w.heap.size+1,0,none⟩=some (.slice Av (Q+q) cv):=za4 p0 hb2;have p2':w2.cell? ⟨wo.heap.size,2,none⟩=some (.slice (some ⟨gm,0,none⟩) P P):=za4 p2 hb2;have p3':w2.cell? ⟨wo.heap.size,3,none⟩=some (.slice (some ⟨g3,0,none⟩) P c3):=za4 p3 hb2;have hc3':=za4 hc3 hb2;have hlq':=za4 hlq hb2;have hcb':=za4 hcb hb2;have hsz2:=HTQ.o.size;have n1:wi.heap.size≠w.heap.size+1:=yie;have n2:wo.heap.size≠w.heap.size+1:=yie;have n3:g3≠w.heap.size+1:=yie;have n4:gm≠w.heap.size+1:=yie;have n5:gb≠w.heap.size+1:=yie;have htd:=ht2.alloc (.cells #[.int .u64 (word S 0),.int .u64 (word S 1),.int .u64 (word S 2),.int .u64 (word S 3),.slice A4 N4 c4,.int .i64 (Q:Int),.bool lq,.bool lu] 117);have hal:=htd.drew;have hus:Ints w2 0 (.slice A4 N4 c4) (ns (s.follow.getD q [])):=HI3.o.stays hb2;have hlen2:(togP L bs k++zby s x Q (bs.getD k false) q).length<=100000:=by
      rw[yfd,zb7];have h1:=HLP.o k yie;have h2:=HP.o s x (yfh HSX.o);have h3:=HPP.o;have h4:=HN.o;have:k*256<=64*256:=yg4 _ yie;omega
     obtain⟨v6,w6,hr6,h6,g6,o6⟩:=zyo hal.plc (by have:=hal.size;omega) hlen2 ⟨S,s.follow.getD q [],Q,lq,lu⟩ (.slice A4 N4 c4) (show Ints (w2.alloc (.cells #[.int .u64 (word S 0),.int .u64 (word S 1),.int .u64 (word S 2),.int .u64 (word S 3),.slice A4 N4 c4,.int .i64 (Q:Int),.bool lq,.bool lu] 117)).drew 0 _ _ from Ints.alloc hus _) (fun b e=>by have:=HV3.o b e;omega) 75 ⟨w2.heap.size,0,none⟩ 1 (fun j u hu=>by
      rw[Addr.add_lit,yg5];refine (cell_of_row _ w2.heap.size j _ 117 (0,0) (heap_alloc_new w2 _)).trans ?_
      simpa [plcC] using hu)
     obtain⟨a1,a2,a3⟩:=zic hr6;obtain⟨A6,c6,hf6,hc6⟩:=h6.form;have hl6:(togP L bs k++zby s x Q (bs.getD k false) q++[(⟨S,s.follow.getD q [],Q,lq,lu⟩:Plc)]).length=Q+q+1:=(by rw[yfd,yfd,zb7,HQ.o];rfl);rw[hl6] at hf6;subst hf6;have hin2:=fun b e=>(ht2.plc.in (b:=b) e)
     have hkind:=fun b e=>(ht2.plc.kind (b:=b) e)
     have m0:some wi.heap.size≠(Value.slice Av (Q+q) cv).ownBlock:=fun e=>by
      obtain⟨c2,k2⟩:=hkind _ e.symm;exact za1 k2 hx2 yij rfl
     have m1:some wo.heap.size≠(Value.slice Av (Q+q) cv).ownBlock:=fun e=>by
      obtain⟨c2,k2⟩:=hkind _ e.symm;exact za1 k2 (zbj hwos hb2) yij rfl
     have m2:∀ b,b<w.heap.size+2->some b≠(Value.slice Av (Q+q) cv).ownBlock:=fun b hb e=>by have:=(hin2 _ e.symm).1;omega
     have keep6:∀ b o u,b<w2.heap.size->some b≠(Value.slice Av (Q+q) cv).ownBlock->w2.cell? ⟨b,o,none⟩=some u->w6.cell? ⟨b,o,none⟩=some u:=fun b o u hl hne h =>
      (yfp (g6.block b (by rw[World.size_drew,yfe];exact Nat.lt_succ_of_lt hl) hne)).trans (zb4 (zcr h _))
     have y0:=keep6 _ _ _ yie m0 z0;have y1:=keep6 _ _ _ yie m0 z1;have y2:=keep6 _ _ _ yie m0 z2;have y3:=keep6 _ _ _ yie m0 z3;have y4:=keep6 _ _ _ yie (m2 _ yie) p0';have y5:=keep6 _ _ _ yie m1 p2';have y6:=keep6 _ _ _ yie m1 p3';have y7:=keep6 _ _ _ yie (m2 _ yie) hc3';have y8:=keep6 _ _ _ yie (m2 _ yie) hlq';have y9:=keep6 _ _ _ yie (m2 _ yie) hcb';have hbx6:=zbp g6 hal.box (m2 _ yie);have hxo6:HasO w6 wo.heap.size _:=zbp g6 (zcg (zbq (.cells #[.int .u64 (word S 0),.int .u64 (word S 1),.int .u64 (word S 2),.int .u64 (word S 3),.slice A4 N4 c4,.int .i64 (Q:Int),.bool lq,.bool lu] 117) (zbj hwos hb2))) m1;have f6:=frozen_of_row w6 (w.heap.size+1) 0 _ _ hbx6;have H6:=Zh h6;have G6:=Zh g6;have HAL:=Zh hal;have HXO6:=Zh hxo6;have p0d:=zb4 (zcr p0' (.cells #[.int .u64 (word S 0),.int .u64 (word S 1),.int .u64 (word S 2),.int .u64 (word S 3),.slice A4 N4 c4,.int .i64 (Q:Int),.bool lq,.bool lu] 117));have HS2:=Zh hs2;clear hs2;clear h6 g6 hal hbx6 hxo6 keep6 hin2 hkind hus hlen2 o6 hl6 htd hx2 ht2 hw2 hb2 p0 p2 p3 hc3 hlq hcb hc6;have hmx:Tryd.prog.follows .mixedOrders=true:=yih;have hS0:(fun W:World=>W.cell? ⟨wi.heap.size,0,none⟩=some (.int .u64 (word S 0))∧W.cell? ⟨wi.heap.size,1,none⟩=some (.int .u64 (word S 1))∧W.cell? ⟨wi.heap.size,2,none⟩=some (.int .u64 (word S 2))∧W.cell? ⟨wi.heap.size,3,none⟩=some (.int .u64 (word S 3))∧W.cell? ⟨wo.heap.size,2,none⟩=some (.slice (some ⟨gm,0,none⟩) P P)∧W.cell? ⟨wo.heap.size,3,none⟩=some (.slice (some ⟨g3,0,none⟩) P c3)∧W.cell? ⟨g3,q,none⟩=some (.slice A4 N4 c4)∧W.cell? ⟨gm,q,none⟩=some (.bool lq)∧W.cell? ⟨gb,offb+k,none⟩=some (.bool lu)∧W.cell? ⟨w.heap.size+1,0,none⟩=some (.slice Av (Q+q) cv)) w2.drew:=⟨zb4 z0,zb4 z1,zb4 z2,zb4 z3,zb4 p2',zb4 p3',zb4 hc3',zb4 hlq',zb4 hcb',zb4 p0'⟩;have hS1:(fun W:World=>W.cell? ⟨wi.heap.size,0,none⟩=some (.int .u64 (word S 0))∧W.cell? ⟨wi.heap.size,1,none⟩=some (.int .u64 (word S 1))∧W.cell? ⟨wi.heap.size,2,none⟩=some (.int .u64 (word S 2))∧W.cell? ⟨wi.heap.size,3,none⟩=some (.int .u64 (word S 3))∧W.cell? ⟨wo.heap.size,2,none⟩=some (.slice (some ⟨gm,0,none⟩) P P)∧W.cell? ⟨wo.heap.size,3,none⟩=some (.slice (some ⟨g3,0,none⟩) P c3)∧W.cell? ⟨g3,q,none⟩=some (.slice A4 N4 c4)∧W.cell? ⟨gm,q,none⟩=some (.bool lq)∧W.cell? ⟨gb,offb+k,none⟩=some (.bool lu)∧W.cell? ⟨w.heap.size+1,0,none⟩=some (.slice Av (Q+q) cv)) (w2.alloc (.cells #[.int .u64 (word S 0),.int .u64 (word S 1),.int .u64 (word S 2),.int .u64 (word S 3),.slice A4 N4 c4,.int .i64 (Q:Int),.bool lq,.bool lu] 117)).drew:=⟨zb4 (zcr z0 _),zb4 (zcr z1 _),zb4 (zcr z2 _),zb4 (zcr z3 _),zb4 (zcr p2' _),zb4 (zcr p3' _),zb4 (zcr hc3' _),zb4 (zcr hlq' _),zb4 (zcr hcb' _),p0d⟩;have hS2:(fun W:World=>W.cell? ⟨wi.heap.size,0,none⟩=some (.int .u64 (word S 0))∧W.cell? ⟨wi.heap.size,1,none⟩=some (.int .u64 (word S 1))∧W.cell? ⟨wi.heap.size,2,none⟩=some (.int .u64 (word S 2))∧W.cell? ⟨wi.heap.size,3,none⟩=some (.int .u64 (word S 3))∧W.cell? ⟨wo.heap.size,2,none⟩=some (.slice (some ⟨gm,0,none⟩) P P)∧W.cell? ⟨wo.heap.size,3,none⟩=some (.slice (some ⟨g3,0,none⟩) P c3)∧W.cell? ⟨g3,q,none⟩=some (.slice A4 N4 c4)∧W.cell? ⟨gm,q,none⟩=some (.bool lq)∧W.cell? ⟨gb,offb+k,none⟩=some (.bool lu)∧W.cell? ⟨w.heap.size+1,0,none⟩=some (.slice Av (Q+q) cv)) w6:=⟨y0,y1,y2,y3,y5,y6,y7,y8,y9,y4⟩;refine zdb (R:=fun _=>True) (S:=fun W=>W.cell? ⟨wi.heap.size,0,none⟩=some (.int .u64 (word S 0))∧W.cell? ⟨wi.heap.size,1,none⟩=some (.int .u64 (word S 1))∧W.cell? ⟨wi.heap.size,2,none⟩=some (.int .u64 (word S 2))∧W.cell? ⟨wi.heap.size,3,none⟩=some (.int .u64 (word S 3))∧W.cell? ⟨wo.heap.size,2,none⟩=some (.slice (some ⟨gm,0,none⟩) P P)∧W.cell? ⟨wo.heap.size,3,none⟩=some (.slice (some ⟨g3,0,none⟩) P c3)∧W.cell? ⟨g3,q,none⟩=some (.slice A4 N4 c4)∧W.cell? ⟨gm,q,none⟩=some (.bool lq)∧W.cell? ⟨gb,offb+k,none⟩=some (.bool lu)∧W.cell? ⟨w.heap.size+1,0,none⟩=some (.slice Av (Q+q) cv)) (T:=[22]) hmx ?_
     refine anyT_tk (i:=0) (v := .pointer (some ⟨w.heap.size+1,0,none⟩)) rfl (Or.inl ⟨by rfl,fun w' hS=>by obtain⟨s0,s1,s2,s3,s4,s5,s6,s7,s8,s9⟩:=hS;go_simp⟩) trivial hS0 ?_;refine anyT_tk (i:=1) (v := .slice Av (Q+q) cv) rfl (Or.inl ⟨by rfl,fun w' hS=>by obtain⟨s0,s1,s2,s3,s4,s5,s6,s7,s8,s9⟩:=hS;go_simp⟩) trivial hS0 ?_;refine anyT_tk (i:=2) (v := .agg #[.int .u64 (word S 0),.int .u64 (word S 1),.int .u64 (word S 2),.int .u64 (word S 3)]) rfl (Or.inl ⟨by rfl,fun w' hS=>by obtain⟨s0,s1,s2,s3,s4,s5,s6,s7,s8,s9⟩:=hS;go_simp⟩) trivial hS0 ?_;refine anyT_tk (i:=3) (v := .pointer (some ⟨wo.heap.size,3,none⟩)) rfl (Or.inl ⟨by rfl,fun w' hS=>by obtain⟨s0,s1,s2,s3,s4,s5,s6,s7,s8,s9⟩:=hS;go_simp⟩) trivial hS0 ?_;go_simp;refine anyT_tk (i:=4) (v := .slice (some ⟨g3,0,none⟩) P c3) rfl (Or.inl ⟨by rfl,fun w' hS=>by obtain⟨s0,s1,s2,s3,s4,s5,s6,s7,s8,s9⟩:=hS;go_simp⟩) trivial hS0 ?_;refine anyT_tk (i:=5) (v := .int .i64 (q:Int)) rfl (Or.inl ⟨by rfl,fun w' hS=>by obtain⟨s0,s1,s2,s3,s4,s5,s6,s7,s8,s9⟩:=hS;go_simp⟩) trivial hS0 ?_;refine anyT_tk (i:=6) (v := .pointer (some ⟨g3,q,none⟩)) rfl (Or.inl ⟨by rfl,fun w' hS=>by obtain⟨s0,s1,s2,s3,s4,s5,s6,s7,s8,s9⟩:=hS;go_simp⟩) trivial hS0 ?_;go_simp;refine anyT_tk (i:=7) (v := .slice A4 N4 c4) rfl (Or.inl ⟨by rfl,fun w' hS=>by obtain⟨s0,s1,s2,s3,s4,s5,s6,s7,s8,s9⟩:=hS;go_simp⟩) trivial hS0 ?_;refine anyT_tk (i:=8) (v := .int .i64 (Q:Int)) rfl (Or.inl ⟨by rfl,fun w' hS=>by obtain⟨s0,s1,s2,s3,s4,s5,s6,s7,s8,s9⟩:=hS;go_simp⟩) trivial hS0 ?_;refine anyT_tk (i:=9) (v := .pointer (some ⟨wo.heap.size,2,none⟩)) rfl (Or.inl ⟨by rfl,fun w' hS=>by obtain⟨s0,s1,s2,s3,s4,s5,s6,s7,s8,s9⟩:=hS;go_simp⟩) trivial hS0 ?_;go_simp;refine anyT_tk (i:=10) (v := .slice (some ⟨gm,0,none⟩) P P) rfl (Or.inl ⟨by rfl,fun w' hS=>by obtain⟨s0,s1,s2,s3,s4,s5,s6,s7,s8,s9⟩:=hS;go_simp⟩) trivial hS0 ?_;refine anyT_tk (i:=11) (v := .int .i64 (q:Int)) rfl (Or.inl ⟨by rfl,fun w' hS=>by obtain⟨s0,s1,s2,s3,s4,s5,s6,s7,s8,s9⟩:=hS;go_simp⟩) trivial hS0 ?_;refine anyT_tk (i:=12) (v := .pointer (some ⟨gm,q,none⟩)) rfl (Or.inl ⟨by rfl,fun w' hS=>by obtain⟨s0,s1,s2,s3,s4,s5,s6,s7,s8,s9⟩:=hS;go_simp⟩) trivial hS0 ?_;go_simp;refine anyT_tk (i:=13) (v := .bool lq) rfl (Or.inl ⟨by rfl,fun w' hS=>by obtain⟨s0,s1,s2,s3,s4,s5,s6,s7,s8,s9⟩:=hS;go_simp⟩) trivial hS0 ?_;refine anyT_tk (i:=14) (v := .slice (some ⟨gb,offb,none⟩) N cb) rfl (Or.inl ⟨by rfl,fun w' hS=>by obtain⟨s0,s1,s2,s3,s4,s5,s6,s7,s8,s9⟩:=hS;go_simp⟩) trivial hS0 ?_;refine anyT_tk (i:=15) (v := .int .i64 (k:Int)) rfl (Or.inl ⟨by rfl,fun w' hS=>by obtain⟨s0,s1,s2,s3,s4,s5,s6,s7,s8,s9⟩:=hS;go_simp⟩) trivial hS0 ?_;go_simp;refine anyT_tk (i:=16) (v := .pointer (some ⟨gb,offb+k,none⟩)) rfl (Or.inl ⟨by rfl,fun w' hS=>by obtain⟨s0,s1,s2,s3,s4,s5,s6,s7,s8,s9⟩:=hS;go_simp⟩) trivial hS0 ?_;refine anyT_tk (i:=17) (v := .bool lu) rfl (Or.inl ⟨by rfl,fun w' hS=>by obtain⟨s0,s1,s2,s3,s4,s5,s6,s7,s8,s9⟩:=hS;go_simp⟩) trivial hS0 ?_;go_simp;refine za2 (rs:=[18]) yih yii ?_;refine za5 (za3 rfl fun K' hK=>?_);go_simp;refine hK.out _ _ trivial (fun _=>hS0) ?_;clear hK K';go_simp;refine za2 (rs:=[19]) yih yii ?_;refine za5 (za3 rfl fun K' hK=>?_);go_simp;refine hK.out _ _ trivial (fun _=>hS1) ?_;clear hK K';go_simp;refine za2 (rs:=[20]) yih yii ?_;refine za5 (za3 rfl fun K' hK=>?_);refine zy9 yik _ _ yik (by go_simp) (by go_simp) _ yik hr6 ?_;refine hK.out _ _ trivial (fun _=>hS2) ?_;clear hK K';go_simp;refine za2 (rs:=[21]) yih yii ?_;refine za5 (za3 rfl fun K' hK=>?_);go_simp;refine hK.out _ _ trivial (fun _=>hS2) ?_;clear hK K';go_simp;refine za2 (rs:=[22]) yih yii ?_;refine za5 (za3 rfl fun K' hK=>?_);go_simp;refine hK.out _ _ trivial (zai (t:=22) yii yih) ?_;clear hK K';refine zci yih ?_ _;go_wp2;go_roundg (P-(q+1))
     case measure=>have:=HMQ.o;omega
     case rel =>
      have e1:togP L bs k++zby s x Q (bs.getD k false) (q+1)=togP L bs k++zby s x Q (bs.getD k false) q++[(⟨S,s.follow.getD q [],Q,lq,lu⟩:Plc)]:=by
       rw[zby,zma,HS.o,HLQ.o,HLU.o,yfl]
      exact⟨q+1,_,by go_num,by omega,rfl,by rw[e1];exact HAL.o.grewP G6.o H6.o,zbf _ HXO6.o (fun e=>n2 e)⟩
    .have hqP':q=P:=yie;subst hqP';have hQ256:=hP256;have hbe:=HTQ.o.bel.size;have p1:wi.cell? ⟨wo.heap.size,1,none⟩=some (.slice A2 F c2):=cell_of_row wi wo.heap.size 1 _ _ (0,0) HXQ.o;have hni:=HNI.o.below HTQ.o.bel;go_wp2;go_loopg [61] F (fun m i wj=>∃ (p:Nat) (u:Value),i = .int .i64 (p:Int)∧p<=F∧m=F-p∧Tog w wj lam (.slice Av (Q+q) cv) u (togP L bs k++zby s x Q (bs.getD k false) q) (togF L bs k++(x.first.take p).map (Q+·)))
     case atStart=>exact⟨0,_,by first | rfl | trivial,yf8 _,by first | rfl | trivial,by rw[yhs,yh0,ygm];exact HTQ.o⟩
     case round =>
      obtain⟨p,u,rfl,hp,hmp,htp⟩:=hrel;generalize wr=wj at *;have HMP:=Zh hmp;have HTP:=Zh htp;obtain⟨Au,cu,hfu⟩:=htp.fst.form;obtain⟨M,hM⟩:∃ M,(ns (togF L bs k++(x.first.take p).map (Q+·))).length=M:=⟨_,rfl⟩;rw[hM] at hfu;subst hfu;have HM:=Zh hM;clear hmp htp hM
      by_cases hpF:p<F
      .have hpx:p<x.first.length:=by rw[HFF.o];exact hpF
       have hnj:=HNI.o.below HTP.o.bel;obtain⟨g2,c2',e2,_,hg2,hy⟩:=hnj.first.at p (by rw[zaj];exact hpx)
       rw[zaj,HFF.o] at e2;simp only[Value.slice.injEq] at e2;obtain⟨rfl,-,rfl⟩:=e2;obtain⟨y,hyx⟩:∃ y,x.first[p]'hpx=y:=⟨_,rfl⟩
       have hyn:(ns x.first)[p]'(by rw[zaj];exact hpx)=(y:Int):=(by simp[ns,hyx]);rw[hyn] at hy;have hyP:y<q:=by
        have:=HI.o s x (yfh HSX.o) y (by rw[←hyx];exact yfq _);rw[HPP.o] at this;exact this
       have HYX:=Zh hyx;have hp0:(0:Int)<=(p:Int):=yie;have hp1:(p:Int)<(F:Int):=yie;have hQk:Q<=64*256:=by
        have h1:=HLP.o k yie;have h2:=HQ.o;have h4:k*256<=64*256:=yg4 _ yie;omega
       have hMM:M<=64*256+256:=by
        have h1:=HLF.o k yie;have h2:=HM.o;have h4:k*256<=64*256:=yg4 _ yie;rw[zaj,yfd,yfr,yg8] at h2;omega
       have t1:wj.cell? ⟨w.heap.size+1,1,none⟩=some (.slice Au M cu):=cell_of_row wj (w.heap.size+1) 1 _ _ (0,0) HTP.o.box;have hszj:=HTP.o.size;have hal:=HTP.o.alloc (.cells #[.int .i64 ((Q:Int)+(y:Int))] 3);have hne:some (w.heap.size+1)≠(Value.slice Au M cu).ownBlock:=fun e=>by
        have:=(HTP.o.fst.in e.symm).1;omega
       have e2:ns (togF L bs k++(x.first.take (p+1)).map (Q+·))=ns (togF L bs k++(x.first.take p).map (Q+·))++[(Q:Int)+(y:Int)]:=by
        rw[yfg hpx,hyx,yfu,←yfl,zja];simp[ns]
       have HAL:=Zh hal;have HNE:=Zh hne;have HE2:=Zh e2;clear hni hnj hyn hyx p1 hal hne e2;go_wp2_with (first
        | (at_builtin;refine zbc rfl _ _ yik yik yik HAL.o.fst (zwm wj ((Q:Int)+(y:Int))) (by have:=HM.o;simp only[yg7,yh5];omega) yil ?_;intro v6 w6 i6 g6 o6;have hbx6:=zbp g6 HAL.o.box HNE.o;obtain⟨A6,n6,c6,rfl⟩:=i6.form3;have t6:w6.cell? ⟨w.heap.size+1,1,none⟩=some (.slice Au M cu):=cell_of_row w6 (w.heap.size+1) 1 _ _ (0,0) hbx6;have f6:=frozen_of_row w6 (w.heap.size+1) 1 _ _ hbx6;have I6:=Zh i6;have G6:=Zh g6;clear i6 g6 o6 hbx6)
        | fail)
       go_roundg (F-(p+1))
       case measure=>have:=HMP.o;omega
       case rel=>exact⟨p+1,_,by go_num,by omega,rfl,HAL.o.grewF G6.o (by rw[HE2.o];exact I6.o)⟩
      .have hpF':p=F:=yie;have hx1:L.getD k lx0=(s,x):=(by rw[yf0,HSX.o];rfl);have e3:togP L bs (k+1)=togP L bs k++zby s x Q (bs.getD k false) q:=(by rw[togP,hx1,HQ.o,HPP.o]);have e4:togF L bs (k+1)=togF L bs k++(x.first.take p).map (Q+·):=(by rw[togF,hx1,HQ.o,hpF',←HFF.o,yfy]);have HE3:=Zh e3;have HE4:=Zh e4;clear hx1 e3 e4 hni p1;go_wp2;go_roundg (N-(k+1))
       case measure=>have:=HMK.o;omega
       case rel=>exact⟨k+1,_,_,by go_num,by omega,rfl,by rw[HE3.o,HE4.o];exact HTP.o⟩
  .have hkn:k=N:=yie;subst hkn;have d0:wo.cell? ⟨w.heap.size,0,none⟩=some (.slice none 0 0):=cell_of_row wo w.heap.size 0 _ _ (0,0) HT.o.res;have d1:wo.cell? ⟨w.heap.size,1,none⟩=some (.slice none 0 0):=cell_of_row wo w.heap.size 1 _ _ (0,0) HT.o.res;have d2:wo.cell? ⟨w.heap.size,2,none⟩=some (.int .i64 0):=cell_of_row wo w.heap.size 2 _ _ (0,0) HT.o.res;have f0:=frozen_of_row wo w.heap.size 0 _ _ HT.o.res;have f1:=frozen_of_row wo w.heap.size 1 _ _ HT.o.res;have f2:=frozen_of_row wo w.heap.size 2 _ _ HT.o.res;go_wp2;obtain⟨q0,q1,q2,q3,q4⟩:=HT.o.fin;refine yb9 (x:=6) rfl rfl rfl q0 ⟨_,_,_,rfl,q4,q1,q2,q3⟩
end
section
open Go Go.ChangeShapes Go.WideShapes Go.ChangeAt Go.RowKit Go.Deep
theorem zlo {W:World} {a:Addr} {v:Value} (h:W.cell? (a.add 0)=some v):∃ b off,a=⟨b,off,none⟩:=by
 obtain⟨b,off,spot⟩:=a;have:spot=none:=by simpa [Addr.add] using World.cell?_spot h
 subst this;exact⟨b,off,rfl⟩
section
variable {H:Type} {enc:TypeId×Value->H} {W:World} {base:Nat} {held:Bool} {v:Value} {d:DataW H} {ps:List MemPlace}
theorem zt9 (hv:Value.okWide Tryd.prog W .any base 22 v) (h:DataW.Trod enc Tryd.prog W 0 (fun _=>true) held 22 v d ps):
 ∃ A n cap L,v = .slice A n cap∧n=L.length∧RdStr W A L∧n<=cap∧cap<=maxLen∧∀ s∈L,s.size<=maxLen:=by
 obtain⟨A,n,cap,rfl⟩:=okWide_slice Tryd.underlying22 hv;obtain⟨fuel,hf⟩:=h;rcases open_strs Tryd.underlying22 Tryd.underlying9 yih hf with ⟨hcs,_⟩|⟨a,len,c,m,Sx,hcs,_,hl,hm,hmm,_,hcell⟩
 .simp[Value.cells] at hcs;obtain⟨rfl,rfl,rfl⟩:=hcs;exact⟨none,0,0,[],rfl,rfl,fun k s hk=>by simp at hk,yez _,yf8 _,fun s hs=>by simp at hs⟩
 .simp[Value.cells] at hcs;obtain⟨rfl,rfl,rfl⟩:=hcs;have hnm:n<=m:=(by rw[hmm];simp;omega);refine⟨_,n,cap,(List.range n).map Sx,rfl,by simp,fun i s hi=>?_,hl,hm,fun s hs=>?_⟩
  .have hlt:i<n:=(by have:=(yf4.1 hi).1;simpa using this);simp[hlt] at hi;subst hi;obtain⟨b,off,rfl⟩:=zlo (hcell 0 yie).1;have hc:=(hcell i yie).1;rw[Go.WideShapes.add_plain] at hc;exact⟨b,off,rfl,ygk W ⟨b,off+i,none⟩ hc,hc⟩
  .simp at hs;obtain⟨i,hi,rfl⟩:=hs;exact (hcell i yie).2
theorem zpu (hv:Value.okWide Tryd.prog W .any base 23 v) (h:DataW.Trod enc Tryd.prog W 0 (fun _=>true) held 23 v d ps):
 ∃ A n cap L,v = .slice A n cap∧n=L.length∧RdBo W A L∧n<=cap∧cap<=maxLen:=by
 obtain⟨A,n,cap,rfl⟩:=okWide_slice Tryd.underlying23 hv;obtain⟨fuel,hf⟩:=h;rcases open_bools Tryd.underlying23 Tryd.underlying4 yih hf with ⟨hcs,_⟩|⟨a,len,c,B,hcs,_,hl,hm,_,hcell⟩
 .simp[Value.cells] at hcs;obtain⟨rfl,rfl,rfl⟩:=hcs;exact⟨none,0,0,[],rfl,rfl,fun k s hk=>by simp at hk,yez _,yf8 _⟩
 .simp[Value.cells] at hcs;obtain⟨rfl,rfl,rfl⟩:=hcs;refine⟨_,n,cap,(List.range n).map B,rfl,by simp,fun i s hi=>?_,hl,hm⟩;have hlt:i<n:=(by have:=(yf4.1 hi).1;simpa using this);simp[hlt] at hi;subst hi;obtain⟨b,off,rfl⟩:=zlo (hcell 0 yie);have hc:=hcell i yie;rw[Go.WideShapes.add_plain] at hc;exact⟨b,off,rfl,ygk W ⟨b,off+i,none⟩ hc,hc⟩
end
end
end Go.Proofs.YtipfgpfplakhiaaDoor
