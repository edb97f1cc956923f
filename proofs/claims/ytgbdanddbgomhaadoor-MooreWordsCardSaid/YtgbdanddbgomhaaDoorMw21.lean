import Derived.Test.YtgbdanddbgomhaaDoorMw18
import Derived.Test.YtgbdanddbgomhaaDoorMw17
set_option linter.unusedVariables false
set_option linter.unusedSimpArgs false
namespace Go.Proofs.YtgbdanddbgomhaaDoor
open Go Go.RowKit
section
attribute [local go_sem ↓] Go.wp_at_zero Go.wp_at_succ
mutual
def plN:T->Nat
 | .mk op p lo hi l=>min (((if op=1 then 1 else 0)+plSum l)*(if op=4 then hi.toNat else 1)) 1000
def plSum:List T->Nat
 | []=>0
 | t::ts=>plN t+plSum ts
end
theorem zpq (t:T):plN t<=1000:=by cases t;unfold plN;omega
theorem zj3:∀ (l l':List T),plSum (l++l')=plSum l+plSum l'
 | [],l'=>by simp[plSum]
 | t::ts,l'=>by simp[plSum,zj3 ts l'];omega
theorem zgk (l:List T) (j:Nat) (h:j<l.length):plSum (l.take (j+1))=plSum (l.take j)+plN (l[j]'h):=by
 rw[List.take_succ_eq_append_getElem h,zj3];simp[plSum]
theorem zdl:∀ (l:List T),plSum l<=1000*l.length
 | []=>by simp[plSum]
 | t::ts=>by
   have:=zdl ts;have:=zpq t;simp[plSum];omega
def nodeP (t:T) (k:Value):Value := .agg #[.int .i64 t.op,.int .u64 (word t.set 0),.int .u64 (word t.set 1),.int .u64 (word t.set 2),.int .u64 (word t.set 3),.int .i64 t.lo,.int .i64 t.hi,k]
theorem WF.op_cases {t:T} (h:WF t):(t.op=1∧t.kids=[]∧t.lo=0∧t.hi=0)∨(t.op=2∧2<=t.kids.length∧t.kids.length<=202∧t.lo=0∧t.hi=0)∨(t.op=3∧2<=t.kids.length∧t.kids.length<=202∧t.lo=0∧t.hi=0)∨
   (t.op=4∧t.kids.length=1∧0<=t.lo∧t.lo<=t.hi∧1<=t.hi∧t.hi<=32):=by
 cases h with
 | one p=>exact .inl ⟨rfl,rfl,rfl,rfl⟩
 | cat l h2 hN h=>exact .inr (.inl ⟨rfl,h2,hN,rfl,rfl⟩)
 | alt l h2 hN h=>exact .inr (.inr (.inl ⟨rfl,h2,hN,rfl,rfl⟩))
 | rep m n t h0 h1 h2 h3 h=>exact .inr (.inr (.inr ⟨rfl,rfl,h0,h1,h2,h3⟩))
theorem WF.len {t:T} (h:WF t):t.kids.length<=202:=by
 rcases h.op_cases with h|h|h|h
 . rw[h.2.1];decide
 . exact h.2.2.1
 . exact h.2.2.1
 . rw[h.2.1];decide
theorem WF.kid {t:T} (h:WF t) {u:T} (hu:u∈t.kids):WF u:=by
 cases h with
 | one p=>simp[T.kids] at hu
 | cat l h2 hN h=>exact h u hu
 | alt l h2 hN h=>exact h u hu
 | rep m n t h0 h1 h2 h3 h=>simp[T.kids] at hu;rw[hu];exact h
theorem WF.at {t:T} (h:WF t) (j:Nat) (hj:j<t.kids.length):WF (t.kids[j]'hj):=h.kid (List.getElem_mem hj)
def RetInt (w:World) (n:Int) (e:Ending) (w':World):Prop:=e = .returned (.int .i64 n)∧Below w.heap.size w w'
set_option maxRecDepth 20000 in
set_option maxHeartbeats 2000000 in
theorem zt1:∀ (N:Nat) (t:T) (w:World) (ok:Nat->Prop) (k:Value),SizeOf.sizeOf t<=N->WF t->Tree w ok t k->
   Calls Tryd.prog 31 #[nodeP t k] w (RetInt w (plN t)):=by
 intro N;induction N with
 | zero=>intro t w ok k h;obtain⟨op,p,lo,hi,l⟩:=t;simp at h
 | succ N ih =>
 intro t w ok k hN hwf ht;obtain⟨A,n',c,rfl⟩:=ht.form;obtain⟨hn,hm⟩:=ht.bound;have hlen:=hwf.len;rw[←hn] at hlen;unfold maxLen at hm;have hop:=hwf.op_cases;have b1:=Box8.new w t (.slice A n' c);have hB:Below w.heap.size w (w.alloc (.cells #[.int .i64 t.op,.int .u64 (word t.set 0),.int .u64 (word t.set 1),.int .u64 (word t.set 2),.int .u64 (word t.set 3),.int .i64 t.lo,.int .i64 t.hi,.slice A n' c] 29)):=(Below.refl _ _).alloc (Nat.le_refl _) _;have hpl:plN t=min (((if t.op=1 then 1 else 0)+plSum t.kids)*(if t.op=4 then t.hi.toNat else 1)) 1000:=(by cases t;rfl);have hsum:=zdl t.kids;have HPL:=Zh hpl;have HSUM:=Zh hsum;have HWF:=Zh hwf;have HOP:=Zh hop;have HN:=Zh hn;have HT:=Zh ht;have IH:=Zh ih;have HB1:=Zh b1;have HM:=Zh hm;clear hn ih hpl hsum hwf hop;unfold nodeP;cases hb1:(t.op==1)
 all_goals
   cases hb4:(t.op==4)
   all_goals
     go_enter Tryd.func31,Tryd.ntmps31;go_wp2;go_loopg [3,4] n' (fun m k i wr=>∃ j:Nat,i = .int .i64 (j:Int)∧j<=n'∧m=n'-j∧k = .int .i64 (((if t.op=1 then 1 else 0)+plSum (t.kids.take j):Nat):Int)∧Box8 wr w.heap.size t (.slice A n' c)∧Below w.heap.size w wr)
     case atStart=>exact⟨0,rfl,Nat.zero_le _,rfl,by first | (rw[if_pos (by simpa using hb1)];rfl) | (rw[if_neg (by simpa using hb1)];rfl),HB1.out,hB⟩
     case round =>
       obtain⟨j,rfl,hj,hmj,rfl,x1,hW⟩:=hrel;have HMJ:=Zh hmj;obtain⟨c0,c1,c2,c3,c4,c5,c6,c7⟩:=x1.cell;clear b1 hmj
       by_cases hlt:j<n'
       . have hlt':j<t.kids.length:=(by rw[←HN.out];exact hlt);obtain⟨g,B,m1,m2,e1,hg1,htk,hcells⟩:=kid8 HT.out j (List.getElem?_eq_getElem hlt');subst e1;have hks:=zav t j hlt';have hwk:=HWF.out.at j hlt';have hst:=zgk t.kids j hlt';have hsl:=zdl (t.kids.take j);rw[List.length_take] at hsl;have hpu:=zpq (t.kids[j]'hlt');generalize t.kids[j]=u at *;have HC:∀ q v,(nodeC u (.slice B m1 m2))[q]?=some v->wr.cell? ⟨g,j*8+q,none⟩=some v:=fun q v h=>by rw[Nat.mul_comm j 8];exact (hW.cell (p:=⟨g,8*j+q,none⟩) hg1).trans (hcells q v h)
         have k0:wr.cell? ⟨g,j*8,none⟩=_:=HC 0 _ rfl;have k1:=HC 1 _ rfl;have k2:=HC 2 _ rfl;have k3:=HC 3 _ rfl;have k4:=HC 4 _ rfl;have k5:=HC 5 _ rfl;have k6:=HC 6 _ rfl;have k7:=HC 7 _ rfl;have HK:=Zh (fun w' (hb:Below wr.heap.size wr w')=>IH.out u w' ok (.slice B m1 m2) (by omega) hwk ((htk.stays hW).stays hb));have HST:=Zh hst;clear HC hcells htk hks hwk hst;unfold nodeP RetInt at HK;have ha:((if t.op=1 then 1 else 0:Nat))<=1:=by split <;> omega
         generalize hS:(if t.op=1 then 1 else 0:Nat)=a0 at *;generalize plSum (t.kids.take j)=S at *;have hS2:S<=202000:=(by omega);clear hS;go_wp2_with (go_at_call 31;(with_reducible refine (HK.out _ (Below.refl _ _)).mono ?_);rintro e w5 ⟨rfl,hb5⟩);go_roundg (n'-(j+1))
         case measure=>have:=HMJ.out;omega
         case rel=>exact⟨j+1,by go_num,by omega,rfl,by rw[HST.out];go_num,x1.stays hb5,gro hW hb5⟩
       . have hjn:j=t.kids.length:=(by rw[←HN.out];omega);have hwhole:t.kids.take j=t.kids:=(by rw[hjn];exact List.take_length);rw[hwhole];have hS2:=HSUM.out;have ha:((if t.op=1 then 1 else 0:Nat))<=1:=by split <;> omega
         have hpl':=HPL.out;rw[show t.kids.length=n' from HN.out.symm] at hS2;generalize hS:(if t.op=1 then 1 else 0:Nat)=a0 at *;generalize plSum t.kids=S at *
         by_cases h4:t.op=4
         . first
             | (exfalso;simp[h4] at hb4;done)
             | skip
           all_goals
             rw[if_pos h4] at hpl';have hh:=HOP.out;have hh2:1<=t.hi∧t.hi<=32:=(by omega);obtain⟨hi0,hi1⟩:=hh2;obtain⟨hN,hNe⟩:∃ hN:Nat,t.hi=hN:=⟨t.hi.toNat,by omega⟩;have hpr:(a0+S)*hN<=202001*32:=Nat.mul_le_mul (by omega) (by omega);rw[hNe,Int.toNat_natCast] at hpl';have hprod:((a0:Int)+(S:Int))*(hN:Int)=(((a0+S)*hN:Nat):Int):=(by simp);generalize (a0+S)*hN=Pr at hpl' hpr hprod;have HPL2:=Zh hpl';have HPR:=Zh hprod;rw[hNe] at c6;have p0:(0:Int)<=((a0:Int)+(S:Int))*(hN:Int):=(by rw[hprod];omega);have p1:((a0:Int)+(S:Int))*(hN:Int)<=9223372036854775807:=(by rw[hprod];omega);clear hpl' hNe hh h4 hS hprod hi0 hi1;go_wp2
             all_goals
               go_ret;refine⟨congrArg Ending.returned (congrArg (Value.int .i64) ?_),hW⟩;have e1:=HPL2.out;have e2:=HPR.out;rw[e1];omega
         . first
             | (exfalso;simp at hb4;exact h4 hb4)
             | skip
           all_goals
             rw[if_neg h4,Nat.mul_one] at hpl';have HPL2:=Zh hpl';clear hpl' h4 hS;go_wp2
             all_goals
               go_ret;refine⟨congrArg Ending.returned (congrArg (Value.int .i64) ?_),hW⟩;rw[HPL2.out];omega
theorem zht {t:T} {k:Value} {ok:Nat->Prop} (w:World) (hwf:WF t) (ht:Tree w ok t k):Calls Tryd.prog 31 #[nodeP t k] w (RetInt w (plN t)):=
 zt1 _ t w ok k (Nat.le_refl _) hwf ht
end
def best1 (most:Bool) (a b:Nat):Nat:=if most then max a b else min a b
def bestN (most:Bool):List Nat->Nat
 | []=>0
 | a::l=>l.foldl (best1 most) a
mutual
def lenN (most:Bool):T->Nat
 | .mk op p lo hi l=>min (if op=1 then 1 else if op=2 then (lenL most l).sum else if op=3 then bestN most (lenL most l) else if op=4 then (if most then hi else lo).toNat*bestN most (lenL most l) else 0) 1000
def lenL (most:Bool):List T->List Nat
 | []=>[]
 | t::ts=>lenN most t::lenL most ts
end
theorem zfm (most:Bool) (t:T):lenN most t<=1000:=by cases t;unfold lenN;omega
theorem zdo (most:Bool) (l:List T):lenL most l=l.map (lenN most):=by
 induction l with
 | nil=>rfl
 | cons t ts ih=>simp[lenL,ih]
theorem zp0 (most:Bool):∀ (l:List T),(lenL most l).sum<=1000*l.length
 | []=>by simp[lenL]
 | t::ts=>by
   have:=zp0 most ts;have:=zfm most t;simp[lenL];omega
theorem zsg (most:Bool) (l:List T) (j:Nat) (h:j<l.length):(lenL most (l.take (j+1))).sum=(lenL most (l.take j)).sum+lenN most (l[j]'h):=by
 rw[List.take_succ_eq_append_getElem h,zdo,zdo,List.map_append,List.sum_append];simp only[List.map_cons,List.map_nil,List.sum_cons,List.sum_nil,Nat.add_zero]
theorem zrx (most:Bool) (l:List Nat) (b:Nat) (h:l≠[]):bestN most (l++[b])=best1 most (bestN most l) b:=by
 cases l with
 | nil=>exact absurd rfl h
 | cons a l=>simp[bestN]
theorem zrw (most:Bool) (l:List T) (j:Nat) (h:j<l.length) (h0:0<j):bestN most (lenL most (l.take (j+1)))=best1 most (bestN most (lenL most (l.take j))) (lenN most (l[j]'h)):=by
 rw[List.take_succ_eq_append_getElem h,zdo,zdo,List.map_append];refine zrx most _ _ ?_;intro e;have:=congrArg List.length e;rw[List.length_map,List.length_take,List.length_nil] at this;omega
theorem zub {most:Bool} {a b N:Nat} (ha:a<=N) (hb:b<=N):best1 most a b<=N:=by unfold best1;split <;> omega
theorem zua (most:Bool) (N:Nat):∀ (l:List Nat),(∀ x∈l,x<=N)->bestN most l<=N
 | [],_=>Nat.zero_le _
 | a::l,h=>by
   have key:∀ (l:List Nat) (a:Nat),a<=N->(∀ x∈l,x<=N)->l.foldl (best1 most) a<=N:=by
     intro l;induction l with
     | nil=>intro a ha _;exact ha
     | cons b l ih=>intro a ha hl;exact ih _ (zub ha (hl b (by simp))) fun x hx=>hl x (by simp[hx])
   exact key l a (h a (by simp)) fun x hx=>h x (by simp[hx])
theorem zry (most:Bool) (l:List T):bestN most (lenL most l)<=1000:=by
 refine zua most 1000 _ fun x hx=>?_
 rw[zdo] at hx;simp only[List.mem_map] at hx;obtain⟨t,_,rfl⟩:=hx;exact zfm most t
theorem zmy (most:Bool) (l:List T) (h:0<l.length):bestN most (lenL most (l.take 1))=lenN most (l[0]'h):=by
 cases l with
 | nil=>simp at h
 | cons a l=>simp[lenL,bestN]
section
attribute [local go_sem ↓] Go.wp_at_zero Go.wp_at_succ
theorem zuc (most:Bool) (a b:Nat):(if (most==decide ((a:Int)<(b:Int)))=true then b else a)=best1 most a b:=by
 unfold best1;cases most
 . by_cases h:(a:Int)<(b:Int)
   . simp[h];omega
   . simp[h];omega
 . by_cases h:(a:Int)<(b:Int)
   . simp[h];omega
   . simp[h];omega
set_option maxRecDepth 20000 in
set_option maxHeartbeats 4000000 in
theorem ztj (most:Bool):∀ (N:Nat) (t:T) (w:World) (ok:Nat->Prop) (k:Value),SizeOf.sizeOf t<=N->WF t->Tree w ok t k->
   Calls Tryd.prog 12 #[nodeP t k,.bool most] w (RetInt w (lenN most t)):=by
 intro N;induction N with
 | zero=>intro t w ok k h;obtain⟨op,p,lo,hi,l⟩:=t;simp at h
 | succ N ih =>
 intro t w ok k hN hwf ht;obtain⟨A,n',c,rfl⟩:=ht.form;obtain⟨hn,hm⟩:=ht.bound;have hlen:=hwf.len;rw[←hn] at hlen;unfold maxLen at hm;have hop:=hwf.op_cases;have b1:=Box8.new w t (.slice A n' c);have hB:Below w.heap.size w (w.alloc (.cells #[.int .i64 t.op,.int .u64 (word t.set 0),.int .u64 (word t.set 1),.int .u64 (word t.set 2),.int .u64 (word t.set 3),.int .i64 t.lo,.int .i64 t.hi,.slice A n' c] 29)):=(Below.refl _ _).alloc (Nat.le_refl _) _;have HN:=Zh hn;have HT:=Zh ht;have HWF:=Zh hwf;have HB1:=Zh b1;have IH:=Zh ih;have hpl:lenN most t=min (if t.op=1 then 1 else if t.op=2 then (lenL most t.kids).sum else if t.op=3 then bestN most (lenL most t.kids) else if t.op=4 then (if most then t.hi else t.lo).toNat*bestN most (lenL most t.kids) else 0) 1000:=(by cases t;rfl);have HPL:=Zh hpl;clear hn ih hpl hwf ht;unfold nodeP;rcases hop with ⟨h,h2,z1,z2⟩|⟨h,h2,h3,z1,z2⟩|⟨h,h2,h3,z1,z2⟩|⟨h,h2,h3,h4,h5,h6⟩
 . have hb1:(t.op==1)=true:=(by simp[h]);have HH:=Zh h;clear h h2 z1 z2;go_enter Tryd.func12,Tryd.ntmps12;go_wp2;go_ret;exact⟨by rw[HPL.out,if_pos HH.out];rfl,hB⟩
 . have hb1:(t.op==1)=false:=(by simp[h]);have hb2:(t.op==2)=true:=(by simp[h]);have HPL2:Hid (lenN most t=min (lenL most t.kids).sum 1000):=by show _=_;rw[HPL.out,if_neg (by omega),if_pos h]
   clear h HPL z1 z2;go_enter Tryd.func12,Tryd.ntmps12;go_wp2;go_loopg [5,6] n' (fun m k i wr=>∃ j:Nat,i = .int .i64 (j:Int)∧j<=n'∧m=n'-j∧k = .int .i64 (((lenL most (t.kids.take j)).sum:Nat):Int)∧Box8 wr w.heap.size t (.slice A n' c)∧Below w.heap.size w wr)
   case atStart=>exact⟨0,rfl,Nat.zero_le _,rfl,rfl,HB1.out,hB⟩
   case round =>
     obtain⟨j,rfl,hj,hmj,rfl,x1,hW⟩:=hrel;have HMJ:=Zh hmj;obtain⟨c0,c1,c2,c3,c4,c5,c6,c7⟩:=x1.cell;clear b1 hmj
     by_cases hlt:j<n'
     . have hlt':j<t.kids.length:=(by rw[←HN.out];exact hlt);obtain⟨g,B,m1,m2,e1,hg1,htk,hcells⟩:=kid8 HT.out j (List.getElem?_eq_getElem hlt');subst e1;have hks:=zav t j hlt';have hwk:=HWF.out.at j hlt';have hst:=zsg most t.kids j hlt';have hsl:=zp0 most (t.kids.take j);rw[List.length_take] at hsl;have hpu:=zfm most (t.kids[j]'hlt');generalize t.kids[j]=u at *;have HC:∀ q v,(nodeC u (.slice B m1 m2))[q]?=some v->wr.cell? ⟨g,j*8+q,none⟩=some v:=fun q v h=>by rw[Nat.mul_comm j 8];exact (hW.cell (p:=⟨g,8*j+q,none⟩) hg1).trans (hcells q v h)
       have k0:wr.cell? ⟨g,j*8,none⟩=_:=HC 0 _ rfl;have k1:=HC 1 _ rfl;have k2:=HC 2 _ rfl;have k3:=HC 3 _ rfl;have k4:=HC 4 _ rfl;have k5:=HC 5 _ rfl;have k6:=HC 6 _ rfl;have k7:=HC 7 _ rfl;have HK:=Zh (fun w' (hb:Below wr.heap.size wr w')=>IH.out u w' ok (.slice B m1 m2) (by omega) hwk ((htk.stays hW).stays hb));have HST:=Zh hst;clear HC hcells htk hks hwk hst;unfold nodeP RetInt at HK;generalize (lenL most (t.kids.take j)).sum=S at *;have hS2:S<=202000:=(by omega);go_wp2_with (go_at_call 12;(with_reducible refine (HK.out _ (Below.refl _ _)).mono ?_);rintro e w5 ⟨rfl,hb5⟩);go_roundg (n'-(j+1))
       case measure=>have:=HMJ.out;omega
       case rel=>exact⟨j+1,by go_num,by omega,rfl,by rw[HST.out];go_num,x1.stays hb5,gro hW hb5⟩
     . have hjn:j=t.kids.length:=(by rw[←HN.out];omega);have hwhole:t.kids.take j=t.kids:=(by rw[hjn];exact List.take_length);rw[hwhole];have hS2:=zp0 most t.kids;rw[show t.kids.length=n' from HN.out.symm] at hS2;generalize (lenL most t.kids).sum=S at *;go_wp2
       all_goals
         go_ret;refine⟨congrArg Ending.returned (congrArg (Value.int .i64) ?_),hW⟩;rw[HPL2.out];omega
 . have hb1:(t.op==1)=false:=(by simp[h]);have hb2:(t.op==2)=false:=(by simp[h]);have hb3:(t.op==3)=true:=(by simp[h]);have HPL2:Hid (lenN most t=min (bestN most (lenL most t.kids)) 1000):=by show _=_;rw[HPL.out,if_neg (by omega),if_neg (by omega),if_pos h]
   have h0:0<t.kids.length:=(by omega);have hn2:0<n':=(by rw[HN.out];omega);have hn3:(0:Int)<(n':Int):=(by omega);obtain⟨g0,B0,l1,l2,e0,hg0,htk0,hcells0⟩:=kid8 HT.out 0 (List.getElem?_eq_getElem h0);subst e0;have hks0:=zav t 0 h0;have hwk0:=HWF.out.at 0 h0;have hst0:=zmy most t.kids h0;generalize t.kids[0]=u0 at *;have hk0:=hcells0 0 _ rfl;have hk1:=hcells0 1 _ rfl;have hk2:=hcells0 2 _ rfl;have hk3:=hcells0 3 _ rfl;have hk4:=hcells0 4 _ rfl;have hk5:=hcells0 5 _ rfl;have hk6:=hcells0 6 _ rfl;have hk7:=hcells0 7 _ rfl;rw[show 8*0+0=0 from rfl] at hk0;have HK0:=Zh (fun w' (hb:Below w.heap.size w w')=>IH.out u0 w' ok (.slice B0 l1 l2) (by omega) hwk0 (htk0.stays hb));have HST0:=Zh hst0;clear h HPL z1 z2 hcells0 htk0 hks0 hwk0 hst0;unfold nodeP RetInt at HK0;go_enter Tryd.func12,Tryd.ntmps12;go_wp2_with (go_at_call 12;(with_reducible refine (HK0.out _ hB).mono ?_);rintro e w4 ⟨rfl,hb4⟩;have x0:=HB1.out.stays hb4;have hB4:=gro1 (Below.refl _ _) hb4);clear hk0 hk1 hk2 hk3 hk4 hk5 hk6 hk7;go_loopg [5,7] (n'-1) (fun m k i wr=>∃ j:Nat,i = .int .i64 (j:Int)∧1<=j∧j<=n'∧m=n'-j∧k = .int .i64 ((bestN most (lenL most (t.kids.take j)):Nat):Int)∧Box8 wr w.heap.size t (.slice (some ⟨g0,0,none⟩) n' c)∧Below w.heap.size w wr)
   case atStart=>exact⟨1,rfl,Nat.le_refl _,hn2,rfl,by rw[HST0.out],x0,hB4⟩
   case round =>
     obtain⟨j,rfl,h1j,hj,hmj,rfl,x1,hW⟩:=hrel;have HMJ:=Zh hmj;obtain⟨c0,c1,c2,c3,c4,c5,c6,c7⟩:=x1.cell;clear b1 hmj x0
     by_cases hlt:j<n'
     . have hlt':j<t.kids.length:=(by rw[←HN.out];exact hlt);obtain⟨g,B,m1,m2,e1,hg1,htk,hcells⟩:=kid8 HT.out j (List.getElem?_eq_getElem hlt');injection e1 with e1
       injection e1 with e1
       subst e1;have hks:=zav t j hlt';have hwk:=HWF.out.at j hlt';have hst:=zrw most t.kids j hlt' h1j;have hsl:=zry most (t.kids.take j);have hpu:=zfm most (t.kids[j]'hlt');generalize t.kids[j]=u at *;have HC:∀ q v,(nodeC u (.slice B m1 m2))[q]?=some v->wr.cell? ⟨g0,j*8+q,none⟩=some v:=fun q v h=>by rw[Nat.mul_comm j 8];exact (hW.cell (p:=⟨g0,8*j+q,none⟩) hg1).trans (hcells q v h)
       have k0:wr.cell? ⟨g0,j*8,none⟩=_:=HC 0 _ rfl;have k1:=HC 1 _ rfl;have k2:=HC 2 _ rfl;have k3:=HC 3 _ rfl;have k4:=HC 4 _ rfl;have k5:=HC 5 _ rfl;have k6:=HC 6 _ rfl;have k7:=HC 7 _ rfl;have HK:=Zh (fun w' (hb:Below wr.heap.size wr w')=>IH.out u w' ok (.slice B m1 m2) (by omega) hwk ((htk.stays hW).stays hb));have HST:=Zh hst;clear HC hcells htk hks hwk hst;unfold nodeP RetInt at HK;generalize bestN most (lenL most (t.kids.take j))=S at *;generalize hU:lenN most u=U at *;clear hU;go_wp2_with (go_at_call 12;(with_reducible refine (HK.out _ (Below.refl _ _)).mono ?_);rintro e w5 ⟨rfl,hb5⟩)
       all_goals
         go_roundg (n'-(j+1))
         case measure=>have:=HMJ.out;omega
         case rel =>
           refine⟨j+1,by go_num,by omega,by omega,rfl,?_,x1.stays hb5,gro hW hb5⟩;rw[HST.out,←zuc];simp[*]
     . have hjn:j=t.kids.length:=(by rw[←HN.out];omega);have hwhole:t.kids.take j=t.kids:=(by rw[hjn];exact List.take_length);rw[hwhole];have hS2:=zry most t.kids;generalize bestN most (lenL most t.kids)=S at *;go_wp2
       all_goals
         go_ret;refine⟨congrArg Ending.returned (congrArg (Value.int .i64) ?_),hW⟩;rw[HPL2.out];omega
 . have hb1:(t.op==1)=false:=(by simp[h]);have hb2:(t.op==2)=false:=(by simp[h]);have hb3:(t.op==3)=false:=(by simp[h]);have hb4:(t.op==4)=true:=(by simp[h]);have h0:0<t.kids.length:=(by omega);have hn3:(0:Int)<(n':Int):=(by rw[HN.out];omega);have hone:bestN most (lenL most t.kids)=lenN most (t.kids[0]'h0):=(by rw[←zmy most t.kids h0,List.take_of_length_le (by omega)]);obtain⟨T0,hT0⟩:∃ T0:Nat,(if most then t.hi else t.lo)=T0:=⟨(if most then t.hi else t.lo).toNat,by split <;> omega⟩;have hT1:T0<=32:=by split at hT0 <;> omega
   have HPL2:Hid (lenN most t=min (T0*lenN most (t.kids[0]'h0)) 1000):=by show _=_;rw[HPL.out,if_neg (by omega),if_neg (by omega),if_neg (by omega),if_pos h,hT0,hone];rfl
   obtain⟨g0,B0,l1,l2,e0,hg0,htk0,hcells0⟩:=kid8 HT.out 0 (List.getElem?_eq_getElem h0);subst e0;have hks0:=zav t 0 h0;have hwk0:=HWF.out.at 0 h0;have hpu:=zfm most (t.kids[0]'h0);generalize t.kids[0]=u0 at *;have hk0:=hcells0 0 _ rfl;have hk1:=hcells0 1 _ rfl;have hk2:=hcells0 2 _ rfl;have hk3:=hcells0 3 _ rfl;have hk4:=hcells0 4 _ rfl;have hk5:=hcells0 5 _ rfl;have hk6:=hcells0 6 _ rfl;have hk7:=hcells0 7 _ rfl;rw[show 8*0+0=0 from rfl] at hk0;have HK0:=Zh (fun w' (hb:Below w.heap.size w w')=>IH.out u0 w' ok (.slice B0 l1 l2) (by omega) hwk0 (htk0.stays hb));have hprod:T0*lenN most u0<=32*1000:=Nat.mul_le_mul hT1 hpu;have hpi:(T0:Int)*(lenN most u0:Int)=((T0*lenN most u0:Nat):Int):=(by simp);have p0:(0:Int)<=(T0:Int)*(lenN most u0:Int):=(by rw[hpi];omega);have p1:(T0:Int)*(lenN most u0:Int)<=9223372036854775807:=(by rw[hpi];omega);have HPI:=Zh hpi;have HPD:=Zh hprod;clear h HPL hcells0 htk0 hks0 hwk0 hone hpi hprod h2 h3 h4 h5 h6 h0;generalize hU:lenN most u0=U at *;clear hU;unfold nodeP RetInt at HK0;generalize T0*U=Pr at *;cases most
   . have hlo:t.lo=T0:=(by simpa using hT0);have q0:(0:Int)<=t.lo*(U:Int):=(by rw[hlo];exact p0);have q1:t.lo*(U:Int)<=9223372036854775807:=(by rw[hlo];exact p1);have HLO:=Zh hlo;clear hT0 hlo p0 p1 hT1;go_enter Tryd.func12,Tryd.ntmps12;go_wp2_with (go_at_call 12;(with_reducible refine (HK0.out _ hB).mono ?_);rintro e w4 ⟨rfl,hb4⟩;have hB4:=gro1 (Below.refl _ _) hb4)
     all_goals
       go_ret;refine⟨congrArg Ending.returned (congrArg (Value.int .i64) ?_),hB4⟩;have e2:t.lo*(U:Int)=(Pr:Int):=(by rw[HLO.out];exact HPI.out);rw[HPL2.out];omega
   . have hlo:t.hi=T0:=(by simpa using hT0);have q0:(0:Int)<=t.hi*(U:Int):=(by rw[hlo];exact p0);have q1:t.hi*(U:Int)<=9223372036854775807:=(by rw[hlo];exact p1);have HLO:=Zh hlo;clear hT0 hlo p0 p1 hT1;go_enter Tryd.func12,Tryd.ntmps12;go_wp2_with (go_at_call 12;(with_reducible refine (HK0.out _ hB).mono ?_);rintro e w4 ⟨rfl,hb4⟩;have hB4:=gro1 (Below.refl _ _) hb4)
     all_goals
       go_ret;refine⟨congrArg Ending.returned (congrArg (Value.int .i64) ?_),hB4⟩;have e2:t.hi*(U:Int)=(Pr:Int):=(by rw[HLO.out];exact HPI.out);rw[HPL2.out];omega
theorem zti {t:T} {k:Value} {ok:Nat->Prop} (most:Bool) (w:World) (hwf:WF t) (ht:Tree w ok t k):Calls Tryd.prog 12 #[nodeP t k,.bool most] w (RetInt w (lenN most t)):=
 ztj most _ t w ok k (Nat.le_refl _) hwf ht
end
section
open Go
mutual
def LenU (most:Bool):T->Nat
 | .mk op p lo hi l=>if op=1 then 1 else if op=2 then (LenL most l).sum else if op=3 then bestN most (LenL most l) else if op=4 then (if most then hi else lo).toNat*bestN most (LenL most l) else 0
def LenL (most:Bool):List T->List Nat
 | []=>[]
 | t::ts=>LenU most t::LenL most ts
end
theorem zc0 (most:Bool) (l:List T):LenL most l=l.map (LenU most):=by
 induction l with
 | nil=>rfl
 | cons t ts ih=>simp[LenL,ih]
theorem zqc (k x L:Nat):min (k*min x L) L=min (k*x) L:=by
 rcases Nat.le_total x L with h|h
 . rw[Nat.min_eq_left h]
 . rw[Nat.min_eq_right h];cases k with
   | zero=>simp
   | succ k =>
     have h1:L<=(k+1)*L:=Nat.le_mul_of_pos_left _ (by omega);have h2:L<=(k+1)*x:=Nat.le_trans h (Nat.le_mul_of_pos_left _ (by omega));omega
theorem zen (l:List Nat) (x:Nat) (hx:x∈l):bestN false l<=x∧x<=bestN true l:=by
 have key:∀ (l:List Nat) (a x:Nat),(x=a∨x∈l)->l.foldl (best1 false) a<=x∧x<=l.foldl (best1 true) a:=by
   intro l;induction l with
   | nil=>intro a x h;simp at h;simp[h]
   | cons b l ih =>
     intro a x h;simp only[List.foldl_cons];have hb0:best1 false a b<=a∧best1 false a b<=b:=(by unfold best1;simp;omega);have hb1:a<=best1 true a b∧b<=best1 true a b:=(by unfold best1;simp;omega);have hs0:=(ih (best1 false a b) (best1 false a b) (.inl rfl)).1;have hs1:=(ih (best1 true a b) (best1 true a b) (.inl rfl)).2;rcases h with rfl|h
     . omega
     . simp only[List.mem_cons] at h;rcases h with rfl|h
       . omega
       . exact⟨(ih _ x (.inr h)).1,(ih _ x (.inr h)).2⟩
 cases l with
 | nil=>simp at hx
 | cons a l =>
   simp only[List.mem_cons] at hx;exact key l a x hx
theorem zma {xs:List Int} {t:T} (h:∀ i j,i<=xs.length->E xs t i j->i+LenU false t<=j∧j<=i+LenU true t) (hwf:WF t):∀ (m i j:Nat),i<=xs.length->iter (E xs t) m i j->i+m*LenU false t<=j∧j<=i+m*LenU true t
 | 0,i,j,hi,e=>by have e':i=j:=e;omega
 | m+1,i,j,hi,⟨k,h1,h2⟩=>by
   have a:=zma h hwf m i k hi h1;have b:=h k j (zi5 (E_bd hwf) m i k hi h1).2 h2;rw[Nat.add_mul,Nat.add_mul];omega
theorem zx7 {xs:List Int} {t:T} (ht:WF t):∀ i j,i<=xs.length->E xs t i j->i+LenU false t<=j∧j<=i+LenU true t:=by
 induction ht with
 | one p=>intro i j hi h;rw[E_one] at h;simp[LenU];omega
 | cat l h2 hN h ih =>
   intro i j hi hE;rw[zom] at hE;have e0:LenU false (.mk 2 noneP 0 0 l)=(LenL false l).sum:=(by simp[LenU]);have e1:LenU true (.mk 2 noneP 0 0 l)=(LenL true l).sum:=(by simp[LenU]);rw[e0,e1];clear h2 hN e0 e1;induction l generalizing i with
   | nil=>have e:i=j:=hE;simp[LenL];omega
   | cons t ts ih' =>
     obtain⟨k,h1,h3⟩:=hE;have a:=ih t (by simp) i k hi h1;have b:=ih' (fun x hx=>h x (by simp[hx])) (fun x hx=>ih x (by simp[hx])) k (E_bd (h t (by simp)) i k hi h1).2 h3;simp only[LenL,List.sum_cons];omega
 | alt l h2 hN h ih =>
   intro i j hi hE;rw[zon,zd8] at hE;obtain⟨t,ht,hE⟩:=hE;have a:=ih t ht i j hi hE;have e0:LenU false (.mk 3 noneP 0 0 l)=bestN false (LenL false l):=(by simp[LenU]);have e1:LenU true (.mk 3 noneP 0 0 l)=bestN true (LenL true l):=(by simp[LenU]);have b:=(zen (LenL false l) (LenU false t) (by rw[zc0];exact List.mem_map_of_mem ht)).1;have c:=(zen (LenL true l) (LenU true t) (by rw[zc0];exact List.mem_map_of_mem ht)).2;omega
 | rep m n t h0 h1 h2 h3 h ih =>
   intro i j hi hE;rw[zl4] at hE;obtain⟨k,h4,h5,hE⟩:=hE;rw[zbi] at hE;have a:=zma ih h k i j hi hE;have e0:LenU false (.mk 4 noneP m n [t])=m.toNat*LenU false t:=(by simp[LenU,LenL,bestN]);have e1:LenU true (.mk 4 noneP m n [t])=n.toNat*LenU true t:=(by simp[LenU,LenL,bestN]);rw[e0,e1];have b:m.toNat*LenU false t<=k*LenU false t:=Nat.mul_le_mul_right _ (by omega);have c:k*LenU true t<=n.toNat*LenU true t:=Nat.mul_le_mul_right _ (by omega);omega
end
section
attribute [local go_sem ↓] Go.wp_at_zero Go.wp_at_succ
theorem ziq (most:Bool) (l:List T) (j:Nat) (h:j<l.length):(LenL most (l.take (j+1))).sum=(LenL most (l.take j)).sum+LenU most (l[j]'h):=by
 rw[List.take_succ_eq_append_getElem h,zc0,zc0,List.map_append,List.sum_append];simp only[List.map_cons,List.map_nil,List.sum_cons,List.sum_nil,Nat.add_zero]
def fold0 (L:Nat) (l:List T):Nat:=(LenL false l).foldl (best1 false) L
def fold1 (l:List T):Nat:=(LenL true l).foldl (best1 true) 0
theorem zo7 (L:Nat) (l:List T) (j:Nat) (h:j<l.length):fold0 L (l.take (j+1))=min (fold0 L (l.take j)) (LenU false (l[j]'h)):=by
 unfold fold0;rw[List.take_succ_eq_append_getElem h,zc0,zc0,List.map_append,List.foldl_append];rfl
theorem zo6 (l:List T) (j:Nat) (h:j<l.length):fold1 (l.take (j+1))=max (fold1 (l.take j)) (LenU true (l[j]'h)):=by
 unfold fold1;rw[List.take_succ_eq_append_getElem h,zc0,zc0,List.map_append,List.foldl_append];rfl
theorem zml (L:Nat):∀ (l:List Nat) (a:Nat),a<=L->l.foldl (best1 false) a<=L
 | [],a,h=>h
 | b::l,a,h=>zml L l _ (by unfold best1;simp <;> omega)
theorem zrf (L:Nat) (l:List T) (h:0<l.length):fold0 L l=min (bestN false (LenL false l)) L:=by
 cases l with
 | nil=>simp at h
 | cons t ts =>
   have key:∀ (l:List Nat) (a:Nat),l.foldl (best1 false) (min L a)=min (l.foldl (best1 false) a) L:=by
     intro l;induction l with
     | nil=>intro a;simp;omega
     | cons b l ih =>
       intro a;simp only[List.foldl_cons];rw[show best1 false (min L a) b=min L (best1 false a b) by unfold best1;simp <;> omega,ih]
   exact key (LenL false ts) (LenU false t)
theorem zre (l:List T) (h:0<l.length):fold1 l=bestN true (LenL true l):=by
 cases l with
 | nil=>simp at h
 | cons t ts =>
   unfold fold1;simp only[LenL,List.foldl_cons,bestN];simp[best1]
def RetTwo (w:World) (a b:Nat) (e:Ending) (w':World):Prop:=e = .returned (.tuple #[.int .i64 a,.int .i64 b])∧Below w.heap.size w w'
theorem zhq {a b:Nat} {x y:Int} {w w':World} (h1:x=a) (h2:y=b) (hb:Below w.heap.size w w'):RetTwo w a b (.returned (.tuple #[.int .i64 x,.int .i64 y])) w':=by subst h1 h2;exact⟨rfl,hb⟩
set_option maxRecDepth 20000 in
set_option maxHeartbeats 4000000 in
theorem zwf (L:Nat) (hL1:1<=L) (hL2:L<=1000000):∀ (N:Nat) (t:T) (w:World) (ok:Nat->Prop) (k:Value) (g o:Nat),SizeOf.sizeOf t<=N->WF t->Tree w ok t k->NodeAt w g o t k->
   Calls Tryd.prog 32 #[.pointer (some ⟨g,o,none⟩),.int .i64 L] w (RetTwo w (min (LenU false t) L) (min (LenU true t) L)):=by
 intro N;induction N with
 | zero=>intro t w ok k g o h;obtain⟨op,p,lo,hi,l⟩:=t;simp at h
 | succ N ih =>
 intro t w ok k g o hN hwf ht hna;obtain⟨A,n',c,rfl⟩:=ht.form;obtain⟨hn,hm⟩:=ht.bound;have hlen:=hwf.len;rw[←hn] at hlen;unfold maxLen at hm;have hop:=hwf.op_cases;have HN:=Zh hn;have HT:=Zh ht;have HWF:=Zh hwf;have IH:=Zh ih;have HNA:=Zh hna;have hlu:∀ most,LenU most t=if t.op=1 then 1 else if t.op=2 then (LenL most t.kids).sum else if t.op=3 then bestN most (LenL most t.kids) else if t.op=4 then (if most then t.hi else t.lo).toNat*bestN most (LenL most t.kids) else 0:=by intro most;cases t;rfl
 have c0:w.cell? ⟨g,o,none⟩=_:=hna 0 _ rfl;have c5:=hna 5 _ rfl;have c6:=hna 6 _ rfl;have c7:=hna 7 _ rfl;have hB:=Below.refl w.heap.size w;clear hn ih hwf ht hna;rcases hop with ⟨h,h2,z1,z2⟩|⟨h,h2,h3,z1,z2⟩|⟨h,h2,h3,z1,z2⟩|⟨h,h2,h3,h4,h5,h6⟩
 . have hb1:(t.op==1)=true:=(by simp[h]);have e:∀ most,LenU most t=1:=fun most=>by rw[hlu most,if_pos h]
   rw[e false,e true];clear h h2 z1 z2 e hlu;go_enter Tryd.func32,Tryd.ntmps32;go_wp2;go_ret2;exact zhq (by omega) (by omega) hB
 . have hb1:(t.op==1)=false:=(by simp[h]);have hb2:(t.op==2)=true:=(by simp[h]);have e:∀ most,LenU most t=(LenL most t.kids).sum:=fun most=>by rw[hlu most,if_neg (by omega),if_pos h]
   rw[e false,e true];clear h h2 z1 z2 e hlu;go_enter Tryd.func32,Tryd.ntmps32;go_wp2;go_loopg [4,5,27] n' (fun m a b i wr=>∃ j:Nat,i = .int .i64 (j:Int)∧j<=n'∧m=n'-j∧a = .int .i64 ((min ((LenL false (t.kids.take j)).sum) L:Nat):Int)∧b = .int .i64 ((min ((LenL true (t.kids.take j)).sum) L:Nat):Int)∧Below w.heap.size w wr)
   case atStart=>exact⟨0,rfl,Nat.zero_le _,rfl,by simp[LenL],by simp[LenL],hB⟩
   case round =>
     obtain⟨j,rfl,hj,hmj,rfl,rfl,hW⟩:=hrel;have HMJ:=Zh hmj;clear hmj c0 c5 c6 c7;have c7:wr.cell? ⟨g,o+7,none⟩=_:=(HNA.out.stays hW) 7 _ rfl
     by_cases hlt:j<n'
     . have hlt':j<t.kids.length:=(by rw[←HN.out];exact hlt);obtain⟨g',B,m1,m2,e1,htk,hnk⟩:=NodeAt.kid HT.out j hlt';subst e1;have hks:=zav t j hlt';have hwk:=HWF.out.at j hlt';have hs0:=ziq false t.kids j hlt';have hs1:=ziq true t.kids j hlt';generalize t.kids[j]=u at *;have HK:=Zh (fun w' (hb:Below wr.heap.size wr w')=>IH.out u w' ok (.slice B m1 m2) g' (j*8) (by omega) hwk ((htk.stays hW).stays hb) ((hnk.stays hW).stays hb));have HS0:=Zh hs0;have HS1:=Zh hs1;clear htk hnk hks hwk hs0 hs1;unfold RetTwo at HK;obtain⟨a0,ha0⟩:∃ a,a=min ((LenL false (t.kids.take j)).sum) L:=⟨_,rfl⟩;obtain⟨a1,ha1⟩:∃ a,a=min ((LenL true (t.kids.take j)).sum) L:=⟨_,rfl⟩;obtain⟨b0,hb0⟩:∃ a,a=min (LenU false u) L:=⟨_,rfl⟩;obtain⟨b1,hb1'⟩:∃ a,a=min (LenU true u) L:=⟨_,rfl⟩;rw[←hb0,←hb1'] at HK;rw[←ha0,←ha1];have la0:a0<=L:=(by omega);have la1:a1<=L:=(by omega);have lb0:b0<=L:=(by omega);have lb1:b1<=L:=(by omega);have HA0:=Zh ha0;have HA1:=Zh ha1;have HB0:=Zh hb0;have HB1:=Zh hb1';clear ha0 ha1 hb0 hb1';go_wp2_with (go_at_call 32;(with_reducible refine (HK.out _ (Below.refl _ _)).mono ?_);rintro e w5 ⟨rfl,hb5⟩)
       all_goals
         go_roundg (n'-(j+1))
         case measure=>have:=HMJ.out;omega
         case rel =>
           have q0:=HA0.out;have q1:=HA1.out;have q2:=HB0.out;have q3:=HB1.out;refine⟨j+1,by go_num,by omega,rfl,?_,?_,gro hW hb5⟩
           . rw[HS0.out];refine congrArg (Value.int .i64) ?_;omega
           . rw[HS1.out];refine congrArg (Value.int .i64) ?_;omega
     . have hjn:j=t.kids.length:=(by rw[←HN.out];omega);have hwhole:t.kids.take j=t.kids:=(by rw[hjn];exact List.take_length);rw[hwhole];go_wp2;go_ret2;exact zhq rfl rfl hW
 . have hb1:(t.op==1)=false:=(by simp[h]);have hb2:(t.op==2)=false:=(by simp[h]);have hb3:(t.op==3)=true:=(by simp[h]);have e:∀ most,LenU most t=bestN most (LenL most t.kids):=fun most=>by rw[hlu most,if_neg (by omega),if_neg (by omega),if_pos h]
   have hk0:0<t.kids.length:=(by omega);rw[e false,e true,←zrf L t.kids hk0,←zre t.kids hk0];clear hk0;clear h h2 z1 z2 e hlu;go_enter Tryd.func32,Tryd.ntmps32;go_wp2;go_loopg [4,5,60] n' (fun m a b i wr=>∃ j:Nat,i = .int .i64 (j:Int)∧j<=n'∧m=n'-j∧a = .int .i64 ((fold0 L (t.kids.take j):Nat):Int)∧b = .int .i64 ((min (fold1 (t.kids.take j)) L:Nat):Int)∧Below w.heap.size w wr)
   case atStart=>exact⟨0,rfl,Nat.zero_le _,rfl,by simp[LenL,fold0],by simp[LenL,fold1],hB⟩
   case round =>
     obtain⟨j,rfl,hj,hmj,rfl,rfl,hW⟩:=hrel;have HMJ:=Zh hmj;clear hmj c0 c5 c6 c7;have c7:wr.cell? ⟨g,o+7,none⟩=_:=(HNA.out.stays hW) 7 _ rfl
     by_cases hlt:j<n'
     . have hlt':j<t.kids.length:=(by rw[←HN.out];exact hlt);obtain⟨g',B,m1,m2,e1,htk,hnk⟩:=NodeAt.kid HT.out j hlt';subst e1;have hks:=zav t j hlt';have hwk:=HWF.out.at j hlt';have hs0:=zo7 L t.kids j hlt';have hs1:=zo6 t.kids j hlt';generalize t.kids[j]=u at *;have HK:=Zh (fun w' (hb:Below wr.heap.size wr w')=>IH.out u w' ok (.slice B m1 m2) g' (j*8) (by omega) hwk ((htk.stays hW).stays hb) ((hnk.stays hW).stays hb));have HS0:=Zh hs0;have HS1:=Zh hs1;clear htk hnk hks hwk hs0 hs1;unfold RetTwo at HK;obtain⟨a0,ha0⟩:∃ a,a=fold0 L (t.kids.take j):=⟨_,rfl⟩;obtain⟨a1,ha1⟩:∃ a,a=min (fold1 (t.kids.take j)) L:=⟨_,rfl⟩;obtain⟨b0,hb0⟩:∃ a,a=min (LenU false u) L:=⟨_,rfl⟩;obtain⟨b1,hb1'⟩:∃ a,a=min (LenU true u) L:=⟨_,rfl⟩;rw[←hb0,←hb1'] at HK;rw[←ha0,←ha1];have la0:a0<=L:=(by rw[ha0];exact zml L _ L (Nat.le_refl _));have la1:a1<=L:=(by omega);have lb0:b0<=L:=(by omega);have lb1:b1<=L:=(by omega);have HA0:=Zh ha0;have HA1:=Zh ha1;have HB0:=Zh hb0;have HB1:=Zh hb1';clear ha0 ha1 hb0 hb1';go_wp2_with (go_at_call 32;(with_reducible refine (HK.out _ (Below.refl _ _)).mono ?_);rintro e w5 ⟨rfl,hb5⟩)
       all_goals
         go_roundg (n'-(j+1))
         case measure=>have:=HMJ.out;omega
         case rel =>
           have q0:=HA0.out;have q1:=HA1.out;have q2:=HB0.out;have q3:=HB1.out;refine⟨j+1,by go_num,by omega,rfl,?_,?_,gro hW hb5⟩
           . rw[HS0.out];refine congrArg (Value.int .i64) ?_;omega
           . rw[HS1.out];refine congrArg (Value.int .i64) ?_;omega
     . have hjn:j=t.kids.length:=(by rw[←HN.out];omega);have hwhole:t.kids.take j=t.kids:=(by rw[hjn];exact List.take_length);rw[hwhole];go_wp2;go_ret2;exact zhq rfl rfl hW
 . have hb1:(t.op==1)=false:=(by simp[h]);have hb2:(t.op==2)=false:=(by simp[h]);have hb3:(t.op==3)=false:=(by simp[h]);have hb4:(t.op==4)=true:=(by simp[h]);have h0:0<t.kids.length:=(by omega);have hn3:(0:Int)<(n':Int):=(by rw[HN.out];omega);have hone:∀ most,bestN most (LenL most t.kids)=LenU most (t.kids[0]'h0):=by
     intro most;obtain⟨u,hu⟩:=List.length_eq_one_iff.1 h2;simp[hu,LenL,bestN]
   have e:∀ most,LenU most t=(if most then t.hi else t.lo).toNat*LenU most (t.kids[0]'h0):=fun most=>by rw[hlu most,if_neg (by omega),if_neg (by omega),if_neg (by omega),if_pos h,hone]
   rw[e false,e true];obtain⟨g',B,m1,m2,e1,htk,hnk⟩:=NodeAt.kid HT.out 0 h0;subst e1;have hks:=zav t 0 h0;have hwk:=HWF.out.at 0 h0;generalize t.kids[0]=u at *;have HK:=Zh (fun w' (hb:Below w.heap.size w w')=>IH.out u w' ok (.slice B m1 m2) g' (0*8) (by omega) hwk (htk.stays hb) (hnk.stays hb));rw[Nat.zero_mul] at HK;unfold RetTwo at HK;obtain⟨lo,hlo⟩:∃ x:Nat,t.lo=x:=⟨t.lo.toNat,by omega⟩;obtain⟨hi,hhi⟩:∃ x:Nat,t.hi=x:=⟨t.hi.toNat,by omega⟩;have hloV:lo<=32:=(by omega);have hhiV:hi<=32:=(by omega);have e0:min ((if false=true then t.hi else t.lo).toNat*LenU false u) L=min (lo*min (LenU false u) L) L:=(by rw[zqc];simp[hlo]);have e1:min ((if true=true then t.hi else t.lo).toNat*LenU true u) L=min (hi*min (LenU true u) L) L:=(by rw[zqc];simp[hhi]);rw[e0,e1];generalize hb0:min (LenU false u) L=b0 at *;generalize hb1':min (LenU true u) L=b1 at *;have lb0:b0<=L:=(by omega);have lb1:b1<=L:=(by omega);have pr0:lo*b0<=32*1000000:=Nat.mul_le_mul hloV (by omega);have pr1:hi*b1<=32*1000000:=Nat.mul_le_mul hhiV (by omega);have f0:(lo:Int)*(b0:Int)=((lo*b0:Nat):Int):=(by simp);have f1:(hi:Int)*(b1:Int)=((hi*b1:Nat):Int):=(by simp);rw[hlo] at c5;rw[hhi] at c6;have i0:(0:Int)<=(lo:Int)*(b0:Int):=(by rw[f0];omega);have i1:(lo:Int)*(b0:Int)<=9223372036854775807:=(by rw[f0];omega);have i2:(0:Int)<=(hi:Int)*(b1:Int):=(by rw[f1];omega);have i3:(hi:Int)*(b1:Int)<=9223372036854775807:=(by rw[f1];omega);have F0:=Zh f0;have F1:=Zh f1;clear h hlu hone e e0 e1 htk hnk hks hwk h2 h3 h4 h5 h6 hlo hhi hb0 hb1' f0 f1 h0 pr0 pr1;generalize hP0:lo*b0=P0 at *;generalize hP1:hi*b1=P1 at *;clear hP0 hP1;go_enter Tryd.func32,Tryd.ntmps32;go_wp2_with (go_at_call 32;(with_reducible refine (HK.out _ (Below.refl _ _)).mono ?_);rintro e w5 ⟨rfl,hb5⟩;have d5:=za2 c5 hb5;have d6:=za2 c6 hb5)
   by_cases q0:(lo:Int)*(b0:Int)<=(L:Int)
   all_goals
     by_cases q1:(hi:Int)*(b1:Int)<=(L:Int)
     all_goals
       go_region
       all_goals
         go_wp2;go_ret2;have g0:=F0.out;have g1:=F1.out;exact zhq (by omega) (by omega) (hb5.drew)
theorem zwe {t:T} {k:Value} {ok:Nat->Prop} (w:World) (L:Nat) (hL1:1<=L) (hL2:L<=1000000) (g o:Nat) (hwf:WF t) (ht:Tree w ok t k) (hn:NodeAt w g o t k):
   Calls Tryd.prog 32 #[.pointer (some ⟨g,o,none⟩),.int .i64 L] w (RetTwo w (min (LenU false t) L) (min (LenU true t) L)):=
 zwf L hL1 hL2 _ t w ok k g o (Nat.le_refl _) hwf ht hn
end
end Go.Proofs.YtgbdanddbgomhaaDoor
