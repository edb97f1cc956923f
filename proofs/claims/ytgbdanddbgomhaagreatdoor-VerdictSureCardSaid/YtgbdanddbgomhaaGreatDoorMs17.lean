import Derived.Test.YtgbdanddbgomhaaGreatDoorMs13
import Derived.Test.YtgbdanddbgomhaaGreatDoorMs14
import Derived.Deep.CutRange
import Derived.Deep.CutBlock
set_option linter.unusedVariables false
set_option linter.unusedSimpArgs false
namespace Go.Proofs.YtgbdanddbgomhaaGreatDoor
open Go Go.RowKit
def best1 (most:Bool) (a b:Nat):Nat:=if most then max a b else min a b
def bestN (most:Bool):List Nat->Nat
 | []=>0
 | a::l=>l.foldl (best1 most) a
mutual
def lenN (most:Bool):T->Nat
 | .mk op p lo hi l=>min (if op=1 then 1 else if op=2 then (lenL most l).sum else if op=3 then bestN most (lenL most l) else if op=4 then (if most then hi else lo).toNat*bestN most (lenL most l) else 0) 1000
def lenL (most:Bool):List T->List Nat
 | []=>[]
 | t::ts=>lenN most t::lenL most ts
end
theorem zef (most:Bool) (l:List T):lenL most l=l.map (lenN most):=by
 induction l with
 | nil=>rfl
 | cons t ts ih=>simp[lenL,ih]
section
attribute [local go_sem ↓] Go.wp_at_zero Go.wp_at_succ
mutual
def plN:T->Nat
 | .mk op p lo hi l=>min (((if op=1 then 1 else 0)+plSum l)*(if op=4 then hi.toNat else 1)) 1000
def plSum:List T->Nat
 | []=>0
 | t::ts=>plN t+plSum ts
end
theorem zm8 (t:T):plN t<=1000:=by cases t;unfold plN;omega
theorem zf1:∀ (l l':List T),plSum (l++l')=plSum l+plSum l'
 | [],l'=>by simp[plSum]
 | t::ts,l'=>by simp[plSum,zf1 ts l'];omega
theorem zi5 (l:List T) (j:Nat) (h:j<l.length):plSum (l.take (j+1))=plSum (l.take j)+plN (l[j]'h):=by
 rw[List.take_succ_eq_append_getElem h,zf1];simp[plSum]
theorem ze9:∀ (l:List T),plSum l<=1000*l.length
 | []=>by simp[plSum]
 | t::ts=>by
   have:=ze9 ts;have:=zm8 t;simp[plSum];omega
def nodeP (t:T) (k:Value):Value := .agg #[.int .i64 t.op,.int .u64 (word t.set 0),.int .u64 (word t.set 1),.int .u64 (word t.set 2),.int .u64 (word t.set 3),.int .i64 t.lo,.int .i64 t.hi,k]
theorem WF.op_cases {t:T} (h:WF t):(t.op=1∧t.kids=[]∧t.lo=0∧t.hi=0)∨(t.op=2∧2<=t.kids.length∧t.kids.length<=202∧t.lo=0∧t.hi=0)∨(t.op=3∧2<=t.kids.length∧t.kids.length<=202∧t.lo=0∧t.hi=0)∨
   (t.op=4∧t.kids.length=1∧0<=t.lo∧t.lo<=t.hi∧1<=t.hi∧t.hi<=32):=by
 cases h with
 | one p=>exact .inl ⟨rfl,rfl,rfl,rfl⟩
 | cat l h2 hN h=>exact .inr (.inl ⟨rfl,h2,hN,rfl,rfl⟩)
 | alt l h2 hN h=>exact .inr (.inr (.inl ⟨rfl,h2,hN,rfl,rfl⟩))
 | rep m n t h0 h1 h2 h3 h=>exact .inr (.inr (.inr ⟨rfl,rfl,h0,h1,h2,h3⟩))
theorem WF.len {t:T} (h:WF t):t.kids.length<=202:=by
 rcases h.op_cases with h|h|h|h
 . rw[h.2.1];decide
 . exact h.2.2.1
 . exact h.2.2.1
 . rw[h.2.1];decide
theorem WF.kid {t:T} (h:WF t) {u:T} (hu:u∈t.kids):WF u:=by
 cases h with
 | one p=>simp[T.kids] at hu
 | cat l h2 hN h=>exact h u hu
 | alt l h2 hN h=>exact h u hu
 | rep m n t h0 h1 h2 h3 h=>simp[T.kids] at hu;rw[hu];exact h
theorem WF.at {t:T} (h:WF t) (j:Nat) (hj:j<t.kids.length):WF (t.kids[j]'hj):=h.kid (List.getElem_mem hj)
def RetInt (w:World) (n:Int) (e:Ending) (w':World):Prop:=e = .returned (.int .i64 n)∧Below w.heap.size w w'
set_option maxRecDepth 20000 in
set_option maxHeartbeats 2000000 in
theorem zla:∀ (N:Nat) (t:T) (w:World) (ok:Nat->Prop) (k:Value),SizeOf.sizeOf t<=N->WF t->Tree w ok t k->
   Calls Tryz.prog 15 #[nodeP t k] w (RetInt w (plN t)):=by
 intro N;induction N with
 | zero=>intro t w ok k h;obtain⟨op,p,lo,hi,l⟩:=t;simp at h
 | succ N ih =>
 intro t w ok k hN hwf ht;obtain⟨A,n',c,rfl⟩:=ht.form;obtain⟨hn,hm⟩:=ht.bound;have hlen:=hwf.len;rw[←hn] at hlen;unfold maxLen at hm;have hop:=hwf.op_cases;have b1:=Box8.new w t (.slice A n' c);have hB:Below w.heap.size w (w.alloc (.cells #[.int .i64 t.op,.int .u64 (word t.set 0),.int .u64 (word t.set 1),.int .u64 (word t.set 2),.int .u64 (word t.set 3),.int .i64 t.lo,.int .i64 t.hi,.slice A n' c] 41)):=(Below.refl _ _).alloc (Nat.le_refl _) _;have hpl:plN t=min (((if t.op=1 then 1 else 0)+plSum t.kids)*(if t.op=4 then t.hi.toNat else 1)) 1000:=(by cases t;rfl);have hsum:=ze9 t.kids;have HPL:=Zh hpl;have HSUM:=Zh hsum;have HWF:=Zh hwf;have HOP:=Zh hop;have HN:=Zh hn;have HT:=Zh ht;have IH:=Zh ih;have HB1:=Zh b1;have HM:=Zh hm;clear hn ih hpl hsum hwf hop;unfold nodeP;cases hb1:(t.op==1)
 all_goals
   cases hb4:(t.op==4)
   all_goals
     go_enter Tryz.func15,Tryz.ntmps15;go_wp2;go_loopg [3,4] n' (fun m k i wr=>∃ j:Nat,i = .int .i64 (j:Int)∧j<=n'∧m=n'-j∧k = .int .i64 (((if t.op=1 then 1 else 0)+plSum (t.kids.take j):Nat):Int)∧Box8 wr w.heap.size t (.slice A n' c)∧Below w.heap.size w wr)
     case atStart=>exact⟨0,rfl,Nat.zero_le _,rfl,by first | (rw[if_pos (by simpa using hb1)];rfl) | (rw[if_neg (by simpa using hb1)];rfl),HB1.out,hB⟩
     case round =>
       obtain⟨j,rfl,hj,hmj,rfl,x1,hW⟩:=hrel;have HMJ:=Zh hmj;obtain⟨c0,c1,c2,c3,c4,c5,c6,c7⟩:=x1.cell;clear b1 hmj
       by_cases hlt:j<n'
       . have hlt':j<t.kids.length:=(by rw[←HN.out];exact hlt);obtain⟨g,B,m1,m2,e1,hg1,htk,hcells⟩:=kid8 HT.out j (List.getElem?_eq_getElem hlt');subst e1;have hks:=zc8 t j hlt';have hwk:=HWF.out.at j hlt';have hst:=zi5 t.kids j hlt';have hsl:=ze9 (t.kids.take j);rw[List.length_take] at hsl;have hpu:=zm8 (t.kids[j]'hlt');generalize t.kids[j]=u at *;have HC:∀ q v,(nodeC u (.slice B m1 m2))[q]?=some v->wr.cell? ⟨g,j*8+q,none⟩=some v:=fun q v h=>by rw[Nat.mul_comm j 8];exact (hW.cell (p:=⟨g,8*j+q,none⟩) hg1).trans (hcells q v h)
         have k0:wr.cell? ⟨g,j*8,none⟩=_:=HC 0 _ rfl;have k1:=HC 1 _ rfl;have k2:=HC 2 _ rfl;have k3:=HC 3 _ rfl;have k4:=HC 4 _ rfl;have k5:=HC 5 _ rfl;have k6:=HC 6 _ rfl;have k7:=HC 7 _ rfl;have HK:=Zh (fun w' (hb:Below wr.heap.size wr w')=>IH.out u w' ok (.slice B m1 m2) (by omega) hwk ((htk.stays hW).stays hb));have HST:=Zh hst;clear HC hcells htk hks hwk hst;unfold nodeP RetInt at HK;have ha:((if t.op=1 then 1 else 0:Nat))<=1:=by split <;> omega
         generalize hS:(if t.op=1 then 1 else 0:Nat)=a0 at *;generalize plSum (t.kids.take j)=S at *;have hS2:S<=202000:=(by omega);clear hS;go_wp2_with (go_at_call 15;(with_reducible refine (HK.out _ (Below.refl _ _)).mono ?_);rintro e w5 ⟨rfl,hb5⟩);go_roundg (n'-(j+1))
         case measure=>have:=HMJ.out;omega
         case rel=>exact⟨j+1,by go_num,by omega,rfl,by rw[HST.out];go_num,x1.stays hb5,gro hW hb5⟩
       . have hjn:j=t.kids.length:=(by rw[←HN.out];omega);have hwhole:t.kids.take j=t.kids:=(by rw[hjn];exact List.take_length);rw[hwhole];have hS2:=HSUM.out;have ha:((if t.op=1 then 1 else 0:Nat))<=1:=by split <;> omega
         have hpl':=HPL.out;rw[show t.kids.length=n' from HN.out.symm] at hS2;generalize hS:(if t.op=1 then 1 else 0:Nat)=a0 at *;generalize plSum t.kids=S at *
         by_cases h4:t.op=4
         . first
             | (exfalso;simp[h4] at hb4;done)
             | skip
           all_goals
             rw[if_pos h4] at hpl';have hh:=HOP.out;have hh2:1<=t.hi∧t.hi<=32:=(by omega);obtain⟨hi0,hi1⟩:=hh2;obtain⟨hN,hNe⟩:∃ hN:Nat,t.hi=hN:=⟨t.hi.toNat,by omega⟩;have hpr:(a0+S)*hN<=202001*32:=Nat.mul_le_mul (by omega) (by omega);rw[hNe,Int.toNat_natCast] at hpl';have hprod:((a0:Int)+(S:Int))*(hN:Int)=(((a0+S)*hN:Nat):Int):=(by simp);generalize (a0+S)*hN=Pr at hpl' hpr hprod;have HPL2:=Zh hpl';have HPR:=Zh hprod;rw[hNe] at c6;have p0:(0:Int)<=((a0:Int)+(S:Int))*(hN:Int):=(by rw[hprod];omega);have p1:((a0:Int)+(S:Int))*(hN:Int)<=9223372036854775807:=(by rw[hprod];omega);clear hpl' hNe hh h4 hS hprod hi0 hi1;go_wp2
             all_goals
               go_ret;refine⟨congrArg Ending.returned (congrArg (Value.int .i64) ?_),hW⟩;have e1:=HPL2.out;have e2:=HPR.out;rw[e1];omega
         . first
             | (exfalso;simp at hb4;exact h4 hb4)
             | skip
           all_goals
             rw[if_neg h4,Nat.mul_one] at hpl';have HPL2:=Zh hpl';clear hpl' h4 hS;go_wp2
             all_goals
               go_ret;refine⟨congrArg Ending.returned (congrArg (Value.int .i64) ?_),hW⟩;rw[HPL2.out];omega
theorem zl9 {t:T} {k:Value} {ok:Nat->Prop} (w:World) (hwf:WF t) (ht:Tree w ok t k):Calls Tryz.prog 15 #[nodeP t k] w (RetInt w (plN t)):=
 zla _ t w ok k (Nat.le_refl _) hwf ht
end
section
open Go
mutual
def LenU (most:Bool):T->Nat
 | .mk op p lo hi l=>if op=1 then 1 else if op=2 then (LenL most l).sum else if op=3 then bestN most (LenL most l) else if op=4 then (if most then hi else lo).toNat*bestN most (LenL most l) else 0
def LenL (most:Bool):List T->List Nat
 | []=>[]
 | t::ts=>LenU most t::LenL most ts
end
theorem zak (most:Bool) (l:List T):LenL most l=l.map (LenU most):=by
 induction l with
 | nil=>rfl
 | cons t ts ih=>simp[LenL,ih]
theorem zk4 (L:Nat) (f:T->Nat):∀ (l:List T),min ((l.map fun x=>min (f x) L).sum) L=min ((l.map f).sum) L
 | []=>rfl
 | t::ts=>by
   have ih:=zk4 L f ts;simp only[List.map_cons,List.sum_cons];omega
theorem zkq (most:Bool) (a b L:Nat):best1 most (min a L) (min b L)=min (best1 most a b) L:=by
 unfold best1;split <;> omega
theorem zfd (most:Bool) (L:Nat) (f:T->Nat):∀ (l:List T) (a:Nat),(l.map fun x=>min (f x) L).foldl (best1 most) (min a L)=min ((l.map f).foldl (best1 most) a) L
 | [],a=>rfl
 | t::ts,a=>by
   simp only[List.map_cons,List.foldl_cons];rw[zkq,zfd most L f ts]
theorem zlk (most:Bool) (L:Nat) (f:T->Nat) (l:List T):bestN most (l.map fun x=>min (f x) L)=min (bestN most (l.map f)) L:=by
 cases l with
 | nil=>simp[bestN]
 | cons t ts=>exact zfd most L f ts (f t)
theorem zgb (k x L:Nat):min (k*min x L) L=min (k*x) L:=by
 rcases Nat.le_total x L with h|h
 . rw[Nat.min_eq_left h]
 . rw[Nat.min_eq_right h];cases k with
   | zero=>simp
   | succ k =>
     have h1:L<=(k+1)*L:=Nat.le_mul_of_pos_left _ (by omega);have h2:L<=(k+1)*x:=Nat.le_trans h (Nat.le_mul_of_pos_left _ (by omega));omega
theorem zee (most:Bool) {t:T} (h:WF t):lenN most t=min (LenU most t) 1000:=by
 induction h with
 | one p=>simp[lenN,LenU]
 | cat l h2 hN h ih =>
   have e:l.map (lenN most)=l.map fun x=>min (LenU most x) 1000:=List.map_congr_left ih
   simp only[lenN,LenU,zef,zak,e];simp;exact zk4 1000 (LenU most) l
 | alt l h2 hN h ih =>
   have e:l.map (lenN most)=l.map fun x=>min (LenU most x) 1000:=List.map_congr_left ih
   simp only[lenN,LenU,zef,zak,e];simp;rw[zlk];omega
 | rep m n t h0 h1 h2 h3 h ih =>
   simp only[lenN,LenU,zef,zak];simp[bestN];rw[ih];exact zgb _ _ _
theorem zci (l:List Nat) (x:Nat) (hx:x∈l):bestN false l<=x∧x<=bestN true l:=by
 have key:∀ (l:List Nat) (a x:Nat),(x=a∨x∈l)->l.foldl (best1 false) a<=x∧x<=l.foldl (best1 true) a:=by
   intro l;induction l with
   | nil=>intro a x h;simp at h;simp[h]
   | cons b l ih =>
     intro a x h;simp only[List.foldl_cons];have hb0:best1 false a b<=a∧best1 false a b<=b:=(by unfold best1;simp;omega);have hb1:a<=best1 true a b∧b<=best1 true a b:=(by unfold best1;simp;omega);have hs0:=(ih (best1 false a b) (best1 false a b) (.inl rfl)).1;have hs1:=(ih (best1 true a b) (best1 true a b) (.inl rfl)).2;rcases h with rfl|h
     . omega
     . simp only[List.mem_cons] at h;rcases h with rfl|h
       . omega
       . exact⟨(ih _ x (.inr h)).1,(ih _ x (.inr h)).2⟩
 cases l with
 | nil=>simp at hx
 | cons a l =>
   simp only[List.mem_cons] at hx;exact key l a x hx
theorem zh6 {xs:List Int} {t:T} (h:∀ i j,i<=xs.length->E xs t i j->i+LenU false t<=j∧j<=i+LenU true t) (hwf:WF t):∀ (m i j:Nat),i<=xs.length->iter (E xs t) m i j->i+m*LenU false t<=j∧j<=i+m*LenU true t
 | 0,i,j,hi,e=>by have e':i=j:=e;omega
 | m+1,i,j,hi,⟨k,h1,h2⟩=>by
   have a:=zh6 h hwf m i k hi h1;have b:=h k j (zeg (E_bd hwf) m i k hi h1).2 h2;rw[Nat.add_mul,Nat.add_mul];omega
theorem zni {xs:List Int} {t:T} (ht:WF t):∀ i j,i<=xs.length->E xs t i j->i+LenU false t<=j∧j<=i+LenU true t:=by
 induction ht with
 | one p=>intro i j hi h;rw[zm6] at h;simp[LenU];omega
 | cat l h2 hN h ih =>
   intro i j hi hE;rw[zks] at hE;have e0:LenU false (.mk 2 noneP 0 0 l)=(LenL false l).sum:=(by simp[LenU]);have e1:LenU true (.mk 2 noneP 0 0 l)=(LenL true l).sum:=(by simp[LenU]);rw[e0,e1];clear h2 hN e0 e1;induction l generalizing i with
   | nil=>have e:i=j:=hE;simp[LenL];omega
   | cons t ts ih' =>
     obtain⟨k,h1,h3⟩:=hE;have a:=ih t (by simp) i k hi h1;have b:=ih' (fun x hx=>h x (by simp[hx])) (fun x hx=>ih x (by simp[hx])) k (E_bd (h t (by simp)) i k hi h1).2 h3;simp only[LenL,List.sum_cons];omega
 | alt l h2 hN h ih =>
   intro i j hi hE;rw[zkt,zbr] at hE;obtain⟨t,ht,hE⟩:=hE;have a:=ih t ht i j hi hE;have e0:LenU false (.mk 3 noneP 0 0 l)=bestN false (LenL false l):=(by simp[LenU]);have e1:LenU true (.mk 3 noneP 0 0 l)=bestN true (LenL true l):=(by simp[LenU]);have b:=(zci (LenL false l) (LenU false t) (by rw[zak];exact List.mem_map_of_mem ht)).1;have c:=(zci (LenL true l) (LenU true t) (by rw[zak];exact List.mem_map_of_mem ht)).2;omega
 | rep m n t h0 h1 h2 h3 h ih =>
   intro i j hi hE;rw[ziw] at hE;obtain⟨k,h4,h5,hE⟩:=hE;rw[zbq] at hE;have a:=zh6 ih h k i j hi hE;have e0:LenU false (.mk 4 noneP m n [t])=m.toNat*LenU false t:=(by simp[LenU,LenL,bestN]);have e1:LenU true (.mk 4 noneP m n [t])=n.toNat*LenU true t:=(by simp[LenU,LenL,bestN]);rw[e0,e1];have b:m.toNat*LenU false t<=k*LenU false t:=Nat.mul_le_mul_right _ (by omega);have c:k*LenU true t<=n.toNat*LenU true t:=Nat.mul_le_mul_right _ (by omega);omega
end
section
attribute [local go_sem ↓] Go.wp_at_zero Go.wp_at_succ
end
mutual
def anyP:T->Nat->Bool
 | .mk op p lo hi l=>fun x=>p x||anyL l x
def anyL:List T->Nat->Bool
 | []=>fun _=>false
 | t::ts=>fun x=>anyP t x||anyL ts x
end
theorem znd (t:T):anyP t=orP t.set (anyL t.kids):=by cases t;rfl
theorem zm5 (l l':List T) (x:Nat):anyL (l++l') x=(anyL l x||anyL l' x):=by
 induction l with
 | nil=>rfl
 | cons t ts ih=>simp[anyL,ih,Bool.or_assoc]
theorem zkr (l:List T) (j:Nat) (h:j<l.length) (x:Nat):anyL (l.take (j+1)) x=(anyL (l.take j) x||anyP (l[j]'h) x):=by
 rw[List.take_succ_eq_append_getElem h,zm5];simp[anyL]
def RetSetOf (w:World) (p:Nat->Bool) (e:Ending) (w':World):Prop:=e = .returned (setV p)∧Below w.heap.size w w'
theorem Box8.put4 {w:World} {g g':Nat} {t:T} {k:Value} (h:Box8 w g t k) (hg:g≠g') (q:Nat->Bool):Box8 (Go.Proofs.YtgbdanddbgomhaaGreatDoor.put4 w g' q) g t k:=by
 unfold Box8 Go.Proofs.YtgbdanddbgomhaaGreatDoor.put4 at *;rw[Below.heap_setCell _ _ _ _ hg,Below.heap_setCell _ _ _ _ hg,Below.heap_setCell _ _ _ _ hg,Below.heap_setCell _ _ _ _ hg];exact h
theorem zda {xs:List Int} (l:List T) (j:Nat) (h:j<l.length) (i x:Nat):EAny xs (l.take (j+1)) i x↔EAny xs (l.take j) i x∨E xs (l[j]'h) i x:=by
 rw[List.take_succ_eq_append_getElem h,zbr,zbr];simp only[List.mem_append,List.mem_singleton];constructor
 . rintro⟨t,h1|h1,h2⟩
   . exact .inl ⟨t,h1,h2⟩
   . exact .inr (h1▸h2)
 . rintro (⟨t,h1,h2⟩|h2)
   . exact⟨t,.inl h1,h2⟩
   . exact⟨_,.inr rfl,h2⟩
theorem zfm {xs:List Int} (l:List T) (j:Nat) (h:j<l.length) (i x:Nat):ECat xs (l.take (j+1)) i x↔∃ y,ECat xs (l.take j) i y∧E xs (l[j]'h) y x:=by
 rw[List.take_succ_eq_append_getElem h,zhh];simp[ECat]
section
attribute [local go_sem ↓] Go.wp_at_zero Go.wp_at_succ
set_option maxRecDepth 20000 in
set_option maxHeartbeats 4000000 in
theorem zk6:∀ (N:Nat) (t:T) (w:World) (ok:Nat->Prop) (k:Value),SizeOf.sizeOf t<=N->WF t->Tree w ok t k->
   Calls Tryz.prog 14 #[nodeP t k] w (RetSetOf w (anyP t)):=by
 intro N;induction N with
 | zero=>intro t w ok k h;obtain⟨op,p,lo,hi,l⟩:=t;simp at h
 | succ N ih =>
 intro t w ok k hN hwf ht;obtain⟨A,n',c,rfl⟩:=ht.form;obtain⟨hn,hm⟩:=ht.bound;have hlen:=hwf.len;rw[←hn] at hlen;unfold maxLen at hm;have b1:=((Box8.new w t (.slice A n' c)).alloc (.cells #[.int .u64 0,.int .u64 0,.int .u64 0,.int .u64 0] 38)).alloc (.cells #[.int .u64 (word t.set 0),.int .u64 (word t.set 1),.int .u64 (word t.set 2),.int .u64 (word t.set 3)] 38);have bR:=(Box4.new0 (w.alloc (.cells #[.int .i64 t.op,.int .u64 (word t.set 0),.int .u64 (word t.set 1),.int .u64 (word t.set 2),.int .u64 (word t.set 3),.int .i64 t.lo,.int .i64 t.hi,.slice A n' c] 41))).alloc (.cells #[.int .u64 (word t.set 0),.int .u64 (word t.set 1),.int .u64 (word t.set 2),.int .u64 (word t.set 3)] 38);have bS:=Box4.new ((w.alloc (.cells #[.int .i64 t.op,.int .u64 (word t.set 0),.int .u64 (word t.set 1),.int .u64 (word t.set 2),.int .u64 (word t.set 3),.int .i64 t.lo,.int .i64 t.hi,.slice A n' c] 41)).alloc (.cells #[.int .u64 0,.int .u64 0,.int .u64 0,.int .u64 0] 38)) t.set;have hB:Below w.heap.size w (((w.alloc (.cells #[.int .i64 t.op,.int .u64 (word t.set 0),.int .u64 (word t.set 1),.int .u64 (word t.set 2),.int .u64 (word t.set 3),.int .i64 t.lo,.int .i64 t.hi,.slice A n' c] 41)).alloc (.cells #[.int .u64 0,.int .u64 0,.int .u64 0,.int .u64 0] 38)).alloc (.cells #[.int .u64 (word t.set 0),.int .u64 (word t.set 1),.int .u64 (word t.set 2),.int .u64 (word t.set 3)] 38)):=(((Below.refl _ _).alloc (Nat.le_refl _) _).alloc (by simp) _).alloc (by simp;omega) _;rw[World.size_alloc] at bR bS;rw[World.size_alloc] at bS;have HN:=Zh hn;have HT:=Zh ht;have HWF:=Zh hwf;have HB1:=Zh b1;have HBR:=Zh bR;have HBS:=Zh bS;have IH:=Zh ih;clear hn ih hwf ht b1 bR bS;unfold nodeP;go_enter Tryz.func14,Tryz.ntmps14;go_wp2;go_loopg [11] n' (fun m i wr=>∃ j:Nat,i = .int .i64 (j:Int)∧j<=n'∧m=n'-j∧Box8 wr w.heap.size t (.slice A n' c)∧Box4 wr (w.heap.size+1) noneP∧Box4 wr (w.heap.size+1+1) (orP t.set (anyL (t.kids.take j)))∧Below w.heap.size w wr)
 case atStart=>exact⟨0,rfl,Nat.zero_le _,rfl,HB1.out,HBR.out,HBS.out.congr fun x _=>by simp[orP,anyL],hB⟩
 case round =>
   obtain⟨j,rfl,hj,hmj,x1,xR,xS,hW⟩:=hrel;have HMJ:=Zh hmj;obtain⟨c0,c1,c2,c3,c4,c5,c6,c7⟩:=x1.cell;obtain⟨s0,s1,s2,s3⟩:=xS.cell;obtain⟨f0,f1,f2,f3⟩:=xS.frozen;clear hmj
   by_cases hlt:j<n'
   . have hlt':j<t.kids.length:=(by rw[←HN.out];exact hlt);obtain⟨g,B,m1,m2,e1,hg1,htk,hcells⟩:=kid8 HT.out j (List.getElem?_eq_getElem hlt');subst e1;have hks:=zc8 t j hlt';have hwk:=HWF.out.at j hlt';have hst:=zkr t.kids j hlt';generalize t.kids[j]=u at *;have HC:∀ q v,(nodeC u (.slice B m1 m2))[q]?=some v->wr.cell? ⟨g,j*8+q,none⟩=some v:=fun q v h=>by rw[Nat.mul_comm j 8];exact (hW.cell (p:=⟨g,8*j+q,none⟩) hg1).trans (hcells q v h)
     have k0:wr.cell? ⟨g,j*8,none⟩=_:=HC 0 _ rfl;have k1:=HC 1 _ rfl;have k2:=HC 2 _ rfl;have k3:=HC 3 _ rfl;have k4:=HC 4 _ rfl;have k5:=HC 5 _ rfl;have k6:=HC 6 _ rfl;have k7:=HC 7 _ rfl;have HK:=Zh (fun w' (hb:Below wr.heap.size wr w')=>IH.out u w' ok (.slice B m1 m2) (by omega) hwk ((htk.stays hW).stays hb));have HST:=Zh hst;have j0:(0:Int)<=(j:Int):=(by omega);have j1:(j:Int)<(n':Int):=(by omega);clear HC hcells htk hks hwk hst;unfold nodeP RetSetOf at HK;generalize hq:orP t.set (anyL (t.kids.take j))=q at *;have HQ:=Zh hq;clear hq;have hls:=xS.lt;go_wp2_with fail;go_region_law (first
       | (go_simp;go_at_call 14;(with_reducible refine (HK.out _ (by first | exact ((Below.refl _ _).alloc (Nat.le_refl _) _).drew | exact (Below.refl _ _).alloc (Nat.le_refl _) _)).mono ?_);rintro e w5 ⟨rfl,hb5⟩;unfold setV;have hb5':=zar hb5;obtain⟨n0,n1,n2,n3⟩:=((xS.alloc _).stays hb5').cell)
       | (go_simp;go_at_call 32;(with_reducible refine (or_p q (anyP u) _).mono ?_);rintro e w6 ⟨rfl,hb6⟩;unfold setV;obtain⟨z0,z1,z2,z3⟩:=(((xS.alloc _).stays hb5').stays hb6).cell;obtain⟨y0,y1,y2,y3⟩:=(((xS.alloc _).stays hb5').stays hb6).frozen))
     all_goals
       go_wp2;go_roundg (n'-(j+1))
       case measure=>have:=HMJ.out;omega
       case rel =>
         have hz:=hW.size;refine⟨j+1,by go_num,by omega,rfl,(((x1.alloc _).stays hb5').stays hb6).put4 (by omega) _,(((xR.alloc _).stays hb5').stays hb6).putFar (by omega) _,((((xS.alloc _).stays hb5').stays hb6).put (orP q (anyP u))).congr (fun x _=>?_),zbb (gro (gro1 hW hb5') hb6) (by omega) _⟩;rw[←HQ.out];simp[orP,HST.out x,Bool.or_assoc]
   . have hjn:j=t.kids.length:=(by rw[←HN.out];omega);have hwhole:t.kids.take j=t.kids:=(by rw[hjn];exact List.take_length);rw[hwhole,←znd] at xS;clear s0 s1 s2 s3 f0 f1 f2 f3;obtain⟨s0,s1,s2,s3⟩:=xS.cell;obtain⟨r0,r1,r2,r3⟩:=xR.frozen;obtain⟨r4,r5,r6,r7⟩:=xR.cell;have hz:=hW.size;have hlr:=xR.lt;go_wp2;have y:=(xR.put (anyP t)).cell;unfold put4 at y;obtain⟨y0,y1,y2,y3⟩:=y;refine bodyPost_ret (v:=setV (anyP t)) ?_ rfl ⟨rfl,zbb (g:=w.heap.size+1) hW (by omega) (anyP t)⟩;unfold setV;simp[results,Tryz.results14,go_sem,y0,y1,y2,y3]
theorem zbl {t:T} {k:Value} {ok:Nat->Prop} (w:World) (hwf:WF t) (ht:Tree w ok t k):Calls Tryz.prog 14 #[nodeP t k] w (RetSetOf w (anyP t)):=
 zk6 _ t w ok k (Nat.le_refl _) hwf ht
end
section
attribute [local go_sem ↓] Go.wp_at_zero Go.wp_at_succ
def Lists (P:Nat->Prop) (l:List Int):Prop:=l.Nodup∧∀ x,x∈l↔∃ j:Nat,x=j∧P j
def addAll (l:List Int):List Int->List Int
 | []=>l
 | a::bs=>addAll (addL l a) bs
def RetEnds (w:World) (P:Nat->Prop) (e:Ending) (w':World):Prop:=∃ v l,e = .returned v∧Ints w' w.heap.size v l∧Lists P l∧Below w.heap.size w w'
structure EndsAsk (w:World) (ok:Nat->Prop) (t:T) (k:Value) (xs:List Int) (A:Option Addr) (i:Nat):Prop where
 wf:WF t
 tree:Tree w ok t k
 rd:RdB w w.heap.size A xs
 byte:∀ k,k<xs.length->0<=xs.getD k 0∧xs.getD k 0<=255
 len:xs.length<=100000
 le:i<=xs.length
structure Two (w:World) (B:Nat) (vo:Value) (lo:List Int) (C:Nat) (vl:Value) (l:List Int):Prop where
 out:Ints w B vo lo
 one:Ints w C vl l
 apart:∀ g,vo.ownBlock=some g->vl.ownBlock≠some g
def EndsFor (N:Nat):Prop:=∀ (t:T) (w:World) (ok:Nat->Prop) (k:Value) (xs:List Int) (A:Option Addr) (i c:Nat),SizeOf.sizeOf t<=N->EndsAsk w ok t k xs A i->
   Calls Tryz.prog 47 #[nodeP t k,.slice A xs.length c,.int .i64 i] w (RetEnds w (E xs t i))
end
section
attribute [local go_sem ↓] Go.wp_at_zero Go.wp_at_succ
end
section
attribute [local go_sem ↓] Go.wp_at_zero Go.wp_at_succ
def outP (Rl:Nat->Nat->Prop) (lo j i:Nat):Nat->Prop:=fun x=>∃ m,lo<=m∧m<j∧iter Rl m i x
end
section
attribute [local go_sem ↓] Go.wp_at_zero Go.wp_at_succ
end
end Go.Proofs.YtgbdanddbgomhaaGreatDoor
