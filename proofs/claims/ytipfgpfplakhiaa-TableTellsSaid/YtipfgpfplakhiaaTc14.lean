import Derived.Test.YtipfgpfplakhiaaTc12
set_option linter.unusedVariables false
set_option linter.unusedSimpArgs false
set_option maxRecDepth 20000
set_option maxHeartbeats 4000000
namespace Go.Proofs.Ytipfgpfplakhiaa
open Go
theorem zj3:∀ (l m:List T),plTL (l++m)=plTL l+plTL m
 | [],m=>by simp[plTL]
 | t::l,m=>by simp only[yic,plTL];rw[zj3 l m];omega
theorem zeu (l:List T) (j:Nat) (h:j<l.length):plTL (l.take (j+1))=plTL (l.take j)+plT (l[j]'h):=by
 rw[yh2 h,zj3];simp[plTL]
theorem zi2 (l:List T) (k:Nat):plTL (l.take k)<=plTL l:=by
 have h:=yis k l;have:=zj3 (l.take k) (l.drop k);rw[h] at this;omega
theorem zsv:∀ (l m:List T) (a:Nat),altF (l++m) a=altF l a++altF m (a+plTL l)
 | [],m,a=>by simp[altF,plTL]
 | t::l,m,a=>by
  simp only[yic,altF,plTL];rw[zsv l m,yhe,Nat.add_assoc]
theorem zyv (l:List T) (j:Nat) (h:j<l.length) (a:Nat):altF (l.take (j+1)) a=altF (l.take j) a++fstT (l[j]'h) (a+plTL (l.take j)):=by
 rw[yh2 h,zsv];simp[altF]
theorem zsm:∀ (l:List T) (a:Nat),allE l=true->catF l a=altF l a
 | [],a,_=>by simp[catF,altF]
 | t::l,a,h=>by
  simp only[allE,yjd] at h;simp only[catF,altF];rw[if_pos h.1,zsm l _ h.2]
theorem zpi:∀ (l:List T) (j:Nat) (h:j<l.length) (a:Nat),allE (l.take j)=true->zau (l[j]'h)=false->catF l a=altF (l.take (j+1)) a
 | [],j,h,a,_,_=>by simp at h
 | t::l,0,h,a,_,he=>by
  simp only[List.getElem_cons_zero] at he;simp[catF,altF,he]
 | t::l,j+1,h,a,ha,he=>by
  simp only[yjs,allE,yjd] at ha;simp only[yjg] at he;rw[yjs];simp only[catF,altF];rw[if_pos ha.1,zpi l j ykc _ ha.2 he]
theorem zna:∀ (l:List T) (a:Nat),allE l=true->catB l a=altB l a
 | [],a,_=>by simp[catB,altB]
 | t::l,a,h=>by
  simp only[allE,yjd] at h;simp only[catB,altB];rw[if_pos h.2,zna l _ h.2]
theorem zut (l:List T) (i:Nat) (h:i<l.length) (he:zau (l[i]'h)=false):allE l=false:=by
 induction l generalizing i with
 | nil=>simp at h
 | cons t l ih =>
  cases i with
  | zero=>simp only[List.getElem_cons_zero] at he;simp[allE,he]
  | succ i=>simp only[yjg] at he;simp[allE,ih i ykc he]
theorem zpj:∀ (l:List T) (i:Nat) (h:i<l.length) (a:Nat),allE (l.drop (i+1))=true->zau (l[i]'h)=false->catB l a=altB (l.drop i) (a+plTL (l.take i))
 | [],i,h,a,_,_=>by simp at h
 | t::l,0,h,a,ha,he=>by
  simp only[List.drop_succ_cons,List.drop_zero] at ha;simp only[catB,List.drop_zero,altB,yjy,plTL,yi2];rw[if_pos ha,zna l _ ha]
 | t::l,i+1,h,a,ha,he=>by
  simp only[yjg] at he;simp only[List.drop_succ_cons] at ha;have hf:=zut l i ykc he;simp only[catB,List.drop_succ_cons,yjs,plTL];rw[hf,zpj l i ykc _ ha he];simp[Nat.add_assoc]
theorem zyx (l:List T) (i:Nat) (h:i<l.length) (a:Nat):altB (l.drop i) (a+plTL (l.take i))=altB (l.drop (i+1)) (a+plTL (l.take (i+1)))++lstT (l[i]'h) (a+plTL (l.take i)):=by
 rw[yhc h,zeu l i h];simp only[altB];rw[Nat.add_assoc]
theorem zyy (l:List T) (i:Nat) (h:i<l.length):allE (l.drop i)=(zau (l[i]'h)&&allE (l.drop (i+1))):=by
 rw[yhc h];simp only[allE]
mutual
theorem zih:∀ (t:T) (a:Nat),(fstT t a).length<=plT t
 | .mk op p lo hi l,a=>by
  have h1:=zne l a;have h2:=zsl l a;simp only[fstT,plT];split
  .simp
  .split <;> omega
theorem zne:∀ (l:List T) (a:Nat),(altF l a).length<=plTL l
 | [],a=>by simp[altF]
 | t::ts,a=>by
  have h1:=zih t a;have h2:=zne ts (a+plT t);simp only[altF,plTL,ygu];omega
theorem zsl:∀ (l:List T) (a:Nat),(catF l a).length<=plTL l
 | [],a=>by simp[catF]
 | t::ts,a=>by
  have h1:=zih t a;have h2:=zsl ts (a+plT t);simp only[catF,plTL,ygu];split
  .omega
  .simp;omega
end
mutual
theorem zi7:∀ (t:T) (a:Nat),(lstT t a).length<=plT t
 | .mk op p lo hi l,a=>by
  have h1:=znf l a;have h2:=zsn l a;simp only[lstT,plT];split
  .simp
  .split <;> omega
theorem znf:∀ (l:List T) (a:Nat),(altB l a).length<=plTL l
 | [],a=>by simp[altB]
 | t::ts,a=>by
  have h1:=zi7 t a;have h2:=znf ts (a+plT t);simp only[altB,plTL,ygu];omega
theorem zsn:∀ (l:List T) (a:Nat),(catB l a).length<=plTL l
 | [],a=>by simp[catB]
 | t::ts,a=>by
  have h1:=zi7 t a;have h2:=zsn ts (a+plT t);simp only[catB,plTL,ygu];split
  .omega
  .simp;omega
end
section
open Go Go.RowKit
attribute [local go_sem ↓] Go.wp_at_zero Go.wp_at_succ
inductive FT:T->Prop
 | mk (op:Int) (p:Nat->Bool) (l:List T) (hop:op=1∧l=[]∨op=2∨op=3∨op=5) (hN:l.length<=202) (h:∀ x∈l,FT x):FT (.mk op p 0 0 l)
theorem FT.len {t:T} (h:FT t):t.kids.length<=202:=by cases h with | mk op p l hop hN h=>exact hN
theorem FT.at {t:T} (h:FT t) (j:Nat) (hj:j<t.kids.length):FT (t.kids[j]'hj):=by cases h with | mk op p l hop hN h=>exact h _ (yhb hj)
theorem FT.op {t:T} (h:FT t):t.op=1∧t.kids=[]∨t.op=2∨t.op=3∨t.op=5:=by cases h with | mk op p l hop hN h=>exact hop
theorem zy2 (t:T):zau t=if t.op=1∨t.op=5 then decide (t.op=5) else if t.op=2 then allE t.kids else anyE t.kids:=by
 cases t;rw[zau];rfl
theorem zxr {k:T} (h:FT k):∀ d,FT (zdq k d)
 | 0 => .mk 2 zaa [] (.inr (.inl rfl)) yk3 (fun x hx=>by simp at hx)
 | d+1 => .mk 5 zaa _ (.inr (.inr (.inr rfl))) yk3 (fun x hx=>by
  simp at hx;subst hx;exact .mk 2 zaa _ (.inr (.inl rfl)) yk3 (fun y hy=>by
   simp at hy;rcases hy with rfl|rfl
   .exact h
   .exact zxr h d))
theorem zhm:∀ l:List T,zfn l=l.map zaq
 | []=>rfl
 | t::ts=>by simp[zfn,zhm ts]
theorem zxs {t:T} (hwf:WF t):FT (zaq t):=by
 induction hwf with
 | one p=>simpa [zaq,zfn] using FT.mk 1 p [] (.inl ⟨rfl,rfl⟩) yk3 (fun x hx=>by simp at hx)
 | cat l h2 hN h ih =>
  have e:zaq (.mk 2 zaa 0 0 l) = .mk 2 zaa 0 0 (l.map zaq):=(by simp[zaq,zhm]);rw[e];exact .mk 2 zaa _ (.inr (.inl rfl)) (by simpa using hN) (fun x hx=>by
   simp at hx;obtain⟨y,hy,rfl⟩:=hx;exact ih y hy)
 | alt l h2 hN h ih =>
  have e:zaq (.mk 3 zaa 0 0 l) = .mk 3 zaa 0 0 (l.map zaq):=(by simp[zaq,zhm]);rw[e];exact .mk 3 zaa _ (.inr (.inr (.inl rfl))) (by simpa using hN) (fun x hx=>by
   simp at hx;obtain⟨y,hy,rfl⟩:=hx;exact ih y hy)
 | rep m n u h0 h1 h2 h3 hu ih =>
  have e:zaq (.mk 4 zaa m n [u]) = .mk 2 zaa 0 0 (List.replicate m.toNat (zaq u)++[zdq (zaq u) (n-m).toNat]):=(by simp[zaq,zhn]);rw[e];exact .mk 2 zaa _ (.inr (.inl rfl)) yk8 (fun x hx=>by
   simp at hx;rcases hx with ⟨_,rfl⟩|rfl
   .exact ih
   .exact zxr ih _)
theorem zpv (l:List T) (j:Nat) (h:j<l.length):allE (l.take (j+1))=(allE (l.take j)&&zau (l[j]'h)):=by
 have app:∀ l m:List T,allE (l++m)=(allE l&&allE m):=by
  intro l m;induction l with
  | nil=>simp[allE]
  | cons t ts ih=>simp[allE,ih,Bool.and_assoc]
 rw[yh2 h,app];simp[allE]
theorem zys (l:List T) (j:Nat) (h:j<l.length):anyE (l.take (j+1))=(anyE (l.take j)||zau (l[j]'h)):=by
 have app:∀ l m:List T,anyE (l++m)=(anyE l||anyE m):=by
  intro l m;induction l with
  | nil=>simp[anyE]
  | cons t ts ih=>simp[anyE,ih,Bool.or_assoc]
 rw[yh2 h,app];simp[anyE]
theorem ye5:∀ (N:Nat) (t:T) (w:World) (ok:Nat->Prop) (k:Value),SizeOf.sizeOf t<=N->FT t->Tree w ok t k->
 Calls Try.prog 43 #[zas t k] w fun e w'=>e = .returned (.bool (zau t))∧Below w.heap.size w w':=by
 intro N;induction N with
 | zero=>intro t w ok k h;obtain⟨op,p,lo,hi,l⟩:=t;simp at h
 | succ N ih =>
 intro t w ok k hN hft ht;obtain⟨A,n',c,rfl⟩:=ht.form;obtain⟨hn,hm⟩:=ht.bound;have hlen:=hft.len;rw[←hn] at hlen;unfold maxLen at hm;have hop:=hft.op;have b1:=Box8.new w t (.slice A n' c);have hB:Below w.heap.size w (w.alloc (.cells #[.int .i64 t.op,.int .u64 (word t.set 0),.int .u64 (word t.set 1),.int .u64 (word t.set 2),.int .u64 (word t.set 3),.int .i64 t.lo,.int .i64 t.hi,.slice A n' c] 67)):=(ygr _ _).alloc (ygo _) _;have hE:zau t=if t.op=1∨t.op=5 then decide (t.op=5) else if t.op=2 then allE t.kids else anyE t.kids:=zy2 t
 obtain⟨c0,c1,c2,c3,c4,c5,c6,c7⟩:=b1.cell;unfold zas
 by_cases h1:t.op=1
 .rw[if_pos (.inl h1)] at hE;have hE':zau t=false:=(by rw[hE,h1];decide);rw[hE'];rw[h1] at c0 ⊢;clear hE hE' hop ih ht b1 hft hn hN;go_enter Try.func43,Try.ntmps43;go_wp2;go_ret;exact⟨rfl,by rw[h1] at hB;exact hB⟩
 .by_cases h5:t.op=5
  .rw[if_pos (.inr h5)] at hE;have hE':zau t=true:=(by rw[hE,h5];decide);rw[hE'];rw[h5] at c0 ⊢;clear hE hE' hop ih ht b1 hft hn hN;go_enter Try.func43,Try.ntmps43;go_wp2;go_ret;exact⟨rfl,by rw[h5] at hB;exact hB⟩
  .rw[if_neg (by rintro (h|h);exact h1 h;exact h5 h)] at hE;obtain⟨o,ho⟩:∃ o,t.op=o:=⟨_,rfl⟩;have ho23:o=2∨o=3:=by rcases hop with h|h|h|h <;> omega
   have t1:(o==(1:Int))=false:=yk8;have t5:(o==(5:Int))=false:=yk8;have HN:=Zh hn;have HT:=Zh ht;have HFT:=Zh hft;have IH:=Zh ih;have HB1:=Zh b1;have HHB:=Zh hB;have HE:=Zh hE;have HSZ:=Zh hN;rw[ho] at HE HB1 HHB c0 ⊢;have HO:=Zh ho;clear hn ih hft hop b1 hB hE ht hN ho h1 h5 c0 c1 c2 c3 c4 c5 c6 c7;go_enter Try.func43,Try.ntmps43;go_wp2;go_loopg [3,4,5] n' (fun m a b i wr=>∃ j:Nat,i = .int .i64 (j:Int)∧j<=n'∧m=n'-j∧a = .bool (allE (t.kids.take j))∧b = .bool (anyE (t.kids.take j))∧Box8 wr w.heap.size t (.slice A n' c)∧Below w.heap.size w wr)
   case atStart=>exact⟨0,by first | rfl | trivial,ygy _,by first | rfl | trivial,by simp[allE],by simp[anyE],HB1.o,HHB.o⟩
   case round =>
    obtain⟨j,rfl,hj,hmj,rfl,rfl,x1,hW⟩:=hrel;have HMJ:=Zh hmj;obtain⟨c0,c1,c2,c3,c4,c5,c6,c7⟩:=x1.cell;rw[HO.o] at c0;clear hmj
    by_cases hlt:j<n'
    .have hlt':j<t.kids.length:=ykr;obtain⟨g,B,m1,m2,e1,hg1,htk,hcells⟩:=kid8 HT.o j (ygn hlt');subst e1;have hks:=zcy t j hlt';have hwk:=HFT.o.at j hlt';have hsa:=zpv t.kids j hlt';have hsb:=zys t.kids j hlt';generalize t.kids[j]=u at *;have HC:∀ q v,(zb6 u (.slice B m1 m2))[q]?=some v->wr.cell? ⟨g,j*8+q,none⟩=some v:=fun q v h=>by rw[yhz j 8];exact (hW.cell (p:=⟨g,8*j+q,none⟩) hg1).trans (hcells q v h)
     have k0:wr.cell? ⟨g,j*8,none⟩=_:=HC 0 _ rfl;have k1:=HC 1 _ rfl;have k2:=HC 2 _ rfl;have k3:=HC 3 _ rfl;have k4:=HC 4 _ rfl;have k5:=HC 5 _ rfl;have k6:=HC 6 _ rfl;have k7:=HC 7 _ rfl;have HK:=Zh (fun w' (hb:Below wr.heap.size wr w')=>IH.o u w' ok (.slice B m1 m2) (by have:=HSZ.o;omega) hwk ((htk.stays hW).stays hb));have HSA:=Zh hsa;have HSB:=Zh hsb;have HX:=Zh x1;have HW:=Zh hW;clear HC hcells htk hks hwk hsa hsb x1 hW;unfold zas at HK;obtain⟨a,ha⟩:∃ a,allE (t.kids.take j)=a:=⟨_,rfl⟩;obtain⟨b,hb⟩:∃ b,anyE (t.kids.take j)=b:=⟨_,rfl⟩;obtain⟨v,hv⟩:∃ v,zau u=v:=⟨_,rfl⟩;rw[ha,hv] at HSA;rw[hb,hv] at HSB;rw[hv] at HK;rw[ha,hb];clear ha hb hv;cases a <;> cases b
     all_goals
      go_wp2_with (go_at_call 43;(with_reducible refine (HK.o _ (ygr _ _)).mono ?_);rintro e w5 ⟨rfl,hb5⟩);go_roundg (n'-(j+1))
      case measure=>have:=HMJ.o;omega
      case rel=>exact⟨j+1,by go_num,by omega,rfl,by rw[HSA.o];cases v <;> rfl,by rw[HSB.o];cases v <;> rfl,HX.o.stays hb5,gro HW.o hb5⟩
    .have hjn:j=t.kids.length:=yl9;have hwhole:t.kids.take j=t.kids:=(by rw[hjn];exact yhn);rw[hwhole];have HW:=Zh hW;clear hW x1;rcases ho23 with rfl|rfl
     .have he:zau t=allE t.kids:=(by rw[HE.o];rfl);have HEE:=Zh he;clear he;go_wp2;go_ret;exact⟨by rw[HEE.o];rfl,HW.o⟩
     .have he:zau t=anyE t.kids:=(by rw[HE.o];rfl);have HEE:=Zh he;clear he;go_wp2;go_ret;exact⟨by rw[HEE.o];rfl,HW.o⟩
theorem zqp {t:T} {k:Value} {ok:Nat->Prop} (w:World) (hft:FT t) (ht:Tree w ok t k):Calls Try.prog 43 #[zas t k] w fun e w'=>e = .returned (.bool (zau t))∧Below w.heap.size w w':=
 ye5 _ t w ok k (ygo _) hft ht
theorem ztr:∀ (N:Nat) (t:T) (w:World) (ok:Nat->Prop) (k:Value),SizeOf.sizeOf t<=N->FT t->Tree w ok t k->
 Calls Try.prog 41 #[zas t k] w (zea w (plN t)):=by
 intro N;induction N with
 | zero=>intro t w ok k h;obtain⟨op,p,lo,hi,l⟩:=t;simp at h
 | succ N ih =>
 intro t w ok k hN hft ht;obtain⟨A,n',c,rfl⟩:=ht.form;obtain⟨hn,hm⟩:=ht.bound;have hlen:=hft.len;rw[←hn] at hlen;unfold maxLen at hm;have hop:=hft.op;have b1:=Box8.new w t (.slice A n' c);have hB:Below w.heap.size w (w.alloc (.cells #[.int .i64 t.op,.int .u64 (word t.set 0),.int .u64 (word t.set 1),.int .u64 (word t.set 2),.int .u64 (word t.set 3),.int .i64 t.lo,.int .i64 t.hi,.slice A n' c] 67)):=(ygr _ _).alloc (ygo _) _;have hpl:plN t=min (((if t.op=1 then 1 else 0)+zd2 t.kids)*(if t.op=4 then t.hi.toNat else 1)) 1000:=(by cases t;rfl);have hsum:=zh7 t.kids;have HPL:=Zh hpl;have HSUM:=Zh hsum;have HWF:=Zh hft;have HOP:=Zh hop;have HN:=Zh hn;have HT:=Zh ht;have IH:=Zh ih;have HB1:=Zh b1;have HM:=Zh hm;clear hn ih hpl hsum hft hop;unfold zas;cases hb1:(t.op==1)
 all_goals
  cases hb4:(t.op==4)
  all_goals
   go_enter Try.func41,Try.ntmps41;go_wp2;go_loopg [3,4] n' (fun m k i wr=>∃ j:Nat,i = .int .i64 (j:Int)∧j<=n'∧m=n'-j∧k = .int .i64 (((if t.op=1 then 1 else 0)+zd2 (t.kids.take j):Nat):Int)∧Box8 wr w.heap.size t (.slice A n' c)∧Below w.heap.size w wr)
   case atStart=>exact⟨0,rfl,ygy _,rfl,by first | (rw[if_pos (by simpa using hb1)];rfl) | (rw[if_neg (by simpa using hb1)];rfl),HB1.o,hB⟩
   case round =>
    obtain⟨j,rfl,hj,hmj,rfl,x1,hW⟩:=hrel;have HMJ:=Zh hmj;obtain⟨c0,c1,c2,c3,c4,c5,c6,c7⟩:=x1.cell;clear b1 hmj
    by_cases hlt:j<n'
    .have hlt':j<t.kids.length:=ykr;obtain⟨g,B,m1,m2,e1,hg1,htk,hcells⟩:=kid8 HT.o j (ygn hlt');subst e1;have hks:=zcy t j hlt';have hwk:=HWF.o.at j hlt';have hst:=zlb t.kids j hlt';have hsl:=zh7 (t.kids.take j);rw[yi9] at hsl;have hpu:=zw3 (t.kids[j]'hlt');generalize t.kids[j]=u at *;have HC:∀ q v,(zb6 u (.slice B m1 m2))[q]?=some v->wr.cell? ⟨g,j*8+q,none⟩=some v:=fun q v h=>by rw[yhz j 8];exact (hW.cell (p:=⟨g,8*j+q,none⟩) hg1).trans (hcells q v h)
     have k0:wr.cell? ⟨g,j*8,none⟩=_:=HC 0 _ rfl;have k1:=HC 1 _ rfl;have k2:=HC 2 _ rfl;have k3:=HC 3 _ rfl;have k4:=HC 4 _ rfl;have k5:=HC 5 _ rfl;have k6:=HC 6 _ rfl;have k7:=HC 7 _ rfl;have HK:=Zh (fun w' (hb:Below wr.heap.size wr w')=>IH.o u w' ok (.slice B m1 m2) yjz hwk ((htk.stays hW).stays hb));have HST:=Zh hst;clear HC hcells htk hks hwk hst;unfold zas zea at HK;have ha:((if t.op=1 then 1 else 0:Nat))<=1:=by split <;> omega
     generalize hS:(if t.op=1 then 1 else 0:Nat)=a0 at *;generalize zd2 (t.kids.take j)=S at *;have hS2:S<=202000:=yjz;clear hS;go_wp2_with (go_at_call 41;(with_reducible refine (HK.o _ (ygr _ _)).mono ?_);rintro e w5 ⟨rfl,hb5⟩);go_roundg (n'-(j+1))
     case measure=>have:=HMJ.o;omega
     case rel=>exact⟨j+1,by go_num,by omega,rfl,by rw[HST.o];go_num,x1.stays hb5,gro hW hb5⟩
    .have hjn:j=t.kids.length:=yl9;have hwhole:t.kids.take j=t.kids:=(by rw[hjn];exact yhn);rw[hwhole];have hS2:=HSUM.o;have ha:((if t.op=1 then 1 else 0:Nat))<=1:=by split <;> omega
     have hpl':=HPL.o;rw[show t.kids.length=n' from HN.o.symm] at hS2;generalize hS:(if t.op=1 then 1 else 0:Nat)=a0 at *;generalize zd2 t.kids=S at *
     by_cases h4:t.op=4
     .exfalso;have:=HOP.o;omega
     .first
       | (exfalso;simp at hb4;exact h4 hb4)
       | skip
      all_goals
       rw[if_neg h4,yib] at hpl';have HPL2:=Zh hpl';clear hpl' h4 hS;go_wp2
       all_goals
        go_ret;refine⟨congrArg Ending.returned (congrArg (Value.int .i64) ?_),hW⟩;rw[HPL2.o];omega
theorem zlc:∀ (l:List T),(∀ t∈l,plN t=min (plT t) 1000)->min (zd2 l) 1000=min (plTL l) 1000
 | [],_=>rfl
 | t::ts,h=>by
  have h1:=h t yk3;have h2:=zlc ts fun u hu=>h u (by simp[hu])
  simp only[zd2,plTL];omega
theorem zrj {t:T} (hft:FT t):plN t=min (plT t) 1000:=by
 induction hft with
 | mk op p l hop hN h ih =>
  have:=zlc l ih;have e4:¬ op=4:=by rcases hop with h|h|h|h <;> omega
  have e1:plN (.mk op p 0 0 l)=min ((if op=1 then 1 else 0)+zd2 l) 1000:=(by simp[plN,e4]);have e2:plT (.mk op p 0 0 l)=(if op=1 then 1 else 0)+plTL l:=(by simp[plT]);rw[e1,e2];omega
theorem zob {t:T} {k:Value} {ok:Nat->Prop} (w:World) (hft:FT t) (ht:Tree w ok t k):Calls Try.prog 41 #[zas t k] w (zea w (plN t)):=
 ztr _ t w ok k (ygo _) hft ht
end
def zdp:List T->List Nat->Nat->List (List Nat)->List (List Nat)
 | [],_,_,F=>F
 | t::ts,ps,a,F=>if zau t then zdp ts ps (a+plT t) (zap F ps (fstT t a)) else zap F ps (fstT t a)
def zd8:List T->Nat->List (List Nat)->List (List Nat)
 | [],_,F=>F
 | t::ts,a,F=>zd8 ts (a+plT t) (zdp ts (lstT t a) (a+plT t) F)
mutual
def folL:T->Nat->Lay->Lay
 | .mk op p lo hi l=>fun a s=>if op=1 then ⟨s.sets.set a p,s.follow⟩ else if op=2 then ⟨(zby l a s).sets,zd8 l a (zby l a s).follow⟩ else zby l a s
def zby:List T->Nat->Lay->Lay
 | []=>fun _ s=>s
 | t::ts=>fun a s=>zby ts (a+plT t) (folL t a s)
end
theorem zoy:∀ (l m:List T) (a:Nat) (s:Lay),zby (l++m) a s=zby m (a+plTL l) (zby l a s)
 | [],m,a,s=>by simp[zby,plTL]
 | t::l,m,a,s=>by
  simp only[yic,zby,plTL];rw[zoy l m,Nat.add_assoc]
theorem zua (l:List T) (j:Nat) (h:j<l.length) (a:Nat) (s:Lay):zby (l.take (j+1)) a s=folL (l[j]'h) (a+plTL (l.take j)) (zby (l.take j) a s):=by
 rw[yh2 h,zoy];simp[zby]
theorem zqf (l:List T) (j:Nat) (h:j<l.length) (ps:List Nat) (a:Nat) (F:List (List Nat)):zdp (l.drop j) ps a F=if zau (l[j]'h) then zdp (l.drop (j+1)) ps (a+plT (l[j]'h)) (zap F ps (fstT (l[j]'h) a)) else zap F ps (fstT (l[j]'h) a):=by
 rw[yhc h,zdp]
theorem zqq (l:List T) (i:Nat) (h:i<l.length) (a:Nat) (F:List (List Nat)):zd8 (l.drop i) a F=zd8 (l.drop (i+1)) (a+plT (l[i]'h)) (zdp (l.drop (i+1)) (lstT (l[i]'h) a) (a+plT (l[i]'h)) F):=by
 rw[yhc h,zd8]
def Gr (F G:List (List Nat)) (n:Nat):Prop:=∀ q,(G.getD q []).length<=(F.getD q []).length+n
theorem Gr.trans {F G H:List (List Nat)} {n m:Nat} (h:Gr F G n) (k:Gr G H m):Gr F H (n+m):=fun q=>by have:=h q;have:=k q;omega
theorem Gr.mono {F G:List (List Nat)} {n m:Nat} (h:Gr F G n) (hm:n<=m):Gr F G m:=fun q=>by have:=h q;omega
theorem zou (F:List (List Nat)) (p:Nat) (ys:List Nat):Gr F (zcm F p ys) ys.length:=fun q=>by
 rcases yik p F.length with hp|hp
 .rw[zia F p q ys hp];split
  .rename_i e;subst e;rw[ygu];exact ygo _
  .omega
 .have e:zcm F p ys=F:=(by rw[zcm,List.set_eq_of_length_le hp]);rw[e];omega
theorem zln:∀ (ps:List Nat) (F:List (List Nat)) (ys:List Nat),Gr F (zap F ps ys) (ps.length*ys.length)
 | [],F,ys=>fun q=>by simp[zap]
 | p::ps,F,ys=>by
  rw[zap];refine ((zou F p ys).trans (zln ps _ ys)).mono ?_;rw[yi8,yiq];omega
def cr:List T->Nat
 | []=>0
 | t::ts=>plT t*plTL ts+cr ts
def sq:List T->Nat
 | []=>0
 | t::ts=>plT t*plT t+sq ts
theorem yd0:∀ l:List T,sq l+cr l<=plTL l*plTL l
 | []=>by simp[sq,cr]
 | t::ts=>by
  have h:=yd0 ts;simp only[sq,cr,plTL];have e:(plT t+plTL ts)*(plT t+plTL ts)=plT t*plT t+plT t*plTL ts+plT t*plTL ts+plTL ts*plTL ts:=by
   rw[Nat.mul_add,Nat.add_mul,Nat.add_mul,yhz (plTL ts) (plT t)];omega
  omega
theorem zvc:∀ l m:List T,sq (l++m)=sq l+sq m
 | [],m=>by simp[sq]
 | t::l,m=>by simp only[yic,sq];rw[zvc l m];omega
theorem ycz (l:List T) (j:Nat) (h:j<l.length):sq (l.take (j+1))=sq (l.take j)+plT (l[j]'h)*plT (l[j]'h):=by
 rw[yh2 h,zvc];simp[sq]
theorem ztg (l:List T) (j:Nat):sq (l.take j)<=sq l:=by
 have h:=zvc (l.take j) (l.drop j);rw[yis] at h;omega
theorem ye7 (l:List T) (i:Nat) (h:i<l.length):cr (l.drop i)=plT (l[i]'h)*plTL (l.drop (i+1))+cr (l.drop (i+1)):=by
 rw[yhc h,cr]
theorem zw1 (l:List T) (i:Nat) (h:i<l.length):plTL (l.drop i)=plT (l[i]'h)+plTL (l.drop (i+1)):=by
 rw[yhc h,plTL]
theorem zot:∀ (l:List T) (ps:List Nat) (a:Nat) (F:List (List Nat)),Gr F (zdp l ps a F) (ps.length*plTL l)
 | [],ps,a,F=>fun q=>by simp[zdp]
 | t::ts,ps,a,F=>by
  have h1:=zln ps F (fstT t a);have h2:ps.length*(fstT t a).length<=ps.length*plT t:=Nat.mul_le_mul_left _ (zih t a);rw[zdp,plTL,Nat.mul_add];split
  .exact (h1.trans (zot ts ps _ _)).mono yjz
  .exact h1.mono yjz
theorem zpc:∀ (l:List T) (a:Nat) (F:List (List Nat)),Gr F (zd8 l a F) (cr l)
 | [],a,F=>fun q=>by simp[zd8]
 | t::ts,a,F=>by
  have h1:=zot ts (lstT t a) (a+plT t) F;have h2:(lstT t a).length*plTL ts<=plT t*plTL ts:=yhv _ (zi7 t a);rw[zd8,cr];exact (h1.trans (zpc ts _ _)).mono yjz
mutual
theorem zxy:∀ (t:T) (a:Nat) (s:Lay),Gr s.follow (folL t a s).follow (plT t*plT t)
 | .mk op p lo hi l,a,s=>by
  have h:=zj7 l a s;have h2:=yd0 l;have hp:plTL l*plTL l<=plT (.mk op p lo hi l)*plT (.mk op p lo hi l):=by
   have:plTL l<=plT (.mk op p lo hi l):=by simp[plT]
   exact yjf this this
  rw[folL];split
  .exact fun q=>by simp
  .split
   .exact (h.trans (zpc l a _)).mono yjz
   .exact h.mono yjz
theorem zj7:∀ (l:List T) (a:Nat) (s:Lay),Gr s.follow (zby l a s).follow (sq l)
 | [],a,s=>fun q=>by simp[zby]
 | t::ts,a,s=>by
  rw[zby,sq];exact (zxy t a s).trans (zj7 ts _ _)
end
theorem zi9:∀ (l:List T) (ps:List Nat) (a:Nat) (F:List (List Nat)),(zdp l ps a F).length=F.length
 | [],ps,a,F=>rfl
 | t::ts,ps,a,F=>by
  rw[zdp];split
  .rw[zi9,zch]
  .rw[zch]
theorem zlw:∀ (l:List T) (a:Nat) (F:List (List Nat)),(zd8 l a F).length=F.length
 | [],a,F=>rfl
 | t::ts,a,F=>by rw[zd8,zlw,zi9]
mutual
theorem zhl:∀ (t:T) (a:Nat) (s:Lay),(folL t a s).sets.length=s.sets.length∧(folL t a s).follow.length=s.follow.length
 | .mk op p lo hi l,a,s=>by
  have h:=zkb l a s;rw[folL];split
  .simp
  .split
   .exact⟨h.1,by rw[zlw];exact h.2⟩
   .exact h
theorem zkb:∀ (l:List T) (a:Nat) (s:Lay),(zby l a s).sets.length=s.sets.length∧(zby l a s).follow.length=s.follow.length
 | [],a,s=>by simp[zby]
 | t::ts,a,s=>by
  have h:=zhl t a s;have h2:=zkb ts (a+plT t) (folL t a s);rw[zby];exact⟨h2.1.trans h.1,h2.2.trans h.2⟩
end
def crs:List T->Nat->Nat->Nat->Prop
 | [],_,_,_=>False
 | t::ts,a,q,r=>(q∈lstT t a∧r∈catF ts (a+plT t))∨crs ts (a+plT t) q r
theorem zly:∀ (l:List T) (a q r:Nat),zhs l a q r↔zfj l a q r∨crs l a q r
 | [],a,q,r=>by simp[zhs,zfj,crs]
 | t::ts,a,q,r=>by
  simp only[zhs,zfj,crs,zly ts];constructor
  .rintro (h|(h|h)|h)
   .exact .inl (.inl h)
   .exact .inl (.inr h)
   .exact .inr (.inr h)
   .exact .inr (.inl h)
  .rintro ((h|h)|(h|h))
   .exact .inl h
   .exact .inr (.inl (.inl h))
   .exact .inr (.inr h)
   .exact .inr (.inl (.inr h))
mutual
theorem zoo:∀ (t:T) (a q:Nat),q∈lstT t a->a<=q∧q<a+plT t
 | .mk op p lo hi l,a,q=>by
  have h1:=zyf l a q;have h2:=zyw l a q;simp only[lstT,plT];split
  .intro h;simp at h;omega
  .split
   .intro h;have:=h1 h;omega
   .intro h;have:=h2 h;omega
theorem zyf:∀ (l:List T) (a q:Nat),q∈catB l a->a<=q∧q<a+plTL l
 | [],a,q=>by simp[catB]
 | t::ts,a,q=>by
  have h1:=zoo t a q;have h2:=zyf ts (a+plT t) q;simp only[catB,plTL,yh7];rintro (h|h)
  .have:=h2 h;omega
  .split at h
   .have:=h1 h;omega
   .simp at h
theorem zyw:∀ (l:List T) (a q:Nat),q∈altB l a->a<=q∧q<a+plTL l
 | [],a,q=>by simp[altB]
 | t::ts,a,q=>by
  have h1:=zoo t a q;have h2:=zyw ts (a+plT t) q;simp only[altB,plTL,yh7];rintro (h|h)
  .have:=h2 h;omega
  .have:=h1 h;omega
end
theorem zlm:∀ (l:List T) (ps:List Nat) (a:Nat) (F:List (List Nat)),(∀ p∈ps,p<F.length)->∀ q r,r∈(zdp l ps a F).getD q []↔r∈F.getD q []∨(q∈ps∧r∈catF l a)
 | [],ps,a,F,_,q,r=>by simp[zdp,catF]
 | t::ts,ps,a,F,h,q,r=>by
  have h1:=zgr ps F (fstT t a) h q r;rw[zdp,catF];split
  .rw[zlm ts ps _ _ (fun p hp=>by rw[zch];exact h p hp),h1,yh7];constructor
   .rintro ((h|h)|h)
    .exact .inl h
    .exact .inr ⟨h.1,.inl h.2⟩
    .exact .inr ⟨h.1,.inr h.2⟩
   .rintro (h|⟨h,h' | h'⟩)
    .exact .inl (.inl h)
    .exact .inl (.inr ⟨h,h'⟩)
    .exact .inr ⟨h,h'⟩
  .rw[h1];simp
theorem zlv:∀ (l:List T) (a:Nat) (F:List (List Nat)),a+plTL l<=F.length->∀ q r,r∈(zd8 l a F).getD q []↔r∈F.getD q []∨crs l a q r
 | [],a,F,_,q,r=>by simp[zd8,crs]
 | t::ts,a,F,h,q,r=>by
  rw[plTL] at h;rw[zd8,zlv ts _ _ (by rw[zi9];omega),zlm _ _ _ _ (fun p hp=>by have:=zoo t a p hp;omega),crs,or_assoc]
mutual
theorem zsd:∀ (t:T) (a:Nat) (s:Lay),a+plT t<=s.follow.length->∀ q r,r∈(folL t a s).follow.getD q []↔r∈s.follow.getD q []∨folT t a q r
 | .mk op p lo hi l,a,s,h,q,r=>by
  rw[plT] at h;have h1:=zox l a s yjz q r;simp only[folL,folT]
  by_cases e1:op=1
  .rw[if_pos e1];simp[e1]
  .rw[if_neg e1]
   by_cases e2:op=2
   .rw[if_pos e2,if_pos e2];rw[zlv l a _ (by rw[(zkb l a s).2];omega),h1,zly,or_assoc];simp[e1]
   .rw[if_neg e2,if_neg e2,h1];simp[e1]
theorem zox:∀ (l:List T) (a:Nat) (s:Lay),a+plTL l<=s.follow.length->∀ q r,r∈(zby l a s).follow.getD q []↔r∈s.follow.getD q []∨zfj l a q r
 | [],a,s,h,q,r=>by simp[zby,zfj]
 | t::ts,a,s,h,q,r=>by
  rw[plTL] at h;rw[zby,zfj,zox ts _ _ (by rw[(zhl t a s).2];omega),zsd t a s yjz,or_assoc]
end
theorem yev (S:List (Nat->Bool)) (a:Nat) (u v:List (Nat->Bool)) (h:a+u.length+v.length<=S.length):
 (S.take a++u++S.drop (a+u.length)).take (a+u.length)++v++(S.take a++u++S.drop (a+u.length)).drop (a+u.length+v.length)=S.take a++(u++v)++S.drop (a+(u++v).length):=by
 have hl:(S.take a++u).length=a+u.length:=yk8;rw[List.take_left' hl,List.drop_append,yjh yjz,hl,List.drop_drop];simp only[yj6,ygu,yhe]
 congr 4
 omega
mutual
theorem zp9:∀ (t:T),FT t->∀ (a:Nat) (s:Lay),a+plT t<=s.sets.length->(folL t a s).sets=s.sets.take a++setT t++s.sets.drop (a+plT t)
 | .mk op p lo hi l,hft,a,s,h=>by
  have hop:=hft.op;have hk:∀ x∈l,FT x:=by cases hft with | mk op p l hop hN h=>exact h
  simp only[T.op,T.kids] at hop;rw[plT] at h;simp only[folL,setT,plT]
  by_cases e1:op=1
  .have el:l=[]:=by rcases hop with h | h | h | h <;> first | exact h.2 | omega
   subst el;rw[if_pos e1,if_pos e1,if_pos e1];simp only[plTL,zf4,yht,yi2];have ha:a<s.sets.length:=(by rw[if_pos e1] at h;omega);rw[List.set_eq_take_append_cons_drop,if_pos ha];simp
  .rw[if_neg e1] at h;have h1:=zlp l hk a s yjz;rw[if_neg e1,if_neg e1,if_neg e1];simp only[yj6,yhm];split
   .exact h1
   .exact h1
theorem zlp:∀ (l:List T),(∀ x∈l,FT x)->∀ (a:Nat) (s:Lay),a+plTL l<=s.sets.length->(zby l a s).sets=s.sets.take a++zf4 l++s.sets.drop (a+plTL l)
 | [],hk,a,s,h=>by simp[zby,zf4,plTL]
 | t::ts,hk,a,s,h=>by
  rw[plTL] at h;have h1:=zp9 t (hk t yk3) a s yjz;have h2:=zlp ts (fun x hx=>hk x (by simp[hx])) (a+plT t) (folL t a s) (by rw[(zhl t a s).1];omega);rw[zby,h2,h1,zf4,plTL];have e1:=zjq t;have e2:=zmq ts;have:=yev s.sets a (setT t) (zf4 ts) yjz;rw[←e1,←e2] at this;rw[this,ygu,←e1,←e2]
end
section
open Go Go.RowKit
attribute [local go_sem ↓] Go.wp_at_zero Go.wp_at_succ
theorem zrm {B:Nat} {w:World} {v:Value} {l:List Int} (h:Ints w B v l):∀ j,v.ownBlock=some j->B<=j:=fun j e=>(ygs h j e).1
def begL (l:List T) (a j:Nat):List Nat:=(List.range j).map fun i=>a+plTL (l.take i)
theorem zcf (l:List T) (a j:Nat):(begL l a j).length=j:=by simp[begL]
theorem zpr (l:List T) (a j:Nat):begL l a (j+1)=begL l a j++[a+plTL (l.take j)]:=by simp[begL,yi6]
def zff (w:World) (l:List Nat) (e:Ending) (w':World):Prop:=∃ v,e = .returned v∧Ints w' w.heap.size v (ns l)∧Below w.heap.size w w'
def zeb (b:Bool) (t:T) (a:Nat):List Nat:=if b=true then lstT t a else fstT t a
theorem zx6 (b:Bool) (t:T) (a:Nat):(zeb b t a).length<=plT t:=by
 unfold zeb;split
 .exact zi7 t a
 .exact zih t a
def idx (b:Bool) (l:List T) (j:Nat):Nat:=if b=true then l.length-1-j else j
def outL (b:Bool) (l:List T) (a j:Nat):List Nat:=if b=true then altB (l.drop (l.length-j)) (a+plTL (l.take (l.length-j))) else altF (l.take j) a
def emp (b:Bool) (l:List T) (j:Nat):Bool:=if b=true then allE (l.drop (l.length-j)) else allE (l.take j)
theorem zs7 (b:Bool) (l:List T) (j:Nat) (h:j<l.length):idx b l j<l.length:=by unfold idx;split <;> omega
theorem zwa (b:Bool) (l:List T) (a:Nat):outL b l a 0=[]:=by
 unfold outL;split
 .simp[altB]
 .simp[altF]
theorem ybp (b:Bool) (l:List T):emp b l 0=true:=by
 unfold emp;split
 .simp[allE]
 .simp[allE]
theorem zwb (b:Bool) (l:List T) (a j:Nat) (h:j<l.length):outL b l a (j+1)=outL b l a j++zeb b (l[idx b l j]'(zs7 b l j h)) (a+plTL (l.take (idx b l j))):=by
 cases b
 .simpa [outL,idx,zeb] using zyv l j h a
 .have hi:l.length-1-j<l.length:=yjz;have hd:=zyx l (l.length-1-j) hi a;have e1:l.length-(j+1)=l.length-1-j:=yjz;have e2:l.length-1-j+1=l.length-j:=yjz;simp only[outL,idx,zeb,if_true,e1];rw[hd,e2]
theorem ybq (b:Bool) (l:List T) (j:Nat) (h:j<l.length):emp b l (j+1)=(emp b l j&&zau (l[idx b l j]'(zs7 b l j h))):=by
 cases b
 .simpa [emp,idx] using zpv l j h
 .have hi:l.length-1-j<l.length:=yjz;have hd:=zyy l (l.length-1-j) hi;have e1:l.length-(j+1)=l.length-1-j:=yjz;have e2:l.length-1-j+1=l.length-j:=yjz;simp only[emp,idx,if_true,e1];rw[hd,e2,Bool.and_comm]
theorem zow (b:Bool) (t:T) (a:Nat) (h2:t.op=2):zeb b t a=if b=true then catB t.kids a else catF t.kids a:=by
 cases t with
 | mk op p lo hi l =>
  have e:op=2:=h2;subst e;cases b <;> simp[zeb,lstT,fstT,T.kids]
theorem zx7 (b:Bool) (t:T) (a:Nat) (h1:t.op≠1) (h2:t.op≠2):zeb b t a=if b=true then altB t.kids a else altF t.kids a:=by
 cases t with
 | mk op p lo hi l =>
  have e1:op≠1:=h1;have e2:op≠2:=h2;cases b <;> simp[zeb,lstT,fstT,T.kids,e1,e2]
theorem zx8 (b:Bool) (t:T) (a:Nat) (h1:t.op≠1) (h:t.op=2->emp b t.kids t.kids.length=true):outL b t.kids a t.kids.length=zeb b t a:=by
 have e:outL b t.kids a t.kids.length=if b=true then altB t.kids a else altF t.kids a:=by cases b <;> simp[outL,plTL]
 rw[e]
 by_cases h2:t.op=2
 .have hall:allE t.kids=true:=by
   have:=h h2;cases b <;> simpa [emp] using this
  rw[zow b t a h2,zna _ _ hall,zsm _ _ hall]
 .rw[zx7 b t a h1 h2]
theorem zu8 (b:Bool) (t:T) (a j:Nat) (hj:j<t.kids.length) (h2:t.op=2) (h:emp b t.kids j=true) (he:zau (t.kids[idx b t.kids j]'(zs7 b _ j hj))=false):outL b t.kids a (j+1)=zeb b t a:=by
 rw[zow b t a h2];cases b
 .simp only[emp,idx,yi0,if_false] at h he;simp only[outL,yi0,if_false];exact (zpi t.kids j hj a h he).symm
 .have hi:t.kids.length-1-j<t.kids.length:=yjz;simp only[emp,idx,if_true] at h he;have e1:t.kids.length-(j+1)=t.kids.length-1-j:=yjz;have e2:t.kids.length-j=t.kids.length-1-j+1:=yjz;rw[e2] at h;simp only[outL,if_true,e1];exact (zpj t.kids _ hi a h he).symm
theorem yae (b:Bool) (l:List T) (a j:Nat) (h:j<=l.length):(outL b l a j).length<=plTL l:=by
 unfold outL;split
 .have h1:=znf (l.drop (l.length-j)) (a+plTL (l.take (l.length-j)));have h2:=zj3 (l.take (l.length-j)) (l.drop (l.length-j));rw[yis] at h2;omega
 .have h1:=zne (l.take j) a;have h2:=zi2 l j;omega
def yg3 (N:Nat):Prop:=∀ (t:T) (w:World) (ok:Nat->Prop) (k:Value) (a:Nat) (b:Bool),SizeOf.sizeOf t<=N->FT t->Tree w ok t k->a+plT t<=256->
 Calls Try.prog 46 #[zas t k,.int .i64 (a:Int),.bool b] w (zff w (zeb b t a))
theorem ybo {t:T} {w:World} {k:Value} {a:Nat} {b:Bool} (h1:t.op=1):
 Calls Try.prog 46 #[zas t k,.int .i64 (a:Int),.bool b] w (zff w (zeb b t a)):=by
 have hl:zeb b t a=[a]:=by
  cases t with
  | mk op p lo hi l =>
   have e:op=1:=h1;subst e;unfold zeb;split <;> simp[lstT,fstT]
 rw[hl];have b1:=Box8.new w t k;have hB:Below w.heap.size w (w.alloc (.cells #[.int .i64 t.op,.int .u64 (word t.set 0),.int .u64 (word t.set 1),.int .u64 (word t.set 2),.int .u64 (word t.set 3),.int .i64 t.lo,.int .i64 t.hi,k] 67)):=(ygr _ _).alloc (ygo _) _;obtain⟨c0,c1,c2,c3,c4,c5,c6,c7⟩:=b1.cell;unfold zas;have hI0:Ints ((w.alloc (.cells #[.int .i64 t.op,.int .u64 (word t.set 0),.int .u64 (word t.set 1),.int .u64 (word t.set 2),.int .u64 (word t.set 3),.int .i64 t.lo,.int .i64 t.hi,k] 67)).alloc (.cells #[.int .i64 (a:Int)] 3)) (w.heap.size+1) (.slice (some ⟨w.heap.size+1,0,none⟩) 1 1) [(a:Int)]:=by
  have h:=yj7 (base:=w.heap.size+1) (e:=3) (size:=1) (w.alloc (.cells #[.int .i64 t.op,.int .u64 (word t.set 0),.int .u64 (word t.set 1),.int .u64 (word t.set 2),.int .u64 (word t.set 3),.int .i64 t.lo,.int .i64 t.hi,k] 67)) #[.int .i64 (a:Int)] 1 yk3 yk6 rfl;rw[yh0] at h;exact h
 have hbb:(t.op==1)=true:=(by simp[h1]);go_enter Try.func46,Try.ntmps46;go_wp2;go_ret;rw[h1] at hI0 hB;have hI1:Ints _ w.heap.size _ (ns [a]):=zb2 hI0 yjz;exact⟨_,rfl,hI1,hB.alloc hB.size _⟩
theorem yfn {N:Nat} (ih:yg3 N) {t:T} {w:World} {ok:Nat->Prop} {k:Value} {a:Nat} {b:Bool} (hN:SizeOf.sizeOf t<=N+1) (hft:FT t) (ht:Tree w ok t k) (ha:a+plT t<=256) (h1:t.op≠1):
 Calls Try.prog 46 #[zas t k,.int .i64 (a:Int),.bool b] w (zff w (zeb b t a)):=by
 obtain⟨A,n',c,rfl⟩:=ht.form;obtain⟨hn,hm⟩:=ht.bound;have hlen:=hft.len;rw[←hn] at hlen;unfold maxLen at hm;have hpl:plTL t.kids<=plT t:=(by cases t;simp[plT,T.kids]);have b1:=Box8.new w t (.slice A n' c);have hB:Below w.heap.size w (w.alloc (.cells #[.int .i64 t.op,.int .u64 (word t.set 0),.int .u64 (word t.set 1),.int .u64 (word t.set 2),.int .u64 (word t.set 3),.int .i64 t.lo,.int .i64 t.hi,.slice A n' c] 67)):=(ygr _ _).alloc (ygo _) _;obtain⟨c0,c1,c2,c3,c4,c5,c6,c7⟩:=b1.cell;have hb1:(t.op==1)=false:=(by simp[h1]);unfold zas;have HN:=Zh hn;have HT:=Zh ht;have HFT:=Zh hft;have IH:=Zh ih;have HB1:=Zh b1;have HHB:=Zh hB;have HSZ:=Zh hN;have HPL:=Zh hpl;have HM:=Zh hm;have H1:=Zh h1;clear hn ih hft b1 hB ht hN hpl hm h1;obtain⟨i0,hi,hz0,hz1,hz2⟩:=info_parts Try.infoInt;go_enter Try.func46,Try.ntmps46;go_wp2;go_loopg [1,8,9] n' (fun m at_ beg i wr=>∃ j:Nat,i = .int .i64 (j:Int)∧j<=n'∧m=n'-j∧at_ = .int .i64 ((a+plTL (t.kids.take j):Nat):Int)∧Ints wr (w.heap.size+1) beg (ns (begL t.kids a j))∧Box8 wr w.heap.size t (.slice A n' c)∧Below w.heap.size w wr)
 case atStart=>exact⟨0,rfl,ygy _,rfl,rfl,Ints.nil _ _,HB1.o,HHB.o⟩
 case round =>
  clear c0 c1 c2 c3 c4 c5 c6 c7;obtain⟨j,rfl,hj,hmj,rfl,hbeg,x1,hW⟩:=hrel;have HMJ:=Zh hmj;obtain⟨c0,c1,c2,c3,c4,c5,c6,c7⟩:=x1.cell;clear hmj;have hg0:w.heap.size<wr.heap.size:=x1.lt
  by_cases hlt:j<n'
  .have hlt':j<t.kids.length:=ykr;obtain⟨g,B,m1,m2,e1,hg1,htk,hcells⟩:=kid8 HT.o j (ygn hlt');subst e1;have hwk:=HFT.o.at j hlt';have hst:=zeu t.kids j hlt';have hsl:=zi2 t.kids (j+1);have hpn:=zrj hwk;have hbs:=zpr t.kids a j;generalize t.kids[j]=u at *;have hpu:plN u=plT u:=ykv;rw[hpu] at hpn;have HCk:∀ q v,(zb6 u (.slice B m1 m2))[q]?=some v->w.cell? ⟨g,j*8+q,none⟩=some v:=fun q v h=>by rw[yhz j 8];exact hcells q v h
   have hforall:∀ w',Below w.heap.size w w'->w'.cell? ⟨g,j*8,none⟩=some (.int .i64 u.op)∧w'.cell? ⟨g,j*8+1,none⟩=some (.int .u64 (word u.set 0))∧w'.cell? ⟨g,j*8+2,none⟩=some (.int .u64 (word u.set 1))∧w'.cell? ⟨g,j*8+3,none⟩=some (.int .u64 (word u.set 2))∧w'.cell? ⟨g,j*8+4,none⟩=some (.int .u64 (word u.set 3))∧w'.cell? ⟨g,j*8+5,none⟩=some (.int .i64 u.lo)∧w'.cell? ⟨g,j*8+6,none⟩=some (.int .i64 u.hi)∧w'.cell? ⟨g,j*8+7,none⟩=some (.slice B m1 m2):=fun w' hb =>
    ⟨(hb.cell (p:=⟨g,j*8,none⟩) hg1).trans (HCk 0 _ rfl),(hb.cell (p:=⟨g,j*8+1,none⟩) hg1).trans (HCk 1 _ rfl),(hb.cell (p:=⟨g,j*8+2,none⟩) hg1).trans (HCk 2 _ rfl),(hb.cell (p:=⟨g,j*8+3,none⟩) hg1).trans (HCk 3 _ rfl),(hb.cell (p:=⟨g,j*8+4,none⟩) hg1).trans (HCk 4 _ rfl),(hb.cell (p:=⟨g,j*8+5,none⟩) hg1).trans (HCk 5 _ rfl),(hb.cell (p:=⟨g,j*8+6,none⟩) hg1).trans (HCk 6 _ rfl),(hb.cell (p:=⟨g,j*8+7,none⟩) hg1).trans (HCk 7 _ rfl)⟩
   have HCA:=Zh hforall;have HTK:=Zh htk;have HWK:=Zh hwk;have HST:=Zh hst;have HX:=Zh x1;have HWW:=Zh hW;have HBG:=Zh hbeg;have HBS:=Zh hbs;have hbn:(begL t.kids a j).length=j:=zcf _ _ _;have HPU:=Zh hpu;obtain⟨Ab,cb,rfl⟩:=hbeg.form;rw[za9,hbn] at HBG;have hbg:=HBG.o;unfold Ints at hbg;rw[za9,hbn] at hbg;have HO:=Zh hbg;have hpb:plTL (t.kids.take (j+1))<=256:=ykv;rw[hst] at hpb;clear HCk hforall hcells htk hwk hst x1 hW hbg hbs hpu hpn hsl hbeg;rw[za9,hbn];generalize plTL (t.kids.take j)=S at *;go_wp2_with (first
    | (at_builtin;refine wpList_append_own_at _ rfl _ _ 44 rfl (w.heap.size+1) 3 i0 (.int .i64 0) 1 8 Try.underlying44 hi hz0 hz1 hz2 rfl yk6 _ _ _ rfl (za6 HO.o ((ygr _ _).alloc (ygo _) _)) ⟨wr.heap.size,0,none⟩ 1 1 [.int .i64 ((a+S:Nat):Int)] rfl rfl (cell_one_new _ _ _) ?c2 ?c3 ?c4 ?c5 ?_)
    | fail)
   case c2=>intro u hu;simp at hu;subst hu;rfl
   case c3=>unfold maxLen;omega
   case c4=>omega
   case c5=>simp;omega
   intro v' w2 hown' hgrow _ hat;have hgB:wr.grownBy w2 (Value.slice Ab j cb).ownBlock:=(yjb wr _ _).trans hgrow;have hrow:=zrm HBG.o;have hW2:Below w.heap.size w w2:=HWW.o.grown hgB HWW.o.size (fun q e=>by have:=hrow q e;omega);have hx2:Box8 w2 w.heap.size t (.slice (some ⟨g,0,none⟩) n' c):=HX.o.grown hgB (fun e=>by have:=hrow _ e.symm;omega);have hi2:Ints w2 (w.heap.size+1) v' (ns (begL t.kids a (j+1))):=by
    unfold Ints;rw[HBS.o,zef,ygu,yhl,za9,hbn];exact hown'
   have HI2:=Zh hi2;have HX2:=Zh hx2;have HW2:=Zh hW2;clear hown' hgrow hat hgB hrow hx2 hi2 HO HBS HBG;obtain⟨Av,cv,hform⟩:=HI2.o.form;rw[za9,zcf] at hform;subst hform;clear c0 c1 c2 c3 c4 c5 c6 c7;obtain⟨c0,c1,c2,c3,c4,c5,c6,c7⟩:=HX2.o.cell;obtain⟨k0,k1,k2,k3,k4,k5,k6,k7⟩:=HCA.o w2 hW2;have HK:=Zh (fun w' (hb:Below w.heap.size w w')=>zob (w:=w') HWK.o (HTK.o.stays hb));unfold zas zea at HK;go_wp2_with (first
    | (go_at_call 41;(with_reducible refine (HK.o _ HW2.o).mono ?_);rintro e w5 ⟨rfl,hb5⟩;rw[HPU.o])
    | fail)
   go_roundg (n'-(j+1))
   case measure=>have:=HMJ.o;omega
   case rel=>exact⟨j+1,by go_num,by omega,rfl,by rw[HST.o];go_num,HI2.o.stays hb5,HX2.o.stays hb5,gro HW2.o hb5⟩
  .have hjn:j=n':=yjz;have hkn:t.kids.length=n':=HN.o.symm;subst hjn;have HBG:=Zh hbeg;obtain⟨Ab,cb,hform⟩:=hbeg.form;rw[za9,zcf] at hform;subst hform;have HW1:=Zh hW;have HX:=Zh x1;clear hbeg hW x1 hlt;go_wp2;clear c0 c1 c2 c3 c4 c5 c6 c7;go_loopg [7,10] j (fun m out j2 wq=>∃ q:Nat,j2 = .int .i64 (q:Int)∧q<=j∧m=j-q∧Ints wq wr.heap.size out (ns (outL b t.kids a q))∧(t.op=2->emp b t.kids q=true)∧Below wr.heap.size wr wq)
   case atStart=>exact⟨0,rfl,ygy _,rfl,by rw[zwa];exact Ints.nil _ _,fun _=>ybp _ _,ygr _ _⟩
   case round =>
    obtain⟨q,rfl,hq,hmq,hout,hemp,hWq⟩:=hrel;have HMQ:=Zh hmq;have HOUT:=Zh hout;have HEMP:=Zh hemp;clear hmq hout hemp;obtain⟨c0,c1,c2,c3,c4,c5,c6,c7⟩:=(HX.o.stays hWq).cell
    by_cases hqt:q<j
    .have hqt':q<t.kids.length:=(by rw[hkn];exact hqt);obtain⟨i,hi⟩:∃ i,idx b t.kids q=i:=⟨_,rfl⟩;have hil:i<t.kids.length:=(by rw[←hi];exact zs7 b _ q hqt');have hib:(b=true->(j:Int)-1-(q:Int)=(i:Int))∧(b=false->i=q):=by
      rw[←hi];constructor
      .rintro rfl;simp only[idx,if_true];omega
      .rintro rfl;rfl
     obtain⟨g,B,m1,m2,e1,hg1,htk,hcells⟩:=kid8 HT.o i (ygn hil);subst e1;obtain⟨gb,cb',e2,hgb0,hgb1,hgb2⟩:=HBG.o.at i (by rw[za9,zcf,←hkn];exact hil);injection e2 with f1 f2 f3
     subst f1 f3;clear f2;have hbv:(ns (begL t.kids a j))[i]'(by rw[za9,zcf,←hkn];exact hil)=((a+plTL (t.kids.take i):Nat):Int):=by
      simp[ns,begL]
     rw[hbv] at hgb2;have hsuc:=zwb b t.kids a q hqt';have hes:=ybq b t.kids q hqt';have hstop:=zu8 b t a q hqt';simp only[hi] at hsuc hes hstop;have hwk:=HFT.o.at i hil;have hks:=zcy t i hil;have hst:=zeu t.kids i hil;have hsl:=zi2 t.kids (i+1);have hol:=yae b t.kids a q yjz;generalize t.kids[i]=u at *;have hpu:a+plTL (t.kids.take i)+plT u<=256:=ykv;generalize plTL (t.kids.take i)=S at *;have hll:=zx6 b u (a+S);have hij:i<j:=yjz;have HCk:∀ q v,(zb6 u (.slice B m1 m2))[q]?=some v->w.cell? ⟨g,i*8+q,none⟩=some v:=fun q v h=>by rw[yhz i 8];exact hcells q v h
     have hforall:∀ w',Below w.heap.size w w'->w'.cell? ⟨g,i*8,none⟩=some (.int .i64 u.op)∧w'.cell? ⟨g,i*8+1,none⟩=some (.int .u64 (word u.set 0))∧w'.cell? ⟨g,i*8+2,none⟩=some (.int .u64 (word u.set 1))∧w'.cell? ⟨g,i*8+3,none⟩=some (.int .u64 (word u.set 2))∧w'.cell? ⟨g,i*8+4,none⟩=some (.int .u64 (word u.set 3))∧w'.cell? ⟨g,i*8+5,none⟩=some (.int .i64 u.lo)∧w'.cell? ⟨g,i*8+6,none⟩=some (.int .i64 u.hi)∧w'.cell? ⟨g,i*8+7,none⟩=some (.slice B m1 m2):=fun w' hb =>
      ⟨(hb.cell (p:=⟨g,i*8,none⟩) hg1).trans (HCk 0 _ rfl),(hb.cell (p:=⟨g,i*8+1,none⟩) hg1).trans (HCk 1 _ rfl),(hb.cell (p:=⟨g,i*8+2,none⟩) hg1).trans (HCk 2 _ rfl),(hb.cell (p:=⟨g,i*8+3,none⟩) hg1).trans (HCk 3 _ rfl),(hb.cell (p:=⟨g,i*8+4,none⟩) hg1).trans (HCk 4 _ rfl),(hb.cell (p:=⟨g,i*8+5,none⟩) hg1).trans (HCk 5 _ rfl),(hb.cell (p:=⟨g,i*8+6,none⟩) hg1).trans (HCk 6 _ rfl),(hb.cell (p:=⟨g,i*8+7,none⟩) hg1).trans (HCk 7 _ rfl)⟩
     have HCA:=Zh hforall;have hWw:Below w.heap.size w wr:=gro HW1.o hWq;obtain⟨k0,k1,k2,k3,k4,k5,k6,k7⟩:=hforall wr hWw;have kb:wr.cell? ⟨gb,i,none⟩=some (.int .i64 ((a+S:Nat):Int)):=(hWq.cell (p:=⟨gb,i,none⟩) hgb1).trans hgb2;have HK:=Zh (fun w' (hb:Below w.heap.size w w')=>IH.o u w' ok (.slice B m1 m2) (a+S) b (by have:=HSZ.o;omega) hwk (htk.stays hb) hpu);have HK2:=Zh (fun w' (hb:Below w.heap.size w w')=>zqp (w:=w') hwk (htk.stays hb));unfold zas at HK HK2;simp only[yjt] at HK;have HSUC:=Zh hsuc;have HES:=Zh hes;have HSTOP:=Zh hstop;have HWW:=Zh hWw;have HWQ:=Zh hWq;have HIB:=Zh hib;have hol2:(outL b t.kids a q).length+(zeb b u (a+S)).length<=100000:=ykv;have HOL:=Zh hol2;generalize hoq:outL b t.kids a q=oq at *;generalize hlu:zeb b u (a+S)=lu at *;have hsz:=hWq.size;clear HCk hforall hcells htk hwk hks hst hsl hpu hol hll hbv hsuc hes hstop hWw hWq hib hol2 hgb2 hi hil hqt';cases b
     .have e:i=q:=HIB.o.2 rfl;subst e;clear HIB;go_upto_region 16 with fail
      go_region_law (first
       | (go_simp;go_at_call 46;(refine (HK.o wr.drew HWW.o.drew).mono ?_);rintro e w5 ⟨v5,rfl,hv5,hb5⟩;have HV5:=Zh hv5;have HB5:=Zh (zd5 hb5);have HO5:=Zh (HOUT.o.stays (zd5 hb5));clear hv5 hb5)
       | (refine zb1 rfl _ _ yk5 yk5 yk5 HO5.o HV5.o (by rw[za9,za9];exact HOL.o) (ygw hsz HB5.o.size) ?_;intro v6 w6 i6 g6 o6;have HI6:=Zh i6;have HG6:=Zh g6;clear i6 g6 o6)
       | fail)
      all_goals
       have hW5:=gro HWQ.o HB5.o;have hW6:=hW5.grown HG6.o hW5.size (zrm HO5.o);have hw6:=gro HW1.o hW6;obtain⟨c0,c1,c2,c3,c4,c5,c6,c7⟩:=(HX.o.stays hW6).cell;obtain⟨k0,k1,k2,k3,k4,k5,k6,k7⟩:=HCA.o w6 hw6;have HW6:=Zh hW6;have HWW6:=Zh hw6;clear hW5 hW6 hw6;obtain⟨ev,hev⟩:∃ ev,zau u=ev:=⟨_,rfl⟩;rw[hev] at HK2 HES HSTOP;clear hev;cases ev <;> cases h2:(t.op==2)
       all_goals
        go_wp2_with (first
         | (go_at_call 43;(with_reducible refine (HK2.o _ HWW6.o).mono ?_);rintro e w8 ⟨rfl,hb8⟩;have HI8:=Zh (HI6.o.stays hb8);have HW8:=Zh (gro HW6.o hb8);have HWW8:=Zh (gro HWW6.o hb8);obtain⟨d0,d1,d2,d3,d4,d5,d6,d7⟩:=(HX.o.stays HW8.o).cell)
         | fail)
        first
         | (go_roundg (j-(i+1))
            case measure=>(have:=HMQ.o;omega)
            case rel=>exact⟨i+1,by go_num,by omega,rfl,by rw[HSUC.o,zef];exact HI8.o,(fun h=>by first | (simp[HES.o,HEMP.o h];done) | (exfalso;rw[h] at h2;exact absurd h2 yk6)),HW8.o⟩)
         | (go_ret
            have hs:=HSTOP.o ykp (HEMP.o ykp) (by trivial);rw[HSUC.o] at hs;refine⟨_,rfl,?_,HWW8.o⟩;rw[←hs,zef];exact zb2 HI8.o HW1.o.size)
     .have e:(j:Int)-1-(q:Int)=(i:Int):=HIB.o.1 rfl;go_upto_region 16 with fail
      clear HIB e;go_region_law (first
       | (go_simp;go_at_call 46;(refine (HK.o wr.drew HWW.o.drew).mono ?_);rintro e w5 ⟨v5,rfl,hv5,hb5⟩;have HV5:=Zh hv5;have HB5:=Zh (zd5 hb5);have HO5:=Zh (HOUT.o.stays (zd5 hb5));clear hv5 hb5)
       | (refine zb1 rfl _ _ yk5 yk5 yk5 HO5.o HV5.o (by rw[za9,za9];exact HOL.o) (ygw hsz HB5.o.size) ?_;intro v6 w6 i6 g6 o6;have HI6:=Zh i6;have HG6:=Zh g6;clear i6 g6 o6)
       | fail)
      all_goals
       have hW5:=gro HWQ.o HB5.o;have hW6:=hW5.grown HG6.o hW5.size (zrm HO5.o);have hw6:=gro HW1.o hW6;obtain⟨c0,c1,c2,c3,c4,c5,c6,c7⟩:=(HX.o.stays hW6).cell;obtain⟨k0,k1,k2,k3,k4,k5,k6,k7⟩:=HCA.o w6 hw6;have HW6:=Zh hW6;have HWW6:=Zh hw6;clear hW5 hW6 hw6;obtain⟨ev,hev⟩:∃ ev,zau u=ev:=⟨_,rfl⟩;rw[hev] at HK2 HES HSTOP;clear hev;cases ev <;> cases h2:(t.op==2)
       all_goals
        go_wp2_with (first
         | (go_at_call 43;(with_reducible refine (HK2.o _ HWW6.o).mono ?_);rintro e w8 ⟨rfl,hb8⟩;have HI8:=Zh (HI6.o.stays hb8);have HW8:=Zh (gro HW6.o hb8);have HWW8:=Zh (gro HWW6.o hb8);obtain⟨d0,d1,d2,d3,d4,d5,d6,d7⟩:=(HX.o.stays HW8.o).cell)
         | fail)
        first
         | (go_roundg (j-(q+1))
            case measure=>(have:=HMQ.o;omega)
            case rel=>exact⟨q+1,by go_num,by omega,rfl,by rw[HSUC.o,zef];exact HI8.o,(fun h=>by first | (simp[HES.o,HEMP.o h];done) | (exfalso;rw[h] at h2;exact absurd h2 yk6)),HW8.o⟩)
         | (go_ret
            have hs:=HSTOP.o ykp (HEMP.o ykp) (by trivial);rw[HSUC.o] at hs;refine⟨_,rfl,?_,HWW8.o⟩;rw[←hs,zef];exact zb2 HI8.o HW1.o.size)
    .have hqn:q=t.kids.length:=yjz;have hem:=HEMP.o;rw[hqn] at hem HOUT;rw[zx8 b t a H1.o hem] at HOUT;clear hqn hem;go_wp2;go_ret;exact⟨_,rfl,zb2 HOUT.o HW1.o.size,gro HW1.o hWq⟩
theorem zsf:∀ N,yg3 N
 | 0=>fun t w ok k a b h=>by obtain⟨op,p,lo,hi,l⟩:=t;simp at h
 | N+1=>fun t w ok k a b h hft ht ha=>by
  by_cases h1:t.op=1
  .exact ybo h1
  .exact yfn (zsf N) h hft ht ha h1
theorem zn7 {t:T} {w:World} {ok:Nat->Prop} {k:Value} {a:Nat} {b:Bool} (hft:FT t) (ht:Tree w ok t k) (ha:a+plT t<=256):
 Calls Try.prog 46 #[zas t k,.int .i64 (a:Int),.bool b] w (zff w (zeb b t a)):=zsf _ t w ok k a b (ygo _) hft ht ha
end
end Go.Proofs.Ytipfgpfplakhiaa
