import Derived.Test.YtgbdanddbgomhaaDoorMw24
set_option linter.unusedVariables false
set_option linter.unusedSimpArgs false
namespace Go.Proofs.YtgbdanddbgomhaaDoor
open Go Go.RowKit
section
attribute [local go_sem ↓] Go.wp_at_zero Go.wp_at_succ
theorem zlq {B:Nat} {w:World} {v:Value} {l:List Int} (h:Ints w B v l):∀ j,v.ownBlock=some j->B<=j:=fun j e=>(World.ownsRow.lt h j e).1
def begL (l:List T) (a j:Nat):List Nat:=(List.range j).map fun i=>a+plTL (l.take i)
theorem zb3 (l:List T) (a j:Nat):(begL l a j).length=j:=by simp[begL]
theorem zjz (l:List T) (a j:Nat):begL l a (j+1)=begL l a j++[a+plTL (l.take j)]:=by simp[begL,List.range_succ]
def RetEndF (w:World) (l:List Nat) (e:Ending) (w':World):Prop:=∃ v,e = .returned v∧Ints w' w.heap.size v (ns l)∧Below w.heap.size w w'
def lasts (b:Bool) (t:T) (a:Nat):List Nat:=if b=true then lstT t a else fstT t a
theorem zqq (b:Bool) (t:T) (a:Nat):(lasts b t a).length<=plT t:=by
 unfold lasts;split
 . exact ze9 t a
 . exact zeg t a
def idx (b:Bool) (l:List T) (j:Nat):Nat:=if b=true then l.length-1-j else j
def outL (b:Bool) (l:List T) (a j:Nat):List Nat:=if b=true then altB (l.drop (l.length-j)) (a+plTL (l.take (l.length-j))) else altF (l.take j) a
def emp (b:Bool) (l:List T) (j:Nat):Bool:=if b=true then allE (l.drop (l.length-j)) else allE (l.take j)
theorem zme (b:Bool) (l:List T) (j:Nat) (h:j<l.length):idx b l j<l.length:=by unfold idx;split <;> omega
theorem zq1 (b:Bool) (l:List T) (a:Nat):outL b l a 0=[]:=by
 unfold outL;split
 . simp[altB]
 . simp[altF]
theorem zu1 (b:Bool) (l:List T):emp b l 0=true:=by
 unfold emp;split
 . simp[allE]
 . simp[allE]
theorem zq2 (b:Bool) (l:List T) (a j:Nat) (h:j<l.length):outL b l a (j+1)=outL b l a j++lasts b (l[idx b l j]'(zme b l j h)) (a+plTL (l.take (idx b l j))):=by
 cases b
 . simpa [outL,idx,lasts] using zs7 l j h a
 . have hi:l.length-1-j<l.length:=(by omega);have hd:=zs9 l (l.length-1-j) hi a;have e1:l.length-(j+1)=l.length-1-j:=(by omega);have e2:l.length-1-j+1=l.length-j:=(by omega);simp only[outL,idx,lasts,if_true,e1];rw[hd,e2]
theorem zu2 (b:Bool) (l:List T) (j:Nat) (h:j<l.length):emp b l (j+1)=(emp b l j&&emptyT (l[idx b l j]'(zme b l j h))):=by
 cases b
 . simpa [emp,idx] using zk1 l j h
 . have hi:l.length-1-j<l.length:=(by omega);have hd:=zsa l (l.length-1-j) hi;have e1:l.length-(j+1)=l.length-1-j:=(by omega);have e2:l.length-1-j+1=l.length-j:=(by omega);simp only[emp,idx,if_true,e1];rw[hd,e2,Bool.and_comm]
theorem zjf (b:Bool) (t:T) (a:Nat) (h2:t.op=2):lasts b t a=if b=true then catB t.kids a else catF t.kids a:=by
 cases t with
 | mk op p lo hi l =>
   have e:op=2:=h2;subst e;cases b <;> simp[lasts,lstT,fstT,T.kids]
theorem zqr (b:Bool) (t:T) (a:Nat) (h1:t.op≠1) (h2:t.op≠2):lasts b t a=if b=true then altB t.kids a else altF t.kids a:=by
 cases t with
 | mk op p lo hi l =>
   have e1:op≠1:=h1;have e2:op≠2:=h2;cases b <;> simp[lasts,lstT,fstT,T.kids,e1,e2]
theorem zqs (b:Bool) (t:T) (a:Nat) (h1:t.op≠1) (h:t.op=2->emp b t.kids t.kids.length=true):outL b t.kids a t.kids.length=lasts b t a:=by
 have e:outL b t.kids a t.kids.length=if b=true then altB t.kids a else altF t.kids a:=by cases b <;> simp[outL,plTL]
 rw[e]
 by_cases h2:t.op=2
 . have hall:allE t.kids=true:=by
     have:=h h2;cases b <;> simpa [emp] using this
   rw[zjf b t a h2,zid _ _ hall,zmv _ _ hall]
 . rw[zqr b t a h1 h2]
theorem znv (b:Bool) (t:T) (a j:Nat) (hj:j<t.kids.length) (h2:t.op=2) (h:emp b t.kids j=true) (he:emptyT (t.kids[idx b t.kids j]'(zme b _ j hj))=false):outL b t.kids a (j+1)=lasts b t a:=by
 rw[zjf b t a h2];cases b
 . simp only[emp,idx,Bool.false_eq_true,if_false] at h he;simp only[outL,Bool.false_eq_true,if_false];exact (zju t.kids j hj a h he).symm
 . have hi:t.kids.length-1-j<t.kids.length:=(by omega);simp only[emp,idx,if_true] at h he;have e1:t.kids.length-(j+1)=t.kids.length-1-j:=(by omega);have e2:t.kids.length-j=t.kids.length-1-j+1:=(by omega);rw[e2] at h;simp only[outL,if_true,e1];exact (zjv t.kids _ hi a h he).symm
theorem zt4 (b:Bool) (l:List T) (a j:Nat) (h:j<=l.length):(outL b l a j).length<=plTL l:=by
 unfold outL;split
 . have h1:=zii (l.drop (l.length-j)) (a+plTL (l.take (l.length-j)));have h2:=zet (l.take (l.length-j)) (l.drop (l.length-j));rw[List.take_append_drop] at h2;omega
 . have h1:=zih (l.take j) a;have h2:=ze6 l j;omega
def EndsF (N:Nat):Prop:=∀ (t:T) (w:World) (ok:Nat->Prop) (k:Value) (a:Nat) (b:Bool),SizeOf.sizeOf t<=N->FT t->Tree w ok t k->a+plT t<=256->
   Calls Tryd.prog 79 #[nodeP t k,.int .i64 (a:Int),.bool b] w (RetEndF w (lasts b t a))
set_option maxRecDepth 20000 in
set_option maxHeartbeats 4000000 in
theorem zu0 {t:T} {w:World} {k:Value} {a:Nat} {b:Bool} (h1:t.op=1):
   Calls Tryd.prog 79 #[nodeP t k,.int .i64 (a:Int),.bool b] w (RetEndF w (lasts b t a)):=by
 have hl:lasts b t a=[a]:=by
   cases t with
   | mk op p lo hi l =>
     have e:op=1:=h1;subst e;unfold lasts;split <;> simp[lstT,fstT]
 rw[hl];have b1:=Box8.new w t k;have hB:Below w.heap.size w (w.alloc (.cells #[.int .i64 t.op,.int .u64 (word t.set 0),.int .u64 (word t.set 1),.int .u64 (word t.set 2),.int .u64 (word t.set 3),.int .i64 t.lo,.int .i64 t.hi,k] 29)):=(Below.refl _ _).alloc (Nat.le_refl _) _;obtain⟨c0,c1,c2,c3,c4,c5,c6,c7⟩:=b1.cell;unfold nodeP;have hI0:Ints ((w.alloc (.cells #[.int .i64 t.op,.int .u64 (word t.set 0),.int .u64 (word t.set 1),.int .u64 (word t.set 2),.int .u64 (word t.set 3),.int .i64 t.lo,.int .i64 t.hi,k] 29)).alloc (.cells #[.int .i64 (a:Int)] 3)) (w.heap.size+1) (.slice (some ⟨w.heap.size+1,0,none⟩) 1 1) [(a:Int)]:=by
   have h:=World.ownsRow_lit (base:=w.heap.size+1) (e:=3) (size:=1) (w.alloc (.cells #[.int .i64 t.op,.int .u64 (word t.set 0),.int .u64 (word t.set 1),.int .u64 (word t.set 2),.int .u64 (word t.set 3),.int .i64 t.lo,.int .i64 t.hi,k] 29)) #[.int .i64 (a:Int)] 1 (by simp) (by decide) rfl;rw[World.size_alloc] at h;exact h
 have hbb:(t.op==1)=true:=(by simp[h1]);go_enter Tryd.func79,Tryd.ntmps79;go_wp2;go_ret;rw[h1] at hI0 hB;have hI1:Ints _ w.heap.size _ (ns [a]):=zap hI0 (by omega);exact⟨_,rfl,hI1,hB.alloc hB.size _⟩
set_option maxRecDepth 20000 in
set_option maxHeartbeats 4000000 in
theorem zww {N:Nat} (ih:EndsF N) {t:T} {w:World} {ok:Nat->Prop} {k:Value} {a:Nat} {b:Bool} (hN:SizeOf.sizeOf t<=N+1) (hft:FT t) (ht:Tree w ok t k) (ha:a+plT t<=256) (h1:t.op≠1):
   Calls Tryd.prog 79 #[nodeP t k,.int .i64 (a:Int),.bool b] w (RetEndF w (lasts b t a)):=by
 obtain⟨A,n',c,rfl⟩:=ht.form;obtain⟨hn,hm⟩:=ht.bound;have hlen:=hft.len;rw[←hn] at hlen;unfold maxLen at hm;have hpl:plTL t.kids<=plT t:=(by cases t;simp[plT,T.kids]);have b1:=Box8.new w t (.slice A n' c);have hB:Below w.heap.size w (w.alloc (.cells #[.int .i64 t.op,.int .u64 (word t.set 0),.int .u64 (word t.set 1),.int .u64 (word t.set 2),.int .u64 (word t.set 3),.int .i64 t.lo,.int .i64 t.hi,.slice A n' c] 29)):=(Below.refl _ _).alloc (Nat.le_refl _) _;obtain⟨c0,c1,c2,c3,c4,c5,c6,c7⟩:=b1.cell;have hb1:(t.op==1)=false:=(by simp[h1]);unfold nodeP;have HN:=Zh hn;have HT:=Zh ht;have HFT:=Zh hft;have IH:=Zh ih;have HB1:=Zh b1;have HHB:=Zh hB;have HSZ:=Zh hN;have HPL:=Zh hpl;have HM:=Zh hm;have H1:=Zh h1;clear hn ih hft b1 hB ht hN hpl hm h1;obtain⟨i0,hi,hz0,hz1,hz2⟩:=info_parts Tryd.infoInt;go_enter Tryd.func79,Tryd.ntmps79;go_wp2;go_loopg [1,8,9] n' (fun m at_ beg i wr=>∃ j:Nat,i = .int .i64 (j:Int)∧j<=n'∧m=n'-j∧at_ = .int .i64 ((a+plTL (t.kids.take j):Nat):Int)∧Ints wr (w.heap.size+1) beg (ns (begL t.kids a j))∧Box8 wr w.heap.size t (.slice A n' c)∧Below w.heap.size w wr)
 case atStart=>exact⟨0,rfl,Nat.zero_le _,rfl,rfl,Ints.nil _ _,HB1.out,HHB.out⟩
 case round =>
   clear c0 c1 c2 c3 c4 c5 c6 c7;obtain⟨j,rfl,hj,hmj,rfl,hbeg,x1,hW⟩:=hrel;have HMJ:=Zh hmj;obtain⟨c0,c1,c2,c3,c4,c5,c6,c7⟩:=x1.cell;clear hmj;have hg0:w.heap.size<wr.heap.size:=x1.lt
   by_cases hlt:j<n'
   . have hlt':j<t.kids.length:=(by rw[←HN.out];exact hlt);obtain⟨g,B,m1,m2,e1,hg1,htk,hcells⟩:=kid8 HT.out j (List.getElem?_eq_getElem hlt');subst e1;have hwk:=HFT.out.at j hlt';have hst:=zc5 t.kids j hlt';have hsl:=ze6 t.kids (j+1);have hpn:=zln hwk;have hbs:=zjz t.kids a j;generalize t.kids[j]=u at *;have hpu:plN u=plT u:=(by have:=HPL.out;omega);rw[hpu] at hpn;have HCk:∀ q v,(nodeC u (.slice B m1 m2))[q]?=some v->w.cell? ⟨g,j*8+q,none⟩=some v:=fun q v h=>by rw[Nat.mul_comm j 8];exact hcells q v h
     have hforall:∀ w',Below w.heap.size w w'->w'.cell? ⟨g,j*8,none⟩=some (.int .i64 u.op)∧w'.cell? ⟨g,j*8+1,none⟩=some (.int .u64 (word u.set 0))∧w'.cell? ⟨g,j*8+2,none⟩=some (.int .u64 (word u.set 1))∧w'.cell? ⟨g,j*8+3,none⟩=some (.int .u64 (word u.set 2))∧w'.cell? ⟨g,j*8+4,none⟩=some (.int .u64 (word u.set 3))∧w'.cell? ⟨g,j*8+5,none⟩=some (.int .i64 u.lo)∧w'.cell? ⟨g,j*8+6,none⟩=some (.int .i64 u.hi)∧w'.cell? ⟨g,j*8+7,none⟩=some (.slice B m1 m2):=fun w' hb =>
       ⟨(hb.cell (p:=⟨g,j*8,none⟩) hg1).trans (HCk 0 _ rfl),(hb.cell (p:=⟨g,j*8+1,none⟩) hg1).trans (HCk 1 _ rfl),(hb.cell (p:=⟨g,j*8+2,none⟩) hg1).trans (HCk 2 _ rfl),(hb.cell (p:=⟨g,j*8+3,none⟩) hg1).trans (HCk 3 _ rfl),(hb.cell (p:=⟨g,j*8+4,none⟩) hg1).trans (HCk 4 _ rfl),(hb.cell (p:=⟨g,j*8+5,none⟩) hg1).trans (HCk 5 _ rfl),(hb.cell (p:=⟨g,j*8+6,none⟩) hg1).trans (HCk 6 _ rfl),(hb.cell (p:=⟨g,j*8+7,none⟩) hg1).trans (HCk 7 _ rfl)⟩
     have HCA:=Zh hforall;have HTK:=Zh htk;have HWK:=Zh hwk;have HST:=Zh hst;have HX:=Zh x1;have HWW:=Zh hW;have HBG:=Zh hbeg;have HBS:=Zh hbs;have hbn:(begL t.kids a j).length=j:=zb3 _ _ _;have HPU:=Zh hpu;obtain⟨Ab,cb,rfl⟩:=hbeg.form;rw[za9,hbn] at HBG;have hbg:=HBG.out;unfold Ints at hbg;rw[za9,hbn] at hbg;have HO:=Zh hbg;have hpb:plTL (t.kids.take (j+1))<=256:=(by have:=HPL.out;omega);rw[hst] at hpb;clear HCk hforall hcells htk hwk hst x1 hW hbg hbs hpu hpn hsl hbeg;rw[za9,hbn];generalize plTL (t.kids.take j)=S at *;go_wp2_with (first
       | (at_builtin;refine wpList_append_own_at _ rfl _ _ 38 rfl (w.heap.size+1) 3 i0 (.int .i64 0) 1 8 Tryd.underlying38 hi hz0 hz1 hz2 rfl (by decide) _ _ _ rfl (za8 HO.out ((Below.refl _ _).alloc (Nat.le_refl _) _)) ⟨wr.heap.size,0,none⟩ 1 1 [.int .i64 ((a+S:Nat):Int)] rfl rfl (cell_one_new _ _ _) ?c2 ?c3 ?c4 ?c5 ?_)
       | fail)
     case c2=>intro u hu;simp at hu;subst hu;rfl
     case c3=>unfold maxLen;omega
     case c4=>omega
     case c5=>simp;omega
     intro v' w2 hown' hgrow _ hat;have hgB:wr.grownBy w2 (Value.slice Ab j cb).ownBlock:=(World.grownBy_alloc wr _ _).trans hgrow;have hrow:=zlq HBG.out;have hW2:Below w.heap.size w w2:=HWW.out.grown hgB HWW.out.size (fun q e=>by have:=hrow q e;omega);have hx2:Box8 w2 w.heap.size t (.slice (some ⟨g,0,none⟩) n' c):=HX.out.grown hgB (fun e=>by have:=hrow _ e.symm;omega);have hi2:Ints w2 (w.heap.size+1) v' (ns (begL t.kids a (j+1))):=by
       unfold Ints;rw[HBS.out,zel,List.length_append,List.map_append,za9,hbn];exact hown'
     have HI2:=Zh hi2;have HX2:=Zh hx2;have HW2:=Zh hW2;clear hown' hgrow hat hgB hrow hx2 hi2 HO HBS HBG;obtain⟨Av,cv,hform⟩:=HI2.out.form;rw[za9,zb3] at hform;subst hform;clear c0 c1 c2 c3 c4 c5 c6 c7;obtain⟨c0,c1,c2,c3,c4,c5,c6,c7⟩:=HX2.out.cell;obtain⟨k0,k1,k2,k3,k4,k5,k6,k7⟩:=HCA.out w2 hW2;have HK:=Zh (fun w' (hb:Below w.heap.size w w')=>zj2 (w:=w') HWK.out (HTK.out.stays hb));unfold nodeP RetInt at HK;go_wp2_with (first
       | (go_at_call 31;(with_reducible refine (HK.out _ HW2.out).mono ?_);rintro e w5 ⟨rfl,hb5⟩;rw[HPU.out])
       | fail)
     go_roundg (n'-(j+1))
     case measure=>have:=HMJ.out;omega
     case rel=>exact⟨j+1,by go_num,by omega,rfl,by rw[HST.out];go_num,HI2.out.stays hb5,HX2.out.stays hb5,gro HW2.out hb5⟩
   . have hjn:j=n':=(by omega);have hkn:t.kids.length=n':=HN.out.symm;subst hjn;have HBG:=Zh hbeg;obtain⟨Ab,cb,hform⟩:=hbeg.form;rw[za9,zb3] at hform;subst hform;have HW1:=Zh hW;have HX:=Zh x1;clear hbeg hW x1 hlt;go_wp2;clear c0 c1 c2 c3 c4 c5 c6 c7;go_loopg [7,10] j (fun m out j2 wq=>∃ q:Nat,j2 = .int .i64 (q:Int)∧q<=j∧m=j-q∧Ints wq wr.heap.size out (ns (outL b t.kids a q))∧(t.op=2->emp b t.kids q=true)∧Below wr.heap.size wr wq)
     case atStart=>exact⟨0,rfl,Nat.zero_le _,rfl,by rw[zq1];exact Ints.nil _ _,fun _=>zu1 _ _,Below.refl _ _⟩
     case round =>
       obtain⟨q,rfl,hq,hmq,hout,hemp,hWq⟩:=hrel;have HMQ:=Zh hmq;have HOUT:=Zh hout;have HEMP:=Zh hemp;clear hmq hout hemp;obtain⟨c0,c1,c2,c3,c4,c5,c6,c7⟩:=(HX.out.stays hWq).cell
       by_cases hqt:q<j
       . have hqt':q<t.kids.length:=(by rw[hkn];exact hqt);obtain⟨i,hi⟩:∃ i,idx b t.kids q=i:=⟨_,rfl⟩;have hil:i<t.kids.length:=(by rw[←hi];exact zme b _ q hqt');have hib:(b=true->(j:Int)-1-(q:Int)=(i:Int))∧(b=false->i=q):=by
           rw[←hi];constructor
           . rintro rfl;simp only[idx,if_true];omega
           . rintro rfl;rfl
         obtain⟨g,B,m1,m2,e1,hg1,htk,hcells⟩:=kid8 HT.out i (List.getElem?_eq_getElem hil);subst e1;obtain⟨gb,cb',e2,hgb0,hgb1,hgb2⟩:=HBG.out.at i (by rw[za9,zb3,←hkn];exact hil);injection e2 with f1 f2 f3
         subst f1 f3;clear f2;have hbv:(ns (begL t.kids a j))[i]'(by rw[za9,zb3,←hkn];exact hil)=((a+plTL (t.kids.take i):Nat):Int):=by
           simp[ns,begL]
         rw[hbv] at hgb2;have hsuc:=zq2 b t.kids a q hqt';have hes:=zu2 b t.kids q hqt';have hstop:=znv b t a q hqt';simp only[hi] at hsuc hes hstop;have hwk:=HFT.out.at i hil;have hks:=zav t i hil;have hst:=zc5 t.kids i hil;have hsl:=ze6 t.kids (i+1);have hol:=zt4 b t.kids a q (by omega);generalize t.kids[i]=u at *;have hpu:a+plTL (t.kids.take i)+plT u<=256:=(by have:=HPL.out;omega);generalize plTL (t.kids.take i)=S at *;have hll:=zqq b u (a+S);have hij:i<j:=(by omega);have HCk:∀ q v,(nodeC u (.slice B m1 m2))[q]?=some v->w.cell? ⟨g,i*8+q,none⟩=some v:=fun q v h=>by rw[Nat.mul_comm i 8];exact hcells q v h
         have hforall:∀ w',Below w.heap.size w w'->w'.cell? ⟨g,i*8,none⟩=some (.int .i64 u.op)∧w'.cell? ⟨g,i*8+1,none⟩=some (.int .u64 (word u.set 0))∧w'.cell? ⟨g,i*8+2,none⟩=some (.int .u64 (word u.set 1))∧w'.cell? ⟨g,i*8+3,none⟩=some (.int .u64 (word u.set 2))∧w'.cell? ⟨g,i*8+4,none⟩=some (.int .u64 (word u.set 3))∧w'.cell? ⟨g,i*8+5,none⟩=some (.int .i64 u.lo)∧w'.cell? ⟨g,i*8+6,none⟩=some (.int .i64 u.hi)∧w'.cell? ⟨g,i*8+7,none⟩=some (.slice B m1 m2):=fun w' hb =>
           ⟨(hb.cell (p:=⟨g,i*8,none⟩) hg1).trans (HCk 0 _ rfl),(hb.cell (p:=⟨g,i*8+1,none⟩) hg1).trans (HCk 1 _ rfl),(hb.cell (p:=⟨g,i*8+2,none⟩) hg1).trans (HCk 2 _ rfl),(hb.cell (p:=⟨g,i*8+3,none⟩) hg1).trans (HCk 3 _ rfl),(hb.cell (p:=⟨g,i*8+4,none⟩) hg1).trans (HCk 4 _ rfl),(hb.cell (p:=⟨g,i*8+5,none⟩) hg1).trans (HCk 5 _ rfl),(hb.cell (p:=⟨g,i*8+6,none⟩) hg1).trans (HCk 6 _ rfl),(hb.cell (p:=⟨g,i*8+7,none⟩) hg1).trans (HCk 7 _ rfl)⟩
         have HCA:=Zh hforall;have hWw:Below w.heap.size w wr:=gro HW1.out hWq;obtain⟨k0,k1,k2,k3,k4,k5,k6,k7⟩:=hforall wr hWw;have kb:wr.cell? ⟨gb,i,none⟩=some (.int .i64 ((a+S:Nat):Int)):=(hWq.cell (p:=⟨gb,i,none⟩) hgb1).trans hgb2;have HK:=Zh (fun w' (hb:Below w.heap.size w w')=>IH.out u w' ok (.slice B m1 m2) (a+S) b (by have:=HSZ.out;omega) hwk (htk.stays hb) hpu);have HK2:=Zh (fun w' (hb:Below w.heap.size w w')=>zkw (w:=w') hwk (htk.stays hb));unfold nodeP at HK HK2;simp only[Int.natCast_add] at HK;have HSUC:=Zh hsuc;have HES:=Zh hes;have HSTOP:=Zh hstop;have HWW:=Zh hWw;have HWQ:=Zh hWq;have HIB:=Zh hib;have hol2:(outL b t.kids a q).length+(lasts b u (a+S)).length<=100000:=(by have:=HPL.out;omega);have HOL:=Zh hol2;generalize hoq:outL b t.kids a q=oq at *;generalize hlu:lasts b u (a+S)=lu at *;have hsz:=hWq.size;clear HCk hforall hcells htk hwk hks hst hsl hpu hol hll hbv hsuc hes hstop hWw hWq hib hol2 hgb2 hi hil hqt';cases b
         . have e:i=q:=HIB.out.2 rfl;subst e;clear HIB;go_upto_region 16 with fail
           go_region_law (first
             | (go_simp;go_at_call 79;(refine (HK.out wr.drew HWW.out.drew).mono ?_);rintro e w5 ⟨v5,rfl,hv5,hb5⟩;have HV5:=Zh hv5;have HB5:=Zh (zay hb5);have HO5:=Zh (HOUT.out.stays (zay hb5));clear hv5 hb5)
             | (refine zir rfl _ _ (by rfl) (by rfl) (by rfl) HO5.out HV5.out (by rw[za9,za9];exact HOL.out) (Nat.le_trans hsz HB5.out.size) ?_;intro v6 w6 i6 g6 o6;have HI6:=Zh i6;have HG6:=Zh g6;clear i6 g6 o6)
             | fail)
           all_goals
             have hW5:=gro HWQ.out HB5.out;have hW6:=hW5.grown HG6.out hW5.size (zlq HO5.out);have hw6:=gro HW1.out hW6;obtain⟨c0,c1,c2,c3,c4,c5,c6,c7⟩:=(HX.out.stays hW6).cell;obtain⟨k0,k1,k2,k3,k4,k5,k6,k7⟩:=HCA.out w6 hw6;have HW6:=Zh hW6;have HWW6:=Zh hw6;clear hW5 hW6 hw6;obtain⟨ev,hev⟩:∃ ev,emptyT u=ev:=⟨_,rfl⟩;rw[hev] at HK2 HES HSTOP;clear hev;cases ev <;> cases h2:(t.op==2)
             all_goals
               go_wp2_with (first
                 | (go_at_call 76;(with_reducible refine (HK2.out _ HWW6.out).mono ?_);rintro e w8 ⟨rfl,hb8⟩;have HI8:=Zh (HI6.out.stays hb8);have HW8:=Zh (gro HW6.out hb8);have HWW8:=Zh (gro HWW6.out hb8);obtain⟨d0,d1,d2,d3,d4,d5,d6,d7⟩:=(HX.out.stays HW8.out).cell)
                 | fail)
               first
                 | (go_roundg (j-(i+1))
                    case measure=>(have:=HMQ.out;omega)
                    case rel=>exact⟨i+1,by go_num,by omega,rfl,by rw[HSUC.out,zel];exact HI8.out,(fun h=>by first | (simp[HES.out,HEMP.out h];done) | (exfalso;rw[h] at h2;exact absurd h2 (by decide))),HW8.out⟩)
                 | (go_ret
                    have hs:=HSTOP.out (by simpa using h2) (HEMP.out (by simpa using h2)) (by trivial);rw[HSUC.out] at hs;refine⟨_,rfl,?_,HWW8.out⟩;rw[←hs,zel];exact zap HI8.out HW1.out.size)
         . have e:(j:Int)-1-(q:Int)=(i:Int):=HIB.out.1 rfl;go_upto_region 16 with fail
           clear HIB e;go_region_law (first
             | (go_simp;go_at_call 79;(refine (HK.out wr.drew HWW.out.drew).mono ?_);rintro e w5 ⟨v5,rfl,hv5,hb5⟩;have HV5:=Zh hv5;have HB5:=Zh (zay hb5);have HO5:=Zh (HOUT.out.stays (zay hb5));clear hv5 hb5)
             | (refine zir rfl _ _ (by rfl) (by rfl) (by rfl) HO5.out HV5.out (by rw[za9,za9];exact HOL.out) (Nat.le_trans hsz HB5.out.size) ?_;intro v6 w6 i6 g6 o6;have HI6:=Zh i6;have HG6:=Zh g6;clear i6 g6 o6)
             | fail)
           all_goals
             have hW5:=gro HWQ.out HB5.out;have hW6:=hW5.grown HG6.out hW5.size (zlq HO5.out);have hw6:=gro HW1.out hW6;obtain⟨c0,c1,c2,c3,c4,c5,c6,c7⟩:=(HX.out.stays hW6).cell;obtain⟨k0,k1,k2,k3,k4,k5,k6,k7⟩:=HCA.out w6 hw6;have HW6:=Zh hW6;have HWW6:=Zh hw6;clear hW5 hW6 hw6;obtain⟨ev,hev⟩:∃ ev,emptyT u=ev:=⟨_,rfl⟩;rw[hev] at HK2 HES HSTOP;clear hev;cases ev <;> cases h2:(t.op==2)
             all_goals
               go_wp2_with (first
                 | (go_at_call 76;(with_reducible refine (HK2.out _ HWW6.out).mono ?_);rintro e w8 ⟨rfl,hb8⟩;have HI8:=Zh (HI6.out.stays hb8);have HW8:=Zh (gro HW6.out hb8);have HWW8:=Zh (gro HWW6.out hb8);obtain⟨d0,d1,d2,d3,d4,d5,d6,d7⟩:=(HX.out.stays HW8.out).cell)
                 | fail)
               first
                 | (go_roundg (j-(q+1))
                    case measure=>(have:=HMQ.out;omega)
                    case rel=>exact⟨q+1,by go_num,by omega,rfl,by rw[HSUC.out,zel];exact HI8.out,(fun h=>by first | (simp[HES.out,HEMP.out h];done) | (exfalso;rw[h] at h2;exact absurd h2 (by decide))),HW8.out⟩)
                 | (go_ret
                    have hs:=HSTOP.out (by simpa using h2) (HEMP.out (by simpa using h2)) (by trivial);rw[HSUC.out] at hs;refine⟨_,rfl,?_,HWW8.out⟩;rw[←hs,zel];exact zap HI8.out HW1.out.size)
       . have hqn:q=t.kids.length:=(by omega);have hem:=HEMP.out;rw[hqn] at hem HOUT;rw[zqs b t a H1.out hem] at HOUT;clear hqn hem;go_wp2;go_ret;exact⟨_,rfl,zap HOUT.out HW1.out.size,gro HW1.out hWq⟩
theorem zmo:∀ N,EndsF N
 | 0=>fun t w ok k a b h=>by obtain⟨op,p,lo,hi,l⟩:=t;simp at h
 | N+1=>fun t w ok k a b h hft ht ha=>by
   by_cases h1:t.op=1
   . exact zu0 h1
   . exact zww (zmo N) h hft ht ha h1
theorem zib {t:T} {w:World} {ok:Nat->Prop} {k:Value} {a:Nat} {b:Bool} (hft:FT t) (ht:Tree w ok t k) (ha:a+plT t<=256):
   Calls Tryd.prog 79 #[nodeP t k,.int .i64 (a:Int),.bool b] w (RetEndF w (lasts b t a)):=zmo _ t w ok k a b (Nat.le_refl _) hft ht ha
end
end Go.Proofs.YtgbdanddbgomhaaDoor
