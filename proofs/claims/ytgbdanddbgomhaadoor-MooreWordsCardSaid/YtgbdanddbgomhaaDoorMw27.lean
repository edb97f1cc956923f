import Derived.Test.YtgbdanddbgomhaaDoorMw24
set_option linter.unusedVariables false
set_option linter.unusedSimpArgs false
namespace Go.Proofs.YtgbdanddbgomhaaDoor
open Go
def linkTo:List T->List Nat->Nat->List (List Nat)->List (List Nat)
 | [],_,_,F=>F
 | t::ts,ps,a,F=>if emptyT t then linkTo ts ps (a+plT t) (linkAll F ps (fstT t a)) else linkAll F ps (fstT t a)
def crossF:List T->Nat->List (List Nat)->List (List Nat)
 | [],_,F=>F
 | t::ts,a,F=>crossF ts (a+plT t) (linkTo ts (lstT t a) (a+plT t) F)
mutual
def folL:T->Nat->Lay->Lay
 | .mk op p lo hi l=>fun a s=>if op=1 then ⟨s.sets.set a p,s.follow⟩ else if op=2 then ⟨(kidsL l a s).sets,crossF l a (kidsL l a s).follow⟩ else kidsL l a s
def kidsL:List T->Nat->Lay->Lay
 | []=>fun _ s=>s
 | t::ts=>fun a s=>kidsL ts (a+plT t) (folL t a s)
end
theorem zjh:∀ (l m:List T) (a:Nat) (s:Lay),kidsL (l++m) a s=kidsL m (a+plTL l) (kidsL l a s)
 | [],m,a,s=>by simp[kidsL,plTL]
 | t::l,m,a,s=>by
   simp only[List.cons_append,kidsL,plTL];rw[zjh l m,Nat.add_assoc]
theorem znw (l:List T) (j:Nat) (h:j<l.length) (a:Nat) (s:Lay):kidsL (l.take (j+1)) a s=folL (l[j]'h) (a+plTL (l.take j)) (kidsL (l.take j) a s):=by
 rw[List.take_succ_eq_append_getElem h,zjh];simp[kidsL]
theorem zkm (l:List T) (j:Nat) (h:j<l.length) (ps:List Nat) (a:Nat) (F:List (List Nat)):linkTo (l.drop j) ps a F=if emptyT (l[j]'h) then linkTo (l.drop (j+1)) ps (a+plT (l[j]'h)) (linkAll F ps (fstT (l[j]'h) a)) else linkAll F ps (fstT (l[j]'h) a):=by
 rw[List.drop_eq_getElem_cons h,linkTo]
theorem zkx (l:List T) (i:Nat) (h:i<l.length) (a:Nat) (F:List (List Nat)):crossF (l.drop i) a F=crossF (l.drop (i+1)) (a+plT (l[i]'h)) (linkTo (l.drop (i+1)) (lstT (l[i]'h) a) (a+plT (l[i]'h)) F):=by
 rw[List.drop_eq_getElem_cons h,crossF]
def Gr (F G:List (List Nat)) (n:Nat):Prop:=∀ q,(G.getD q []).length<=(F.getD q []).length+n
theorem Gr.trans {F G H:List (List Nat)} {n m:Nat} (h:Gr F G n) (k:Gr G H m):Gr F H (n+m):=fun q=>by have:=h q;have:=k q;omega
theorem Gr.mono {F G:List (List Nat)} {n m:Nat} (h:Gr F G n) (hm:n<=m):Gr F G m:=fun q=>by have:=h q;omega
theorem zje (F:List (List Nat)) (p:Nat) (ys:List Nat):Gr F (linkAt F p ys) ys.length:=fun q=>by
 rcases Nat.lt_or_ge p F.length with hp|hp
 . rw[zec F p q ys hp];split
   . rename_i e;subst e;rw[List.length_append];exact Nat.le_refl _
   . omega
 . have e:linkAt F p ys=F:=(by rw[linkAt,List.set_eq_of_length_le hp]);rw[e];omega
theorem zgx:∀ (ps:List Nat) (F:List (List Nat)) (ys:List Nat),Gr F (linkAll F ps ys) (ps.length*ys.length)
 | [],F,ys=>fun q=>by simp[linkAll]
 | p::ps,F,ys=>by
   rw[linkAll];refine ((zje F p ys).trans (zgx ps _ ys)).mono ?_;rw[List.length_cons,Nat.succ_mul];omega
def cr:List T->Nat
 | []=>0
 | t::ts=>plT t*plTL ts+cr ts
def sq:List T->Nat
 | []=>0
 | t::ts=>plT t*plT t+sq ts
theorem zux:∀ l:List T,sq l+cr l<=plTL l*plTL l
 | []=>by simp[sq,cr]
 | t::ts=>by
   have h:=zux ts;simp only[sq,cr,plTL];have e:(plT t+plTL ts)*(plT t+plTL ts)=plT t*plT t+plT t*plTL ts+plT t*plTL ts+plTL ts*plTL ts:=by
     rw[Nat.mul_add,Nat.add_mul,Nat.add_mul,Nat.mul_comm (plTL ts) (plT t)];omega
   omega
theorem zp2:∀ l m:List T,sq (l++m)=sq l+sq m
 | [],m=>by simp[sq]
 | t::l,m=>by simp only[List.cons_append,sq];rw[zp2 l m];omega
theorem zuw (l:List T) (j:Nat) (h:j<l.length):sq (l.take (j+1))=sq (l.take j)+plT (l[j]'h)*plT (l[j]'h):=by
 rw[List.take_succ_eq_append_getElem h,zp2];simp[sq]
theorem znb (l:List T) (j:Nat):sq (l.take j)<=sq l:=by
 have h:=zp2 (l.take j) (l.drop j);rw[List.take_append_drop] at h;omega
theorem zvz (l:List T) (i:Nat) (h:i<l.length):cr (l.drop i)=plT (l[i]'h)*plTL (l.drop (i+1))+cr (l.drop (i+1)):=by
 rw[List.drop_eq_getElem_cons h,cr]
theorem zpo (l:List T) (i:Nat) (h:i<l.length):plTL (l.drop i)=plT (l[i]'h)+plTL (l.drop (i+1)):=by
 rw[List.drop_eq_getElem_cons h,plTL]
theorem zjd:∀ (l:List T) (ps:List Nat) (a:Nat) (F:List (List Nat)),Gr F (linkTo l ps a F) (ps.length*plTL l)
 | [],ps,a,F=>fun q=>by simp[linkTo]
 | t::ts,ps,a,F=>by
   have h1:=zgx ps F (fstT t a);have h2:ps.length*(fstT t a).length<=ps.length*plT t:=Nat.mul_le_mul_left _ (zeg t a);rw[linkTo,plTL,Nat.mul_add];split
   . exact (h1.trans (zjd ts ps _ _)).mono (by omega)
   . exact h1.mono (by omega)
theorem zjq:∀ (l:List T) (a:Nat) (F:List (List Nat)),Gr F (crossF l a F) (cr l)
 | [],a,F=>fun q=>by simp[crossF]
 | t::ts,a,F=>by
   have h1:=zjd ts (lstT t a) (a+plT t) F;have h2:(lstT t a).length*plTL ts<=plT t*plTL ts:=Nat.mul_le_mul_right _ (ze9 t a);rw[crossF,cr];exact (h1.trans (zjq ts _ _)).mono (by omega)
mutual
theorem zrg:∀ (t:T) (a:Nat) (s:Lay),Gr s.follow (folL t a s).follow (plT t*plT t)
 | .mk op p lo hi l,a,s=>by
   have h:=zew l a s;have h2:=zux l;have hp:plTL l*plTL l<=plT (.mk op p lo hi l)*plT (.mk op p lo hi l):=by
     have:plTL l<=plT (.mk op p lo hi l):=by simp[plT]
     exact Nat.mul_le_mul this this
   rw[folL];split
   . exact fun q=>by simp
   . split
     . exact (h.trans (zjq l a _)).mono (by omega)
     . exact h.mono (by omega)
theorem zew:∀ (l:List T) (a:Nat) (s:Lay),Gr s.follow (kidsL l a s).follow (sq l)
 | [],a,s=>fun q=>by simp[kidsL]
 | t::ts,a,s=>by
   rw[kidsL,sq];exact (zrg t a s).trans (zew ts _ _)
end
theorem zeb:∀ (l:List T) (ps:List Nat) (a:Nat) (F:List (List Nat)),(linkTo l ps a F).length=F.length
 | [],ps,a,F=>rfl
 | t::ts,ps,a,F=>by
   rw[linkTo];split
   . rw[zeb,zbw]
   . rw[zbw]
theorem zh7:∀ (l:List T) (a:Nat) (F:List (List Nat)),(crossF l a F).length=F.length
 | [],a,F=>rfl
 | t::ts,a,F=>by rw[crossF,zh7,zeb]
mutual
theorem zdx:∀ (t:T) (a:Nat) (s:Lay),(folL t a s).sets.length=s.sets.length∧(folL t a s).follow.length=s.follow.length
 | .mk op p lo hi l,a,s=>by
   have h:=zfo l a s;rw[folL];split
   . simp
   . split
     . exact⟨h.1,by rw[zh7];exact h.2⟩
     . exact h
theorem zfo:∀ (l:List T) (a:Nat) (s:Lay),(kidsL l a s).sets.length=s.sets.length∧(kidsL l a s).follow.length=s.follow.length
 | [],a,s=>by simp[kidsL]
 | t::ts,a,s=>by
   have h:=zdx t a s;have h2:=zfo ts (a+plT t) (folL t a s);rw[kidsL];exact⟨h2.1.trans h.1,h2.2.trans h.2⟩
end
def crs:List T->Nat->Nat->Nat->Prop
 | [],_,_,_=>False
 | t::ts,a,q,r=>(q∈lstT t a∧r∈catF ts (a+plT t))∨crs ts (a+plT t) q r
theorem zh9:∀ (l:List T) (a q r:Nat),catFol l a q r↔altFol l a q r∨crs l a q r
 | [],a,q,r=>by simp[catFol,altFol,crs]
 | t::ts,a,q,r=>by
   simp only[catFol,altFol,crs,zh9 ts];constructor
   . rintro (h|(h|h)|h)
     . exact .inl (.inl h)
     . exact .inl (.inr h)
     . exact .inr (.inr h)
     . exact .inr (.inl h)
   . rintro ((h|h)|(h|h))
     . exact .inl h
     . exact .inr (.inl (.inl h))
     . exact .inr (.inr h)
     . exact .inr (.inl (.inr h))
mutual
theorem zjc:∀ (t:T) (a q:Nat),q∈lstT t a->a<=q∧q<a+plT t
 | .mk op p lo hi l,a,q=>by
   have h1:=zrs l a q;have h2:=zs8 l a q;simp only[lstT,plT];split
   . intro h;simp at h;omega
   . split
     . intro h;have:=h1 h;omega
     . intro h;have:=h2 h;omega
theorem zrs:∀ (l:List T) (a q:Nat),q∈catB l a->a<=q∧q<a+plTL l
 | [],a,q=>by simp[catB]
 | t::ts,a,q=>by
   have h1:=zjc t a q;have h2:=zrs ts (a+plT t) q;simp only[catB,plTL,List.mem_append];rintro (h|h)
   . have:=h2 h;omega
   . split at h
     . have:=h1 h;omega
     . simp at h
theorem zs8:∀ (l:List T) (a q:Nat),q∈altB l a->a<=q∧q<a+plTL l
 | [],a,q=>by simp[altB]
 | t::ts,a,q=>by
   have h1:=zjc t a q;have h2:=zs8 ts (a+plT t) q;simp only[altB,plTL,List.mem_append];rintro (h|h)
   . have:=h2 h;omega
   . have:=h1 h;omega
end
theorem zgw:∀ (l:List T) (ps:List Nat) (a:Nat) (F:List (List Nat)),(∀ p∈ps,p<F.length)->∀ q r,r∈(linkTo l ps a F).getD q []↔r∈F.getD q []∨(q∈ps∧r∈catF l a)
 | [],ps,a,F,_,q,r=>by simp[linkTo,catF]
 | t::ts,ps,a,F,h,q,r=>by
   have h1:=zdb ps F (fstT t a) h q r;rw[linkTo,catF];split
   . rw[zgw ts ps _ _ (fun p hp=>by rw[zbw];exact h p hp),h1,List.mem_append];constructor
     . rintro ((h|h)|h)
       . exact .inl h
       . exact .inr ⟨h.1,.inl h.2⟩
       . exact .inr ⟨h.1,.inr h.2⟩
     . rintro (h|⟨h,h' | h'⟩)
       . exact .inl (.inl h)
       . exact .inl (.inr ⟨h,h'⟩)
       . exact .inr ⟨h,h'⟩
   . rw[h1];simp
theorem zh6:∀ (l:List T) (a:Nat) (F:List (List Nat)),a+plTL l<=F.length->∀ q r,r∈(crossF l a F).getD q []↔r∈F.getD q []∨crs l a q r
 | [],a,F,_,q,r=>by simp[crossF,crs]
 | t::ts,a,F,h,q,r=>by
   rw[plTL] at h;rw[crossF,zh6 ts _ _ (by rw[zeb];omega),zgw _ _ _ _ (fun p hp=>by have:=zjc t a p hp;omega),crs,or_assoc]
mutual
theorem zmm:∀ (t:T) (a:Nat) (s:Lay),a+plT t<=s.follow.length->∀ q r,r∈(folL t a s).follow.getD q []↔r∈s.follow.getD q []∨folT t a q r
 | .mk op p lo hi l,a,s,h,q,r=>by
   rw[plT] at h;have h1:=zjg l a s (by omega) q r;simp only[folL,folT]
   by_cases e1:op=1
   . rw[if_pos e1];simp[e1]
   . rw[if_neg e1]
     by_cases e2:op=2
     . rw[if_pos e2,if_pos e2];rw[zh6 l a _ (by rw[(zfo l a s).2];omega),h1,zh9,or_assoc];simp[e1]
     . rw[if_neg e2,if_neg e2,h1];simp[e1]
theorem zjg:∀ (l:List T) (a:Nat) (s:Lay),a+plTL l<=s.follow.length->∀ q r,r∈(kidsL l a s).follow.getD q []↔r∈s.follow.getD q []∨altFol l a q r
 | [],a,s,h,q,r=>by simp[kidsL,altFol]
 | t::ts,a,s,h,q,r=>by
   rw[plTL] at h;rw[kidsL,altFol,zjg ts _ _ (by rw[(zdx t a s).2];omega),zmm t a s (by omega),or_assoc]
end
theorem zwd (S:List (Nat->Bool)) (a:Nat) (u v:List (Nat->Bool)) (h:a+u.length+v.length<=S.length):
   (S.take a++u++S.drop (a+u.length)).take (a+u.length)++v++(S.take a++u++S.drop (a+u.length)).drop (a+u.length+v.length)=S.take a++(u++v)++S.drop (a+(u++v).length):=by
 have hl:(S.take a++u).length=a+u.length:=(by simp;omega);rw[List.take_left' hl,List.drop_append,List.drop_eq_nil_of_le (by omega),hl,List.drop_drop];simp only[List.nil_append,List.length_append,List.append_assoc]
 congr 4
 omega
mutual
theorem zjo:∀ (t:T),FT t->∀ (a:Nat) (s:Lay),a+plT t<=s.sets.length->(folL t a s).sets=s.sets.take a++setT t++s.sets.drop (a+plT t)
 | .mk op p lo hi l,hft,a,s,h=>by
   have hop:=hft.op;have hk:∀ x∈l,FT x:=by cases hft with | mk op p l hop hN h=>exact h
   simp only[T.op,T.kids] at hop;rw[plT] at h;simp only[folL,setT,plT]
   by_cases e1:op=1
   . have el:l=[]:=by rcases hop with h | h | h | h <;> first | exact h.2 | omega
     subst el;rw[if_pos e1,if_pos e1,if_pos e1];simp only[plTL,setTL,List.append_nil,Nat.add_zero];have ha:a<s.sets.length:=(by rw[if_pos e1] at h;omega);rw[List.set_eq_take_append_cons_drop,if_pos ha];simp
   . rw[if_neg e1] at h;have h1:=zgy l hk a s (by omega);rw[if_neg e1,if_neg e1,if_neg e1];simp only[List.nil_append,Nat.zero_add];split
     . exact h1
     . exact h1
theorem zgy:∀ (l:List T),(∀ x∈l,FT x)->∀ (a:Nat) (s:Lay),a+plTL l<=s.sets.length->(kidsL l a s).sets=s.sets.take a++setTL l++s.sets.drop (a+plTL l)
 | [],hk,a,s,h=>by simp[kidsL,setTL,plTL]
 | t::ts,hk,a,s,h=>by
   rw[plTL] at h;have h1:=zjo t (hk t (by simp)) a s (by omega);have h2:=zgy ts (fun x hx=>hk x (by simp[hx])) (a+plT t) (folL t a s) (by rw[(zdx t a s).1];omega);rw[kidsL,h2,h1,setTL,plTL];have e1:=zf9 t;have e2:=zhu ts;have:=zwd s.sets a (setT t) (setTL ts) (by omega);rw[←e1,←e2] at this;rw[this,List.length_append,←e1,←e2]
end
end Go.Proofs.YtgbdanddbgomhaaDoor
