import Derived.Test.YtipfgpfplakhiaaTc4
set_option linter.unusedVariables false
set_option linter.unusedSimpArgs false
namespace Go.Proofs.Ytipfgpfplakhiaa
open Go
section
inductive T where
 | mk (op:Int) (p:Nat->Bool) (lo hi:Int) (kids:List T)
def T.one (p:Nat->Bool):T := .mk 1 p 0 0 []
def T.rep (lo hi:Int) (t:T):T := .mk 4 zaa lo hi [t]
def T.zero:T := .mk 0 zaa 0 0 []
def T.many (op:Int) (l:List T):T:=match l with
 | [t]=>t
 | l => .mk op zaa 0 0 l
abbrev R (α:Type):=Except (Int×Int) (α×Nat)
def zca {α:Type} (step:α->Nat->Option (R α)):Nat->α->Nat->R α
 | 0,a,p => .ok (a,p)
 | n+1,a,p=>match step a p with
  | none => .ok (a,p)
  | some (.error e) => .error e
  | some (.ok (a',p'))=>zca step n a' p'
def zbd {α β:Type} (r:R α) (f:α->Nat->R β):R β:=match r with
 | .error e => .error e
 | .ok (a,p)=>f a p
section
variable (s:ByteArray)
def isB (pos:Nat) (c:Nat):Bool:=decide (pos<s.size)&&bt s pos==c
def yex:ByteArray:=⟨#[92,46,91,93,40,41,123,125,124,63,42,43,94,36,45,47]⟩
def ztb:ByteArray:=⟨#[93,41,125,123,124,63,94,36]⟩
def cEsc (pos:Nat):R Int:=
 if pos<s.size then
  if bt s pos=110 then .ok (10,pos+1) else if bt s pos=116 then .ok (9,pos+1)
  else if inT (bt s pos:Int) yex=true then .ok ((bt s pos:Int),pos+1) else .error (2,(pos:Int))
 else .error (2,(pos:Int))
def cMem (pos:Nat):R Int:=
 if pos<s.size then
  if bt s pos=93 then .error (2,(pos:Int)) else if bt s pos=92 then cEsc s (pos+1) else .ok ((bt s pos:Int),pos+1)
 else .error (2,(pos:Int))
def zix (pos:Nat):Bool:=isB s pos 92&&decide (pos+1<s.size)&&zeh (bt s (pos+1):Int)
def ziy (pos:Nat):R (Nat->Bool):=
 if zix s pos=true then .ok (zay (bt s (pos+1):Int),pos+2) else
 zbd (cMem s pos) fun lo p1 =>
  if isB s p1 45=true then zbd (cMem s (p1+1)) fun hi p3=>if hi<lo then .error (2,(p3:Int)-1) else .ok (zat lo hi,p3)
  else .ok (zat lo lo,p1)
def zc7 (q:Nat->Bool) (pos:Nat):Option (R (Nat->Bool)):=
 if isB s pos 93=true then none else some (zbd (ziy s pos) fun r p => .ok (orP q r,p))
def zit (pos:Nat):R (Nat->Bool):=
 zbd (zbd (ziy s (if isB s pos 94=true then pos+1 else pos)) (zca (zc7 s) (s.size+1))) fun q p =>
  .ok (if isB s pos 94=true then notP q else q,p+1)
def isD (pos:Nat):Bool:=decide (pos<s.size)&&decide (48<=bt s pos)&&decide (bt s pos<=57)
def cNum (pos:Nat):R Int:=
 if isD s pos=true then
  if isD s (pos+1)=true then .ok (10*((bt s pos:Int)-48)+((bt s (pos+1):Int)-48),pos+2) else .ok ((bt s pos:Int)-48,pos+1)
 else .error (2,(pos:Int))
def zht (pos:Nat):R (Int×Int):=
 zbd (cNum s pos) fun lo p =>
  zbd (if isB s p 44=true then cNum s (p+1) else .ok (lo,p)) fun hi q =>
   if isB s q 125=true∧1<=hi∧hi<=32∧lo<=hi then .ok ((lo,hi),q+1) else .error (2,(q:Int))
def zl1 (deep:Option (Nat->R T)) (pos:Nat):R T:=
 if pos<s.size then
  if bt s pos=40 then (match deep with
   | none => .error (4,(pos:Int))
   | some f=>zbd (f (pos+1)) fun t p=>if isB s p 41=true then .ok (t,p+1) else .error (2,(p:Int)))
  else if bt s pos=91 then zbd (zit s (pos+1)) fun q p => .ok (.one q,p)
  else if bt s pos=46 then .ok (.one (notP (zat 10 10)),pos+1)
  else if bt s pos=92 then
   if zix s pos=true then .ok (.one (zay (bt s (pos+1):Int)),pos+2)
   else zbd (cEsc s (pos+1)) fun b p => .ok (.one (zat b b),p)
  else if bt s pos=42∨bt s pos=43 then .error (3,(pos:Int))
  else if inT (bt s pos:Int) ztb=true then .error (2,(pos:Int))
  else .ok (.one (zat (bt s pos:Int) (bt s pos:Int)),pos+1)
 else .error (2,(pos:Int))
def zda (t:T) (pos:Nat):Option (R T):=
 if isB s pos 63=true then some (.ok (.rep 0 1 t,pos+1))
 else if isB s pos 123=true then some (zbd (zht s (pos+1)) fun m p => .ok (.rep m.1 m.2 t,p))
 else none
def zey (deep:Option (Nat->R T)) (pos:Nat):R T:=zbd (zl1 s deep pos) (zca (zda s) (s.size+1))
def zcd (deep:Option (Nat->R T)) (top:Bool) (l:List T) (pos:Nat):Option (R (List T)):=
 if pos<s.size∧bt s pos≠124∧(bt s pos≠41∨top=true) then some (zbd (zey s deep pos) fun t p => .ok (l++[t],p)) else none
def zhu (deep:Option (Nat->R T)) (top:Bool) (pos:Nat):R T:=
 zbd (zbd (zey s deep pos) fun t p=>zca (zcd s deep top) (s.size+1) [t] p) fun l p => .ok (.many 2 l,p)
def zdl (deep:Option (Nat->R T)) (top:Bool) (l:List T) (pos:Nat):Option (R (List T)):=
 if isB s pos 124=true then some (zbd (zhu s deep top (pos+1)) fun t p => .ok (l++[t],p)) else none
def cPat (deep:Option (Nat->R T)) (top:Bool) (pos:Nat):R T:=
 zbd (zbd (zhu s deep top pos) fun t p=>zca (zdl s deep top) (s.size+1) [t] p) fun l p => .ok (.many 3 l,p)
def pat:Nat->Bool->Nat->R T
 | 0,top,pos=>cPat s none top pos
 | d+1,top,pos=>cPat s (some (pat d false)) top pos
def parse:Except (Int×Int) T:=
 if 200<s.size then .error (4,0) else match pat s 20 true 0 with
 | .error e => .error e
 | .ok (t,_) => .ok t
end
def Fwd {α:Type} (s:ByteArray) (pos:Nat) (r:R α):Prop:=match r with
 | .ok (_,p)=>pos<p∧p<=s.size
 | .error (c,a)=>0<c∧0<=a
section
variable {s:ByteArray} {α β:Type}
theorem zhh {pos c:Nat} (h:isB s pos c=true):pos<s.size∧bt s pos=c:=by simpa [isB] using h
theorem Fwd.mono {r:R α} {p q:Nat} (h:Fwd s q r) (hp:p<=q):Fwd s p r:=by
 unfold Fwd at *;split <;> simp_all
 omega
theorem Fwd.bind {r:R α} {f:α->Nat->R β} {pos:Nat} (h:Fwd s pos r) (hf:∀ a p,pos<p->p<=s.size->Fwd s pos (f a p)):Fwd s pos (zbd r f):=by
 unfold zbd
 match r,h with
 | .error e,h=>exact h
 | .ok (a,p),h=>exact hf a p h.1 h.2
theorem Fwd.loop {step:α->Nat->Option (R α)} (hs:∀ a p r,p<=s.size->step a p=some r->Fwd s p r):∀ (n:Nat) (a:α) (pos p:Nat),pos<p->p<=s.size->Fwd s pos (zca step n a p)
 | 0,a,pos,p,h1,h2=>⟨h1,h2⟩
 | n+1,a,pos,p,h1,h2=>by
  unfold zca;cases h:step a p with
  | none=>exact⟨h1,h2⟩
  | some r =>
   have:=hs a p r h2 h
   match r,this with
   | .error e,h=>exact h
   | .ok (a',p'),h=>exact Fwd.loop hs n a' pos p' (Nat.lt_trans h1 h.1) h.2
end
section
variable (s:ByteArray)
theorem zy1 (pos:Nat):Fwd s pos (cEsc s pos):=by
 unfold cEsc;split
 .split
  .exact⟨by omega,by omega⟩
  .split
   .exact⟨by omega,by omega⟩
   .split
    .exact⟨by omega,by omega⟩
    .simp[Fwd]
 .simp[Fwd]
theorem zwq (pos:Nat):Fwd s pos (cMem s pos):=by
 unfold cMem;split
 .split
  .simp[Fwd]
  .split
   .exact (zy1 s (pos+1)).mono yjz
   .simp[Fwd];omega
 .simp[Fwd]
theorem zs3 (pos:Nat):Fwd s pos (ziy s pos):=by
 unfold ziy;split
 .rename_i h;simp[zix] at h;simp[Fwd];omega
 .refine (zwq s pos).bind fun lo p1 h1 h2=>?_
  split
  .rename_i h;have:=zhh h;refine Fwd.bind ((zwq s (p1+1)).mono yjz) fun hi p3 h3 h4=>?_
   split
   .simp[Fwd];omega
   .exact⟨h3,h4⟩
  .exact⟨h1,h2⟩
theorem zkq (q:Nat->Bool) (p:Nat) (r:R (Nat->Bool)) (h:zc7 s q p=some r):Fwd s p r:=by
 unfold zc7 at h;split at h
 .cases h
 .cases h;exact (zs3 s p).bind fun a p' h1 h2=>⟨h1,h2⟩
theorem zsi:∀ (n:Nat) (q:Nat->Bool) (p:Nat),p<=s.size->s.size+1-p<=n->(∃ e,zca (zc7 s) n q p = .error e∧0<e.1∧0<=e.2)∨∃ q' p',zca (zc7 s) n q p = .ok (q',p')∧isB s p' 93=true∧p<=p'
 | 0,q,p,h1,h2=>by omega
 | n+1,q,p,h1,h2=>by
  unfold zca;cases h:zc7 s q p with
  | none =>
   right;refine⟨q,p,rfl,?_,ygo _⟩;unfold zc7 at h;split at h
   .assumption
   .cases h
  | some r =>
   have:=zkq s q p r h
   match r,this with
   | .error e,h=>exact .inl ⟨e,rfl,h⟩
   | .ok (a',p'),h =>
    have h3:=h.1;rcases zsi n a' p' h.2 yjz with h4|⟨q2,p2,h4,h5,h6⟩
    .exact .inl h4
    .exact .inr ⟨q2,p2,h4,h5,by omega⟩
theorem zyc (pos:Nat):Fwd s pos (zit s pos):=by
 unfold zit;have h0:Fwd s pos (ziy s (if isB s pos 94=true then pos+1 else pos)):=by split <;> exact (zs3 s _).mono yjz
 revert h0;generalize ziy s (if isB s pos 94=true then pos+1 else pos)=r;intro h0
 match r,h0 with
 | .error e,h0=>exact h0
 | .ok (q,p),h0 =>
  have h1:=h0.1;have h2:=h0.2;rcases zsi s (s.size+1) q p h2 yjz with ⟨e,h3,h4⟩|⟨q',p',h3,h4,h5⟩
  .show Fwd s pos (zbd (zca (zc7 s) (s.size+1) q p) _)
   rw[h3];exact h4
  .show Fwd s pos (zbd (zca (zc7 s) (s.size+1) q p) _)
   rw[h3];have:=zhh h4;exact⟨by omega,by omega⟩
theorem zwf (pos:Nat):Fwd s pos (cNum s pos):=by
 unfold cNum;split
 .rename_i h;simp[isD] at h;split
  .rename_i h';simp[isD] at h';simp[Fwd];omega
  .simp[Fwd];omega
 .simp[Fwd]
theorem zv3 (pos:Nat):Fwd s pos (zht s pos):=by
 unfold zht;refine (zwf s pos).bind fun lo p h1 h2=>?_
 have h0:Fwd s pos (if isB s p 44=true then cNum s (p+1) else .ok (lo,p)):=by
  split
  .exact (zwf s _).mono yjz
  .exact⟨h1,h2⟩
 refine h0.bind fun hi q h3 h4=>?_
 split
 .rename_i h;have:=zhh h.1;exact⟨by omega,by omega⟩
 .simp[Fwd]
theorem yc9 (deep:Option (Nat->R T)) (hd:∀ f,deep=some f->∀ p,p<=s.size->Fwd s p (f p)) (pos:Nat):Fwd s pos (zl1 s deep pos):=by
 unfold zl1;split
 .split
  .cases deep with
   | none=>simp[Fwd]
   | some f =>
    refine Fwd.bind ((hd f rfl (pos+1) yjz).mono yjz) fun t p h1 h2=>?_
    split
    .rename_i h;have:=zhh h;exact⟨by omega,by omega⟩
    .simp[Fwd]
  .split
   .exact Fwd.bind ((zyc s (pos+1)).mono yjz) fun q p h1 h2=>⟨h1,h2⟩
   .split
    .exact⟨by omega,by omega⟩
    .split
     .split
      .rename_i h;simp[zix] at h;exact⟨by omega,by omega⟩
      .exact Fwd.bind ((zy1 s (pos+1)).mono yjz) fun q p h1 h2=>⟨h1,h2⟩
     .split
      .simp[Fwd]
      .split
       .simp[Fwd]
       .exact⟨by omega,by omega⟩
 .simp[Fwd]
theorem zgq (t:T) (p:Nat) (r:R T) (h:zda s t p=some r):Fwd s p r:=by
 unfold zda at h;split at h
 .rename_i h1;have:=zhh h1;cases h;exact⟨by omega,by omega⟩
 .split at h
  .cases h;exact Fwd.bind ((zv3 s (p+1)).mono yjz) fun q p h1 h2=>⟨h1,h2⟩
  .cases h
variable (deep:Option (Nat->R T)) (hd:∀ f,deep=some f->∀ p,p<=s.size->Fwd s p (f p)) (top:Bool)
include hd
theorem zod (pos:Nat):Fwd s pos (zey s deep pos):=
 (yc9 s deep hd pos).bind fun t p h1 h2=>Fwd.loop (fun a p r _ h=>zgq s a p r h) _ t pos p h1 h2
theorem zip (l:List T) (p:Nat) (r:R (List T)) (h:zcd s deep top l p=some r):Fwd s p r:=by
 unfold zcd at h;split at h
 .cases h;exact (zod s deep hd p).bind fun a p' h1 h2=>⟨h1,h2⟩
 .cases h
theorem zrk (pos:Nat):Fwd s pos (zhu s deep top pos):=
 Fwd.bind ((zod s deep hd pos).bind fun t p h1 h2=>Fwd.loop (fun a p r _ h=>zip s deep hd top a p r h) _ [t] pos p h1 h2) fun l p h1 h2=>⟨h1,h2⟩
theorem zju (l:List T) (p:Nat) (r:R (List T)) (h:zdl s deep top l p=some r):Fwd s p r:=by
 unfold zdl at h;split at h
 .cases h;exact Fwd.bind ((zrk s deep hd top (p+1)).mono yjz) fun a p' h1 h2=>⟨h1,h2⟩
 .cases h
theorem zso (pos:Nat):Fwd s pos (cPat s deep top pos):=
 Fwd.bind ((zrk s deep hd top pos).bind fun t p h1 h2=>Fwd.loop (fun a p r _ h=>zju s deep hd top a p r h) _ [t] pos p h1 h2) fun l p h1 h2=>⟨h1,h2⟩
omit hd
theorem zw5:∀ (d:Nat) (top:Bool) (pos:Nat),Fwd s pos (pat s d top pos)
 | 0,top,pos=>zso s none (fun f h=>by cases h) top pos
 | d+1,top,pos=>zso s (some (pat s d false)) (fun f h p _=>by cases h;exact zw5 d false p) top pos
end
end
section
structure Made (N:Nat) (Q:T->Prop):Prop where
 one:∀ p,Q (.one p)
 rep:∀ m n t,0<=m->m<=n->1<=n->n<=32->Q t->Q (.rep m n t)
 cat:∀ l,2<=l.length->l.length<=N->(∀ x∈l,Q x)->Q (.mk 2 zaa 0 0 l)
 alt:∀ l,2<=l.length->l.length<=N->(∀ x∈l,Q x)->Q (.mk 3 zaa 0 0 l)
theorem ydg {s:ByteArray} {p q:Nat} {m:Int} (h:cNum s p = .ok (m,q)):0<=m:=by
 unfold cNum at h
 by_cases h1:isD s p=true
 .rw[if_pos h1] at h;simp[isD] at h1
  by_cases h2:isD s (p+1)=true
  .rw[if_pos h2] at h;simp[isD] at h2;injection h with h;injection h with h _
   omega
  .rw[if_neg h2] at h;injection h with h;injection h with h _
   omega
 .rw[if_neg h1] at h;cases h
theorem zt7 {s:ByteArray} {p q:Nat} {m n:Int} (h:zht s p = .ok ((m,n),q)):0<=m∧m<=n∧1<=n∧n<=32:=by
 unfold zht at h;cases hc:cNum s p with
 | error e=>rw[hc] at h;cases h
 | ok x =>
  rw[hc] at h;simp only[zbd] at h;have h0:=ydg (m:=x.1) (q:=x.2) hc;cases hd:(if isB s x.2 44=true then cNum s (x.2+1) else (.ok (x.1,x.2):R Int)) with
  | error e=>rw[hd] at h;cases h
  | ok y =>
   rw[hd] at h;simp only at h
   by_cases hk:isB s y.2 125=true∧1<=y.1∧y.1<=32∧x.1<=y.1
   .rw[if_pos hk] at h;injection h with h;injection h with h _;injection h with h1 h2
    subst h1 h2;exact⟨h0,hk.2.2.2,hk.2.1,hk.2.2.1⟩
   .rw[if_neg hk] at h;cases h
theorem zru {op:Int} {l:List T} {Q:T->Prop} (h1:1<=l.length) (hl:∀ x∈l,Q x) (hm:2<=l.length->Q (.mk op zaa 0 0 l)):Q (T.many op l):=by
 unfold T.many;split
 .rename_i z;exact hl z yk3
 .rename_i hne;refine hm ?_
  match l,h1,hne with
  | [x],_,hne=>exact absurd rfl (hne x)
  | _::_::_,_,_=>simp
section
variable {s:ByteArray} {Q:T->Prop} (hQ:Made (s.size+2) Q) {d:Option (Nat->R T)} {top:Bool} (hd:∀ f,d=some f->∀ p t q,f p = .ok (t,q)->Q t)
include hQ hd
theorem Made.atom {p q:Nat} {t:T} (h:zl1 s d p = .ok (t,q)):Q t:=by
 unfold zl1 at h
 by_cases hlt:p<s.size
 .rw[if_pos hlt] at h;split at h
  .cases d with
   | none=>cases h
   | some f =>
    simp only at h;cases hc:f (p+1) with
    | error e=>rw[hc] at h;cases h
    | ok x =>
     rw[hc] at h;simp only[zbd] at h;split at h
     .injection h with h;injection h with h _;rw[←h];exact hd f rfl (p+1) x.1 x.2 hc
     .cases h
  .split at h
   .cases hc:zit s (p+1) with
    | error e=>rw[hc] at h;cases h
    | ok x=>rw[hc] at h;injection h with h;injection h with h _;rw[←h];exact hQ.one _
   .split at h
    .injection h with h;injection h with h _;rw[←h];exact hQ.one _
    .split at h
     .split at h
      .injection h with h;injection h with h _;rw[←h];exact hQ.one _
      .cases hc:cEsc s (p+1) with
       | error e=>rw[hc] at h;cases h
       | ok x=>rw[hc] at h;injection h with h;injection h with h _;rw[←h];exact hQ.one _
     .split at h
      .cases h
      .split at h
       .cases h
       .injection h with h;injection h with h _;rw[←h];exact hQ.one _
 .rw[if_neg hlt] at h;cases h
omit hd in
theorem Made.rloop:∀ (n:Nat) (t:T) (p:Nat) (t':T) (q:Nat),Q t->zca (zda s) n t p = .ok (t',q)->Q t'
 | 0,t,p,t',q,h0,h=>by unfold zca at h;injection h with h;injection h with h _;rw[←h];exact h0
 | n+1,t,p,t',q,h0,h=>by
  unfold zca zda at h
  by_cases h63:isB s p 63=true
  .rw[if_pos h63] at h;exact Made.rloop n _ _ t' q (hQ.rep _ _ _ yjz yjz yjz yjz h0) h
  .rw[if_neg h63] at h
   by_cases h123:isB s p 123=true
   .rw[if_pos h123] at h;cases hc:zht s (p+1) with
    | error e=>rw[hc] at h;cases h
    | ok x =>
     rw[hc] at h;obtain⟨g1,g2,g3,g4⟩:=zt7 (m:=x.1.1) (n:=x.1.2) (q:=x.2) hc;exact Made.rloop n _ _ t' q (hQ.rep _ _ _ g1 g2 g3 g4 h0) h
   .rw[if_neg h123] at h;injection h with h;injection h with h _;rw[←h];exact h0
theorem Made.piece {p q:Nat} {t:T} (h:zey s d p = .ok (t,q)):Q t:=by
 unfold zey at h;cases hc:zl1 s d p with
 | error e=>rw[hc] at h;cases h
 | ok x =>
  rw[hc] at h;exact hQ.rloop _ x.1 x.2 t q (hQ.atom hd hc) h
theorem Made.ploop:∀ (n:Nat) (l:List T) (p:Nat) (l':List T) (q:Nat),1<=l.length->(∀ x∈l,Q x)->zca (zcd s d top) n l p = .ok (l',q)->(∀ x∈l',Q x)∧1<=l'.length∧l'.length<=l.length+n
 | 0,l,p,l',q,hl,h0,h=>by unfold zca at h;injection h with h;injection h with h _;rw[←h];exact⟨h0,hl,by omega⟩
 | n+1,l,p,l',q,hl,h0,h=>by
  unfold zca zcd at h;split at h
  .injection h with h;injection h with h _;rw[←h];exact⟨h0,hl,by omega⟩
  .cases h
  .rename_i a' p' e;split at e
   .cases hc:zey s d p with
    | error e'=>rw[hc] at e;injection e with e;cases e
    | ok x =>
     rw[hc] at e;injection e with e
     injection e with e
     injection e with e1 e2
     have k:=Made.ploop n a' p' l' q (by rw[←e1];simp) (fun y hy=>?_) h
     .refine⟨k.1,k.2.1,?_⟩;have:=k.2.2;rw[←e1] at this;simp at this;omega
     rw[←e1] at hy;rcases yh7.1 hy with hy|hy
     .exact h0 y hy
     .simp at hy;rw[hy];exact hQ.piece hd (q:=x.2) hc
   .cases e
theorem Made.part {p q:Nat} {t:T} (h:zhu s d top p = .ok (t,q)):Q t:=by
 unfold zhu at h;cases hc:zey s d p with
 | error e=>rw[hc] at h;cases h
 | ok x =>
  rw[hc] at h;simp only[zbd] at h;cases hl:zca (zcd s d top) (s.size+1) [x.1] x.2 with
  | error e=>rw[hl] at h;cases h
  | ok y =>
   rw[hl] at h;have k:=hQ.ploop hd _ [x.1] x.2 y.1 y.2 yk3 (fun z hz=>by simp at hz;rw[hz];exact hQ.piece hd (q:=x.2) hc) hl;injection h with h
   injection h with h _
   rw[←h];exact zru k.2.1 k.1 fun h2=>hQ.cat _ h2 (by have:=k.2.2;simp at this;omega) k.1
theorem Made.loop:∀ (n:Nat) (l:List T) (p:Nat) (l':List T) (q:Nat),1<=l.length->(∀ x∈l,Q x)->zca (zdl s d top) n l p = .ok (l',q)->(∀ x∈l',Q x)∧1<=l'.length∧l'.length<=l.length+n
 | 0,l,p,l',q,hl,h0,h=>by unfold zca at h;injection h with h;injection h with h _;rw[←h];exact⟨h0,hl,by omega⟩
 | n+1,l,p,l',q,hl,h0,h=>by
  unfold zca zdl at h;split at h
  .injection h with h;injection h with h _;rw[←h];exact⟨h0,hl,by omega⟩
  .cases h
  .rename_i a' p' e;split at e
   .cases hc:zhu s d top (p+1) with
    | error e'=>rw[hc] at e;injection e with e;cases e
    | ok x =>
     rw[hc] at e;injection e with e
     injection e with e
     injection e with e1 e2
     have k:=Made.loop n a' p' l' q (by rw[←e1];simp) (fun y hy=>?_) h
     .refine⟨k.1,k.2.1,?_⟩;have:=k.2.2;rw[←e1] at this;simp at this;omega
     rw[←e1] at hy;rcases yh7.1 hy with hy|hy
     .exact h0 y hy
     .simp at hy;rw[hy];exact hQ.part hd (q:=x.2) hc
   .cases e
theorem Made.cpat {p q:Nat} {t:T} (h:cPat s d top p = .ok (t,q)):Q t:=by
 unfold cPat at h;cases hc:zhu s d top p with
 | error e=>rw[hc] at h;cases h
 | ok x =>
  rw[hc] at h;simp only[zbd] at h;cases hl:zca (zdl s d top) (s.size+1) [x.1] x.2 with
  | error e=>rw[hl] at h;cases h
  | ok y =>
   rw[hl] at h;have k:=hQ.loop hd _ [x.1] x.2 y.1 y.2 yk3 (fun z hz=>by simp at hz;rw[hz];exact hQ.part hd (q:=x.2) hc) hl;injection h with h
   injection h with h _
   rw[←h];exact zru k.2.1 k.1 fun h2=>hQ.alt _ h2 (by have:=k.2.2;simp at this;omega) k.1
omit hd
theorem Made.pat:∀ (k:Nat) (top:Bool) (p:Nat) (t:T) (q:Nat),pat s k top p = .ok (t,q)->Q t
 | 0,top,p,t,q,h=>hQ.cpat (d:=none) (fun f e=>by cases e) h
 | k+1,top,p,t,q,h=>hQ.cpat (d:=some (Go.Proofs.Ytipfgpfplakhiaa.pat s k false)) (fun f e p t q h=>by cases e;exact Made.pat k false p t q h) h
theorem Made.parse {t:T} (h:Go.Proofs.Ytipfgpfplakhiaa.parse s = .ok t):Q t:=by
 unfold Go.Proofs.Ytipfgpfplakhiaa.parse at h
 by_cases hl:200<s.size
 .rw[if_pos hl] at h;cases h
 .rw[if_neg hl] at h;cases hp:Go.Proofs.Ytipfgpfplakhiaa.pat s 20 true 0 with
  | error e=>rw[hp] at h;cases h
  | ok x =>
   rw[hp] at h;injection h with h
   rw[←h];exact hQ.pat 20 true 0 x.1 x.2 hp
end
theorem ztw {s:ByteArray} {t:T} (h:parse s = .ok t):s.size<=200:=by
 unfold parse at h
 by_cases hl:200<s.size
 .rw[if_pos hl] at h;cases h
 .omega
end
section
open Go Go.RowKit
def T.op:T->Int | .mk op _ _ _ _=>op
def T.set:T->Nat->Bool | .mk _ p _ _ _=>p
def T.lo:T->Int | .mk _ _ lo _ _=>lo
def T.hi:T->Int | .mk _ _ _ hi _=>hi
def T.kids:T->List T | .mk _ _ _ _ l=>l
def zal (t:T) (k:Value):Value := .agg #[.int .i64 t.op,.int .u64 (word t.set 0),.int .u64 (word t.set 1),.int .u64 (word t.set 2),.int .u64 (word t.set 3),.int .i64 t.lo,.int .i64 t.hi,k]
def zb6 (t:T) (k:Value):List Value:=[.int .i64 t.op,.int .u64 (word t.set 0),.int .u64 (word t.set 1),.int .u64 (word t.set 2),.int .u64 (word t.set 3),.int .i64 t.lo,.int .i64 t.hi,k]
theorem zjz (t:T) (k:Value):(zb6 t k).length=8:=rfl
def cellsOf:List T->List Value->List Value
 | t::ts,k::ks=>zb6 t k++cellsOf ts ks
 | _,_=>[]
theorem zgy:∀ (l:List T) (ks:List Value) (t:T) (k:Value),ks.length=l.length->cellsOf (l++[t]) (ks++[k])=cellsOf l ks++zb6 t k
 | [],[],t,k,_=>by simp[cellsOf]
 | t::ts,k::ks,t',k',h=>by
  have:=zgy ts ks t' k' ykc;simp[cellsOf,this]
theorem zkr:∀ (l:List T) (ks:List Value) (i j:Nat) (t:T) (k:Value),l[i]?=some t->ks[i]?=some k->j<8->(cellsOf l ks)[8*i+j]?=(zb6 t k)[j]?
 | [],_,i,j,t,k,h1,_,_=>by simp at h1
 | _::_,[],i,j,t,k,_,h2,_=>by simp at h2
 | t'::ts,k'::ks,0,j,t,k,h1,h2,hj=>by
  simp at h1 h2;subst h1 h2;rw[cellsOf,ygv (by rw[zjz];omega)];simp
 | t'::ts,k'::ks,i+1,j,t,k,h1,h2,hj=>by
  rw[cellsOf,ygx (by rw[zjz];omega),zjz];rw[show 8*(i+1)+j-8=8*i+j by omega];exact zkr ts ks i j t k ylc ykp hj
inductive Tree (w:World) (ok:Nat->Prop):T->Value->Prop
 | nil (t:T) (h:t.kids=[]):Tree w ok t (.slice none 0 0)
 | row (t:T) (g cap:Nat) (cur:Array Value) (ks:List Value) (hg:w.heap[g]?=some (.cells cur 67 (0,0))) (hok:ok g) (hn:ks.length=t.kids.length) (h0:0<ks.length)
  (hcap:t.kids.length<=cap) (hmax:cap<=maxLen) (hsize:cur.size=cap*8) (hc:cur.toList.take (t.kids.length*8)=cellsOf t.kids ks)
  (hk:∀ (i:Nat) t' k',t.kids[i]?=some t'->ks[i]?=some k'->Tree w ok t' k'):Tree w ok t (.slice (some ⟨g,0,none⟩) t.kids.length cap)
section
variable {w w':World} {ok ok':Nat->Prop} {t:T} {k:Value}
theorem Tree.mono (h:Tree w ok t k) (hh:∀ b,ok b->b<w.heap.size->(∃ cur,w.heap[b]?=some (.cells cur 67 (0,0)))->w'.heap[b]?=w.heap[b]?∧ok' b):Tree w' ok' t k:=by
 induction h with
 | nil t h=>exact .nil t h
 | row t g cap cur ks hg hok hn h0 hcap hmax hsize hc hk ih =>
  have:=hh g hok (za1 hg) ⟨cur,hg⟩;exact .row t g cap cur ks (this.1.trans hg) this.2 hn h0 hcap hmax hsize hc fun i t' k' h1 h2=>ih i t' k' h1 h2
theorem Tree.weak (h:Tree w ok t k) (hh:∀ b,ok b->b<w.heap.size->ok' b):Tree w ok' t k:=h.mono fun b h1 h2 _=>⟨rfl,hh b h1 h2⟩
theorem Tree.stays (h:Tree w ok t k) (hb:Below w.heap.size w w'):Tree w' ok t k:=h.mono fun b h1 h2 _=>⟨hb.block b h2,h1⟩
theorem Tree.alloc (h:Tree w ok t k) (o:Obj):Tree (w.alloc o) ok t k:=h.mono fun b h1 h2 _=>⟨yhf w o b h2,h1⟩
theorem Tree.grown {row:Option Nat} (h:Tree w ok t k) (hg:w.grownBy w' row) (hr:∀ b,ok b->some b≠row):Tree w' ok t k:=h.mono fun b h1 h2 _=>⟨hg.block b h2 (hr b h1),h1⟩
theorem Tree.far (h:Tree w ok t k) {a:Addr} (ha:∀ b,ok b->b≠a.block) (u:Value):Tree (w.setCell a u) ok t k:=h.mono fun b h1 h2 _=>⟨ygz w a u b (ha b h1),h1⟩
theorem Tree.drewN (h:Tree w ok t k) (n:Nat):Tree (w.drewN n) ok t k:=h.mono fun b h1 h2 _=>⟨rfl,h1⟩
theorem Tree.only {g:Nat} {s:ByteArray} {st:St} (h:Tree w ok t k) (hg:w.grownBy w' (some g)) (hr:Rdr w g s st):Tree w' ok t k:=h.mono fun b h1 h2 ⟨cur,h3⟩=>⟨hg.block b h2 fun e=>by
 injection e with e
 subst e;unfold Rdr at hr;rw[hr] at h3;injection h3 with h3
 injection h3 with _ h4 _
 exact absurd h4 yk6,h1⟩
theorem Tree.form (h:Tree w ok t k):∃ A n c,k = .slice A n c:=by cases h <;> exact⟨_,_,_,rfl⟩
theorem Tree.one (h:Tree w ok t k):k.oneCell'=true:=by cases h <;> rfl
end
def Box8 (w:World) (g:Nat) (t:T) (k:Value):Prop:=
 w.heap[g]?=some (.cells #[.int .i64 t.op,.int .u64 (word t.set 0),.int .u64 (word t.set 1),.int .u64 (word t.set 2),.int .u64 (word t.set 3),.int .i64 t.lo,.int .i64 t.hi,k] 67 (0,0))
section
variable {w w':World} {g:Nat} {t:T} {k:Value}
theorem Box8.cell (h:Box8 w g t k):w.cell? ⟨g,0,none⟩=some (.int .i64 t.op)∧w.cell? ⟨g,1,none⟩=some (.int .u64 (word t.set 0))∧w.cell? ⟨g,2,none⟩=some (.int .u64 (word t.set 1))∧w.cell? ⟨g,3,none⟩=some (.int .u64 (word t.set 2))∧
 w.cell? ⟨g,4,none⟩=some (.int .u64 (word t.set 3))∧w.cell? ⟨g,5,none⟩=some (.int .i64 t.lo)∧w.cell? ⟨g,6,none⟩=some (.int .i64 t.hi)∧w.cell? ⟨g,7,none⟩=some k:=by
 unfold Box8 at h;refine⟨?_,?_,?_,?_,?_,?_,?_,?_⟩ <;> exact cell_of_row w g _ _ 67 (0,0) h
theorem Box8.frozen (h:Box8 w g t k):w.frozen? ⟨g,0,none⟩=false∧w.frozen? ⟨g,1,none⟩=false∧w.frozen? ⟨g,2,none⟩=false∧w.frozen? ⟨g,3,none⟩=false∧
 w.frozen? ⟨g,4,none⟩=false∧w.frozen? ⟨g,5,none⟩=false∧w.frozen? ⟨g,6,none⟩=false∧w.frozen? ⟨g,7,none⟩=false:=by
 unfold Box8 at h;refine⟨?_,?_,?_,?_,?_,?_,?_,?_⟩ <;> simp[World.frozen?,h]
theorem Box8.lt (h:Box8 w g t k):g<w.heap.size:=za1 h
theorem Box8.stays (h:Box8 w g t k) (hb:Below w.heap.size w w'):Box8 w' g t k:=(hb.block g h.lt).trans h
theorem Box8.alloc (h:Box8 w g t k) (o:Obj):Box8 (w.alloc o) g t k:=(yhf w o g h.lt).trans h
theorem Box8.grown {row:Option Nat} (h:Box8 w g t k) (hb:w.grownBy w' row) (hg:some g≠row):Box8 w' g t k:=(hb.block g h.lt hg).trans h
theorem Box8.far (h:Box8 w g t k) {a:Addr} (ha:g≠a.block) (u:Value):Box8 (w.setCell a u) g t k:=(ygz w a u g ha).trans h
theorem Box8.drewN (h:Box8 w g t k) (n:Nat):Box8 (w.drewN n) g t k:=h
theorem Box8.new (w:World) (t:T) (k:Value):Box8 (w.alloc (.cells #[.int .i64 t.op,.int .u64 (word t.set 0),.int .u64 (word t.set 1),.int .u64 (word t.set 2),.int .u64 (word t.set 3),.int .i64 t.lo,.int .i64 t.hi,k] 67)) w.heap.size t k:=heap_alloc_new w _
theorem Box8.new0 (w:World):Box8 (w.alloc (.cells #[.int .i64 0,.int .u64 0,.int .u64 0,.int .u64 0,.int .u64 0,.int .i64 0,.int .i64 0,.slice none 0 0] 67)) w.heap.size T.zero (.slice none 0 0):=by
 have h:=Box8.new w T.zero (.slice none 0 0)
 simpa only [T.zero,T.op,T.set,T.lo,T.hi,zah] using h
def put8 (w:World) (g:Nat) (t:T) (k:Value):World:=
 (((((((w.setCell ⟨g,0,none⟩ (.int .i64 t.op)).setCell ⟨g,1,none⟩ (.int .u64 (word t.set 0))).setCell ⟨g,2,none⟩ (.int .u64 (word t.set 1))).setCell ⟨g,3,none⟩ (.int .u64 (word t.set 2))).setCell ⟨g,4,none⟩ (.int .u64 (word t.set 3))).setCell ⟨g,5,none⟩ (.int .i64 t.lo)).setCell ⟨g,6,none⟩ (.int .i64 t.hi)).setCell ⟨g,7,none⟩ k
theorem zi1 (w:World) (g:Nat) (t:T) (k:Value) (b:Nat) (hb:b≠g):(put8 w g t k).heap[b]?=w.heap[b]?:=by
 unfold put8;rw[ygz _ _ _ _ hb,ygz _ _ _ _ hb,ygz _ _ _ _ hb,ygz _ _ _ _ hb,ygz _ _ _ _ hb,ygz _ _ _ _ hb,ygz _ _ _ _ hb,ygz _ _ _ _ hb]
theorem Box8.put {t':T} {k':Value} (h:Box8 w g t k) (t':T) (k':Value):Box8 (put8 w g t' k') g t' k':=by
 unfold Box8 put8 at *;simp[World.setCell,yhy,h]
theorem Box8.putFar {g':Nat} {t':T} {k':Value} (h:Box8 w g t k) (hg:g≠g'):Box8 (put8 w g' t' k') g t k:=(zi1 w g' t' k' g hg).trans h
theorem Rdr.put8 {g':Nat} {s:ByteArray} {st:St} (h:Rdr w g s st) (hg:g≠g') (t:T) (k:Value):Rdr (put8 w g' t k) g s st:=(zi1 w g' t k g hg).trans h
theorem Tree.put8 {ok:Nat->Prop} {g':Nat} {t':T} {k':Value} (h:Tree w ok t k) (hg:∀ b,ok b->b≠g'):Tree (put8 w g' t' k') ok t k:=h.mono fun b h1 h2 _=>⟨zi1 w g' t' k' b (hg b h1),h1⟩
theorem zog {a b:World} {g g':Nat} (h:a.grownBy b (some g)) (hg:a.heap.size<=g') (t:T) (k:Value):a.grownBy (Go.Proofs.Ytipfgpfplakhiaa.put8 b g' t k) (some g):=
 zae (zae (zae (zae (zae (zae (zae (zae h hg _) hg _) hg _) hg _) hg _) hg _) hg _) hg _
theorem zcn {a:World} {B:Nat} (h:Below B a w) (hg:B<=g) (t:T) (k:Value):Below B a (Go.Proofs.Ytipfgpfplakhiaa.put8 w g t k):=
 (((((((h.setCell (p:=⟨g,0,none⟩) hg _).setCell (p:=⟨g,1,none⟩) hg _).setCell (p:=⟨g,2,none⟩) hg _).setCell (p:=⟨g,3,none⟩) hg _).setCell (p:=⟨g,4,none⟩) hg _).setCell (p:=⟨g,5,none⟩) hg _).setCell (p:=⟨g,6,none⟩) hg _).setCell (p:=⟨g,7,none⟩) hg _
end
def Row (w:World) (B:Nat) (v:Value) (l:List T):Prop:=
 ∃ ks,ks.length=l.length∧w.ownsRow B 67 8 v l.length (cellsOf l ks)∧∀ (i:Nat) t' k',l[i]?=some t'->ks[i]?=some k'->Tree w (fun b=>B<=b∧some b≠v.ownBlock) t' k'
section
variable {w w':World} {B:Nat} {v:Value} {l:List T}
theorem Row.stays (h:Row w B v l) (hb:Below w.heap.size w w'):Row w' B v l:=by
 obtain⟨ks,h1,h2,h3⟩:=h;exact⟨ks,h1,za6 h2 hb,fun i t' k' e1 e2=>(h3 i t' k' e1 e2).stays hb⟩
theorem Row.alloc (h:Row w B v l) (o:Obj):Row (w.alloc o) B v l:=h.stays ((ygr _ _).alloc (ygo _) _)
theorem Row.drewN (h:Row w B v l) (n:Nat):Row (w.drewN n) B v l:=by
 obtain⟨ks,h1,h2,h3⟩:=h;exact⟨ks,h1,h2,fun i t' k' e1 e2=>(h3 i t' k' e1 e2).drewN n⟩
theorem yab {e:TypeId} {size n:Nat} {xs:List Value} {g:Nat} (h:w.ownsRow B e size v n xs) (hv:v.ownBlock=some g):∃ cur,w.heap[g]?=some (.cells cur e (0,0)):=by
 rcases h.2 with ⟨rfl,_⟩|⟨g',cap,cur,rfl,_,hh,_⟩
 .cases hv
 .have:g'=g:=by simpa [Value.ownBlock] using hv
  subst this;exact⟨cur,hh⟩
theorem Row.only {g:Nat} {s:ByteArray} {st:St} (h:Row w B v l) (hg:w.grownBy w' (some g)) (hr:Rdr w g s st):Row w' B v l:=by
 obtain⟨ks,h1,h2,h3⟩:=h;refine⟨ks,h1,h2.kept hg (.inr fun e=>?_),fun i t' k' e1 e2=>(h3 i t' k' e1 e2).only hg hr⟩;obtain⟨cur,hc⟩:=yab h2 e;unfold Rdr at hr;rw[hr] at hc;injection hc with hc
 injection hc with _ h4 _
 exact absurd h4 yk6
theorem Row.far {g:Nat} (h:Row w B v l) (hg:g<B) {i:Nat} (u:Value):Row (w.setCell ⟨g,i,none⟩ u) B v l:=by
 obtain⟨ks,h1,h2,h3⟩:=h;have hb:w.grownBy (w.setCell ⟨g,i,none⟩ u) (some g):=zct (zbx _ _) _;refine⟨ks,h1,h2.kept hb (.inr fun e=>?_),fun i t' k' e1 e2=>(h3 i t' k' e1 e2).far (fun b hb=>by show b≠g;omega) u⟩;have:=h2.lt _ e;omega
theorem Row.new (w:World) (B:Nat) (t:T) (k:Value) (hB:B<=w.heap.size) (ht:Tree w (fun b=>B<=b) t k):
 Row (w.alloc (.cells #[.int .i64 t.op,.int .u64 (word t.set 0),.int .u64 (word t.set 1),.int .u64 (word t.set 2),.int .u64 (word t.set 3),.int .i64 t.lo,.int .i64 t.hi,k] 67)) B (.slice (some ⟨w.heap.size,0,none⟩) 1 1) [t]:=by
 refine⟨[k],rfl,yj7 w _ 1 hB yk6 rfl,fun i t' k' e1 e2=>?_⟩
 match i,e1,e2 with
 | 0,e1,e2 =>
  simp at e1 e2;subst e1 e2;refine (ht.weak (ok':=fun b=>B<=b∧some b≠some w.heap.size) fun b h1 h2=>⟨h1,by simp;omega⟩).alloc _
theorem Row.tree (h:Row w B v l) (h0:0<l.length) (op:Int) (p:Nat->Bool) (lo hi:Int):Tree w (fun b=>B<=b) (.mk op p lo hi l) v:=by
 obtain⟨ks,h1,h2,h3⟩:=h;rcases h2.2 with ⟨rfl,h⟩|⟨g,cap,cur,rfl,hB,hh,hc,hm,hs,ht⟩
 .omega
 .exact .row (.mk op p lo hi l) g cap cur ks hh hB h1 yjz hc hm hs ht fun i t' k' e1 e2=>(h3 i t' k' e1 e2).weak fun b hb _=>hb.1
end
theorem Try.infoNode:(Try.prog.info? 67).map (fun i=>(i.zero,i.size,i.bytes))=some (some (.agg #[.int .i64 0,.int .u64 0,.int .u64 0,.int .u64 0,.int .u64 0,.int .i64 0,.int .i64 0,.slice none 0 0]),8,80):=by kernel_rfl
end
section
def Rel {α:Type} (s:ByteArray) (o:R α) (st:St) (a:α) (st':St):Prop:=
 st'.opn=st.opn∧st'.pos<=s.size∧(st.bad≠0->st'.bad=st.bad∧st'.spot=st.spot)∧
 (st.bad=0->match o with
   | .ok (x,p)=>a=x∧st'.pos=p∧st'.bad=0
   | .error (c,q)=>c≠0∧st'.bad=c∧st'.spot=q)
section
variable (s:ByteArray) (st:St)
theorem zdh (h:st.bad≠0) (a b:Int):st.fail a b=st:=by unfold St.fail;rw[if_neg h]
theorem zek (h:st.bad=0) (a b:Int):st.fail a b={st with bad:=b,spot:=a}:=by unfold St.fail;rw[if_pos h]
theorem zeo (h:st.bad=0) (hp:st.pos<s.size):st.peek s=(bt s st.pos:Int):=by unfold St.peek;rw[if_neg yjz]
theorem zj4 (h:st.bad=0) (hp:s.size<=st.pos):st.peek s = -1:=by unfold St.peek;rw[if_pos yjz]
theorem zj5 (h:st.bad≠0):st.peek s = -1:=by unfold St.peek;rw[if_pos yjz]
theorem zf9 (h:st.bad=0) (hp:st.pos<s.size):st.next s=((bt s st.pos:Int),st.step 1):=by
 unfold St.next;rw[zeo s st h hp,if_neg yjz]
theorem zga (h:st.bad=0) (hp:s.size<=st.pos):st.next s=(-1,{st with bad:=2,spot:=s.size}):=by
 unfold St.next;rw[zj4 s st h hp,if_pos yjz,zek _ h]
theorem zfa (h:st.bad≠0):st.next s=(-1,st):=by
 unfold St.next;rw[zj5 s st h,if_pos yjz,zdh _ h]
theorem zn6 (t:ByteArray):inT (-1) t=false:=by
 cases h:inT (-1) t
 .rfl
 .have:=zgd _ _ h;omega
theorem zbq (h:st.bad=0) (c:Nat):(st.peek s=(c:Int))↔isB s st.pos c=true:=by
 unfold isB
 by_cases hp:st.pos<s.size
 .rw[zeo s st h hp];simp[hp];omega
 .rw[zj4 s st h yjz];simp[hp]
theorem zqo (h:st.bad≠0):st.escaped s=(0,st):=by
 unfold St.escaped;simp only[zfa s st h,zn6,zdh st h];simp
theorem zkk (hpos:st.pos<=s.size):Rel s (cEsc s st.pos) st (st.escaped s).1 (st.escaped s).2:=by
 by_cases hb:st.bad=0
 .refine⟨?_,(zgv s st hpos).1,fun h=>absurd hb h,fun _=>?_⟩
  .unfold St.escaped St.next;simp only;have e:∀ (x:St) a b,(x.fail a b).opn=x.opn:=fun x a b=>by unfold St.fail;split <;> rfl
   repeat' split
   all_goals simp[e,St.step]
  .by_cases hp:st.pos<s.size
   .unfold St.escaped cEsc yex;simp only[zf9 s st hb hp,hp,if_true];have e1:((bt s st.pos:Int)=110)↔bt s st.pos=110:=yjz;have e2:((bt s st.pos:Int)=116)↔bt s st.pos=116:=yjz;simp only[e1,e2]
    by_cases h1:bt s st.pos=110
    .simp only[h1,if_true];exact⟨trivial,rfl,hb⟩
    .simp only[h1,if_false]
     by_cases h2:bt s st.pos=116
     .simp only[h2,if_true];exact⟨trivial,rfl,hb⟩
     .simp only[h2,if_false]
      by_cases h3:inT (bt s st.pos:Int) ⟨#[92,46,91,93,40,41,123,125,124,63,42,43,94,36,45,47]⟩=true
      .simp only[h3,if_true];exact⟨trivial,rfl,hb⟩
      .simp only[h3];rw[if_neg yk3,if_neg yk3,zek _ (by exact hb)];exact⟨by simp,rfl,by simp[St.step]⟩
   .unfold St.escaped cEsc;simp only[zga s st hb yjz,zn6,hp,if_false];simp[St.fail];omega
 .rw[zqo s st hb];exact⟨rfl,hpos,fun _=>⟨rfl,rfl⟩,fun h=>absurd h hb⟩
theorem zlj (h:st.bad≠0):st.member s=(0,st):=by
 unfold St.member;simp[zfa s st h];omega
theorem zlh (hpos:st.pos<=s.size):Rel s (cMem s st.pos) st (st.member s).1 (st.member s).2:=by
 by_cases hb:st.bad=0
 .by_cases hp:st.pos<s.size
  .have e1:((bt s st.pos:Int)=93)↔bt s st.pos=93:=yjz;have e2:((bt s st.pos:Int)=92)↔bt s st.pos=92:=yjz;unfold St.member cMem;simp only[zf9 s st hb hp,hp,if_true,e1,e2]
   by_cases h3:bt s st.pos=93
   .simp only[h3,if_true];rw[zek _ (by exact hb)];refine⟨rfl,by simp[St.step];omega,fun h=>absurd hb h,fun _=>⟨by simp,rfl,by simp[St.step]⟩⟩
   .simp only[h3,if_false]
    by_cases h2:bt s st.pos=92
    .simp only[h2,if_true];have:=zkk s (st.step 1) (show st.pos+1<=s.size by omega);exact this
    .simp only[h2,if_false];refine⟨rfl,by simp[St.step];omega,fun h=>absurd hb h,fun _=>⟨by omega,rfl,hb⟩⟩
  .unfold St.member cMem;simp only[zga s st hb yjz,hp,if_false];refine⟨rfl,hpos,fun h=>absurd hb h,fun _=>?_⟩;simp;omega
 .rw[zlj s st hb];exact⟨rfl,hpos,fun _=>⟨rfl,rfl⟩,fun h=>absurd h hb⟩
theorem ztz (h:st.bad≠0):st.number s=(0,st):=by
 unfold St.number;simp[zfa s st h,zdh st h]
theorem zi4 (hpos:st.pos<=s.size):Rel s (cNum s st.pos) st (st.number s).1 (st.number s).2:=by
 by_cases hb:st.bad=0
 .by_cases hp:st.pos<s.size
  .unfold St.number cNum;simp only[zf9 s st hb hp]
   by_cases hd:isD s st.pos=true
   .have hd':=hd;simp[isD] at hd';have hx:¬ ((bt s st.pos:Int)<48∨57<(bt s st.pos:Int)):=yjz;rw[if_pos hd];simp only[hx,if_false]
    by_cases hd2:isD s (st.pos+1)=true
    .have hd3:=hd2;simp[isD] at hd3;rw[zeo s (st.step 1) hb (by simp[St.step];omega),if_pos hd2];have hy:(48<=(bt s (st.step 1).pos:Int)∧(bt s (st.step 1).pos:Int)<=57):=(by simp only[St.step];omega);rw[if_pos hy];refine⟨rfl,by simp[St.step];omega,fun h=>absurd hb h,fun _=>⟨by simp only[St.step];omega,rfl,hb⟩⟩
    .have hd3:¬ (48<=(st.step 1).peek s∧(st.step 1).peek s<=57):=by
      by_cases hp2:st.pos+1<s.size
      .rw[zeo s (st.step 1) hb (by simpa [St.step] using hp2)];simp[isD,hp2] at hd2;simp only[St.step];omega
      .rw[zj4 s (st.step 1) hb (by simp[St.step];omega)];omega
     rw[if_neg hd2,if_neg hd3];refine⟨rfl,by simp[St.step];omega,fun h=>absurd hb h,fun _=>⟨rfl,rfl,hb⟩⟩
   .have hd':=hd;simp[isD,hp] at hd';have hx:(bt s st.pos:Int)<48∨57<(bt s st.pos:Int):=yjz;rw[if_neg hd,if_pos hx,zek _ (by exact hb)];refine⟨rfl,by simp[St.step];omega,fun h=>absurd hb h,fun _=>⟨by simp,rfl,by simp[St.step]⟩⟩
  .unfold St.number cNum;simp only[zga s st hb yjz];have hd:¬ isD s st.pos=true:=(by simp[isD,hp]);rw[if_neg hd,if_pos yjz];refine⟨rfl,hpos,fun h=>absurd hb h,fun _=>?_⟩;simp[St.fail];omega
 .rw[ztz s st hb];exact⟨rfl,hpos,fun _=>⟨rfl,rfl⟩,fun h=>absurd h hb⟩
theorem ycv (hb:st.bad=0):st.wideHere s=zix s st.pos:=by
 unfold St.wideHere zix
 congr 1
 congr 1
 rw[yie,←zbq s st hb 92];simp
theorem yb9 (h:st.bad≠0):st.item s=(zat 0 0,st):=by
 unfold St.item St.wideHere;simp[zj5 s st h,zlj s st h]
theorem zs2 (hpos:st.pos<=s.size):Rel s (ziy s st.pos) st (st.item s).1 (st.item s).2:=by
 by_cases hb:st.bad=0
 .unfold St.item ziy;rw[ycv s st hb]
  by_cases hw:zix s st.pos=true
  .rw[if_pos hw,if_pos hw];simp[zix] at hw;exact⟨rfl,by simp[St.step];omega,fun h=>absurd hb h,fun _=>⟨rfl,rfl,hb⟩⟩
  .rw[if_neg hw,if_neg hw];have hm:=zlh s st hpos;have hbd:=zk1 s st;revert hm hbd;generalize (st.member s).1=lo;generalize (st.member s).2=st1;generalize cMem s st.pos=o;rintro⟨m1,m2,m3,m4⟩ hbd;replace m4:=m4 hb
   match o,m4 with
   | .error (c,q),m4 =>
    have hz:st1.bad≠0:=(by rw[m4.2.1];exact m4.1);simp only[zbd,zj5 s st1 hz];exact⟨m1,m2,fun h=>absurd hb h,fun _=>m4⟩
   | .ok (x,p),m4 =>
    obtain⟨rfl,rfl,hz⟩:=m4;simp only[zbd]
    by_cases h45:isB s st1.pos 45=true
    .have hp:=(zbq s st1 hz 45).2 h45;have hlt:=zhh h45;rw[if_pos h45,if_pos (show st1.peek s=45 from hp)];have hm:=zlh s (st1.step 1) (show st1.pos+1<=s.size by omega);revert hm;rw[show (st1.step 1).pos=st1.pos+1 from rfl];generalize ((st1.step 1).member s).1=hi;generalize ((st1.step 1).member s).2=st3;generalize cMem s (st1.pos+1)=o;rintro⟨n1,n2,n3,n4⟩;replace n4:=n4 hz
     match o,n4 with
     | .error (c,q),n4 =>
      have hz3:st3.bad≠0:=(by rw[n4.2.1];exact n4.1);simp only[zdh st3 hz3,ite_self];exact⟨n1.trans m1,n2,fun h=>absurd hb h,fun _=>n4⟩
     | .ok (y,p),n4 =>
      obtain⟨rfl,rfl,hz3⟩:=n4
      by_cases hlo:hi<lo
      .simp only[hlo,if_true];rw[zek _ hz3];exact⟨n1.trans m1,n2,fun h=>absurd hb h,fun _=>⟨by simp,rfl,rfl⟩⟩
      .simp only[hlo,if_false];exact⟨n1.trans m1,n2,fun h=>absurd hb h,fun _=>⟨rfl,rfl,hz3⟩⟩
    .have hp:¬ (st1.peek s=45):=fun h=>h45 ((zbq s st1 hz 45).1 ykc)
     rw[if_neg h45,if_neg hp];exact⟨m1,m2,fun h=>absurd hb h,fun _=>⟨rfl,rfl,hz⟩⟩
 .rw[yb9 s st hb];exact⟨rfl,hpos,fun _=>⟨rfl,rfl⟩,fun h=>absurd h hb⟩
end
end
end Go.Proofs.Ytipfgpfplakhiaa
