import Derived.Test.YtipfgpfplakhiaaDoorTw5
set_option linter.unusedVariables false
set_option linter.unusedSimpArgs false
namespace Go.Proofs.YtipfgpfplakhiaaDoor
open Go
section
inductive T where
 | mk (op:Int) (p:Nat->Bool) (lo hi:Int) (kids:List T)
def T.one (p:Nat->Bool):T := .mk 1 p 0 0 []
def T.rep (lo hi:Int) (t:T):T := .mk 4 za9 lo hi [t]
def T.zero:T := .mk 0 za9 0 0 []
def T.many (op:Int) (l:List T):T:=match l with
 | [t]=>t
 | l => .mk op za9 0 0 l
abbrev R (α:Type):=Except (Int×Int) (α×Nat)
def zbz {α:Type} (step:α->Nat->Option (R α)):Nat->α->Nat->R α
 | 0,a,p => .ok (a,p)
 | n+1,a,p=>match step a p with
  | none => .ok (a,p)
  | some (.error e) => .error e
  | some (.ok (a',p'))=>zbz step n a' p'
def zb1 {α β:Type} (r:R α) (f:α->Nat->R β):R β:=match r with
 | .error e => .error e
 | .ok (a,p)=>f a p
section
variable (s:ByteArray)
def isB (pos:Nat) (c:Nat):Bool:=decide (pos<s.size)&&bt s pos==c
def ydh:ByteArray:=⟨#[92,46,91,93,40,41,123,125,124,63,42,43,94,36,45,47]⟩
def zsv:ByteArray:=⟨#[93,41,125,123,124,63,94,36]⟩
def cEsc (pos:Nat):R Int:=
 if pos<s.size then
  if bt s pos=110 then .ok (10,pos+1) else if bt s pos=116 then .ok (9,pos+1)
  else if inT (bt s pos:Int) ydh=true then .ok ((bt s pos:Int),pos+1) else .error (2,(pos:Int))
 else .error (2,(pos:Int))
def cMem (pos:Nat):R Int:=
 if pos<s.size then
  if bt s pos=93 then .error (2,(pos:Int)) else if bt s pos=92 then cEsc s (pos+1) else .ok ((bt s pos:Int),pos+1)
 else .error (2,(pos:Int))
def zih (pos:Nat):Bool:=isB s pos 92&&decide (pos+1<s.size)&&zdz (bt s (pos+1):Int)
def zii (pos:Nat):R (Nat->Bool):=
 if zih s pos=true then .ok (zar (bt s (pos+1):Int),pos+2) else
 zb1 (cMem s pos) fun lo p1 =>
  if isB s p1 45=true then zb1 (cMem s (p1+1)) fun hi p3=>if hi<lo then .error (2,(p3:Int)-1) else .ok (zam lo hi,p3)
  else .ok (zam lo lo,p1)
def zbv (q:Nat->Bool) (pos:Nat):Option (R (Nat->Bool)):=
 if isB s pos 93=true then none else some (zb1 (zii s pos) fun r p => .ok (orP q r,p))
def zia (pos:Nat):R (Nat->Bool):=
 zb1 (zb1 (zii s (if isB s pos 94=true then pos+1 else pos)) (zbz (zbv s) (s.size+1))) fun q p =>
  .ok (if isB s pos 94=true then notP q else q,p+1)
def isD (pos:Nat):Bool:=decide (pos<s.size)&&decide (48<=bt s pos)&&decide (bt s pos<=57)
def cNum (pos:Nat):R Int:=
 if isD s pos=true then
  if isD s (pos+1)=true then .ok (10*((bt s pos:Int)-48)+((bt s (pos+1):Int)-48),pos+2) else .ok ((bt s pos:Int)-48,pos+1)
 else .error (2,(pos:Int))
def zhd (pos:Nat):R (Int×Int):=
 zb1 (cNum s pos) fun lo p =>
  zb1 (if isB s p 44=true then cNum s (p+1) else .ok (lo,p)) fun hi q =>
   if isB s q 125=true∧1<=hi∧hi<=32∧lo<=hi then .ok ((lo,hi),q+1) else .error (2,(q:Int))
def zkk (deep:Option (Nat->R T)) (pos:Nat):R T:=
 if pos<s.size then
  if bt s pos=40 then (match deep with
   | none => .error (4,(pos:Int))
   | some f=>zb1 (f (pos+1)) fun t p=>if isB s p 41=true then .ok (t,p+1) else .error (2,(p:Int)))
  else if bt s pos=91 then zb1 (zia s (pos+1)) fun q p => .ok (.one q,p)
  else if bt s pos=46 then .ok (.one (notP (zam 10 10)),pos+1)
  else if bt s pos=92 then
   if zih s pos=true then .ok (.one (zar (bt s (pos+1):Int)),pos+2)
   else zb1 (cEsc s (pos+1)) fun b p => .ok (.one (zam b b),p)
  else if bt s pos=42∨bt s pos=43 then .error (3,(pos:Int))
  else if inT (bt s pos:Int) zsv=true then .error (2,(pos:Int))
  else .ok (.one (zam (bt s pos:Int) (bt s pos:Int)),pos+1)
 else .error (2,(pos:Int))
def zcq (t:T) (pos:Nat):Option (R T):=
 if isB s pos 63=true then some (.ok (.rep 0 1 t,pos+1))
 else if isB s pos 123=true then some (zb1 (zhd s (pos+1)) fun m p => .ok (.rep m.1 m.2 t,p))
 else none
def zeg (deep:Option (Nat->R T)) (pos:Nat):R T:=zb1 (zkk s deep pos) (zbz (zcq s) (s.size+1))
def zc4 (deep:Option (Nat->R T)) (top:Bool) (l:List T) (pos:Nat):Option (R (List T)):=
 if pos<s.size∧bt s pos≠124∧(bt s pos≠41∨top=true) then some (zb1 (zeg s deep pos) fun t p => .ok (l++[t],p)) else none
def zhe (deep:Option (Nat->R T)) (top:Bool) (pos:Nat):R T:=
 zb1 (zb1 (zeg s deep pos) fun t p=>zbz (zc4 s deep top) (s.size+1) [t] p) fun l p => .ok (.many 2 l,p)
def zd1 (deep:Option (Nat->R T)) (top:Bool) (l:List T) (pos:Nat):Option (R (List T)):=
 if isB s pos 124=true then some (zb1 (zhe s deep top (pos+1)) fun t p => .ok (l++[t],p)) else none
def cPat (deep:Option (Nat->R T)) (top:Bool) (pos:Nat):R T:=
 zb1 (zb1 (zhe s deep top pos) fun t p=>zbz (zd1 s deep top) (s.size+1) [t] p) fun l p => .ok (.many 3 l,p)
def pat:Nat->Bool->Nat->R T
 | 0,top,pos=>cPat s none top pos
 | d+1,top,pos=>cPat s (some (pat d false)) top pos
def parse:Except (Int×Int) T:=
 if 200<s.size then .error (4,0) else match pat s 20 true 0 with
 | .error e => .error e
 | .ok (t,_) => .ok t
end
def Fwd {α:Type} (s:ByteArray) (pos:Nat) (r:R α):Prop:=match r with
 | .ok (_,p)=>pos<p∧p<=s.size
 | .error (c,a)=>0<c∧0<=a
section
variable {s:ByteArray} {α β:Type}
theorem zh4 {pos c:Nat} (h:isB s pos c=true):pos<s.size∧bt s pos=c:=by simpa [isB] using h
theorem Fwd.mono {r:R α} {p q:Nat} (h:Fwd s q r) (hp:p<=q):Fwd s p r:=by
 unfold Fwd at *;split <;> simp_all
 omega
theorem Fwd.bind {r:R α} {f:α->Nat->R β} {pos:Nat} (h:Fwd s pos r) (hf:∀ a p,pos<p->p<=s.size->Fwd s pos (f a p)):Fwd s pos (zb1 r f):=by
 unfold zb1
 match r,h with
 | .error e,h=>exact h
 | .ok (a,p),h=>exact hf a p h.1 h.2
theorem Fwd.loop {step:α->Nat->Option (R α)} (hs:∀ a p r,p<=s.size->step a p=some r->Fwd s p r):∀ (n:Nat) (a:α) (pos p:Nat),pos<p->p<=s.size->Fwd s pos (zbz step n a p)
 | 0,a,pos,p,h1,h2=>⟨h1,h2⟩
 | n+1,a,pos,p,h1,h2=>by
  unfold zbz;cases h:step a p with
  | none=>exact⟨h1,h2⟩
  | some r =>
   have:=hs a p r h2 h
   match r,this with
   | .error e,h=>exact h
   | .ok (a',p'),h=>exact Fwd.loop hs n a' pos p' (Nat.lt_trans h1 h.1) h.2
end
section
variable (s:ByteArray)
theorem zwz (pos:Nat):Fwd s pos (cEsc s pos):=by
 unfold cEsc;split
 .split
  .exact⟨by omega,by omega⟩
  .split
   .exact⟨by omega,by omega⟩
   .split
    .exact⟨by omega,by omega⟩
    .simp[Fwd]
 .simp[Fwd]
theorem zvu (pos:Nat):Fwd s pos (cMem s pos):=by
 unfold cMem;split
 .split
  .simp[Fwd]
  .split
   .exact (zwz s (pos+1)).mono yie
   .simp[Fwd];omega
 .simp[Fwd]
theorem zrr (pos:Nat):Fwd s pos (zii s pos):=by
 unfold zii;split
 .rename_i h;simp[zih] at h;simp[Fwd];omega
 .refine (zvu s pos).bind fun lo p1 h1 h2=>?_
  split
  .rename_i h;have:=zh4 h;refine Fwd.bind ((zvu s (p1+1)).mono yie) fun hi p3 h3 h4=>?_
   split
   .simp[Fwd];omega
   .exact⟨h3,h4⟩
  .exact⟨h1,h2⟩
theorem zk1 (q:Nat->Bool) (p:Nat) (r:R (Nat->Bool)) (h:zbv s q p=some r):Fwd s p r:=by
 unfold zbv at h;split at h
 .cases h
 .cases h;exact (zrr s p).bind fun a p' h1 h2=>⟨h1,h2⟩
theorem zs8:∀ (n:Nat) (q:Nat->Bool) (p:Nat),p<=s.size->s.size+1-p<=n->(∃ e,zbz (zbv s) n q p = .error e∧0<e.1∧0<=e.2)∨∃ q' p',zbz (zbv s) n q p = .ok (q',p')∧isB s p' 93=true∧p<=p'
 | 0,q,p,h1,h2=>by omega
 | n+1,q,p,h1,h2=>by
  unfold zbz;cases h:zbv s q p with
  | none =>
   right;refine⟨q,p,rfl,?_,yez _⟩;unfold zbv at h;split at h
   .assumption
   .cases h
  | some r =>
   have:=zk1 s q p r h
   match r,this with
   | .error e,h=>exact .inl ⟨e,rfl,h⟩
   | .ok (a',p'),h =>
    have h3:=h.1;rcases zs8 n a' p' h.2 yie with h4|⟨q2,p2,h4,h5,h6⟩
    .exact .inl h4
    .exact .inr ⟨q2,p2,h4,h5,by omega⟩
theorem zx9 (pos:Nat):Fwd s pos (zia s pos):=by
 unfold zia;have h0:Fwd s pos (zii s (if isB s pos 94=true then pos+1 else pos)):=by split <;> exact (zrr s _).mono yie
 revert h0;generalize zii s (if isB s pos 94=true then pos+1 else pos)=r;intro h0
 match r,h0 with
 | .error e,h0=>exact h0
 | .ok (q,p),h0 =>
  have h1:=h0.1;have h2:=h0.2;rcases zs8 s (s.size+1) q p h2 yie with ⟨e,h3,h4⟩|⟨q',p',h3,h4,h5⟩
  .show Fwd s pos (zb1 (zbz (zbv s) (s.size+1) q p) _)
   rw[h3];exact h4
  .show Fwd s pos (zb1 (zbz (zbv s) (s.size+1) q p) _)
   rw[h3];have:=zh4 h4;exact⟨by omega,by omega⟩
theorem zvi (pos:Nat):Fwd s pos (cNum s pos):=by
 unfold cNum;split
 .rename_i h;simp[isD] at h;split
  .rename_i h';simp[isD] at h';simp[Fwd];omega
  .simp[Fwd];omega
 .simp[Fwd]
theorem zuj (pos:Nat):Fwd s pos (zhd s pos):=by
 unfold zhd;refine (zvi s pos).bind fun lo p h1 h2=>?_
 have h0:Fwd s pos (if isB s p 44=true then cNum s (p+1) else .ok (lo,p)):=by
  split
  .exact (zvi s _).mono yie
  .exact⟨h1,h2⟩
 refine h0.bind fun hi q h3 h4=>?_
 split
 .rename_i h;have:=zh4 h.1;exact⟨by omega,by omega⟩
 .simp[Fwd]
theorem yaa (deep:Option (Nat->R T)) (hd:∀ f,deep=some f->∀ p,p<=s.size->Fwd s p (f p)) (pos:Nat):Fwd s pos (zkk s deep pos):=by
 unfold zkk;split
 .split
  .cases deep with
   | none=>simp[Fwd]
   | some f =>
    refine Fwd.bind ((hd f rfl (pos+1) yie).mono yie) fun t p h1 h2=>?_
    split
    .rename_i h;have:=zh4 h;exact⟨by omega,by omega⟩
    .simp[Fwd]
  .split
   .exact Fwd.bind ((zx9 s (pos+1)).mono yie) fun q p h1 h2=>⟨h1,h2⟩
   .split
    .exact⟨by omega,by omega⟩
    .split
     .split
      .rename_i h;simp[zih] at h;exact⟨by omega,by omega⟩
      .exact Fwd.bind ((zwz s (pos+1)).mono yie) fun q p h1 h2=>⟨h1,h2⟩
     .split
      .simp[Fwd]
      .split
       .simp[Fwd]
       .exact⟨by omega,by omega⟩
 .simp[Fwd]
theorem zga (t:T) (p:Nat) (r:R T) (h:zcq s t p=some r):Fwd s p r:=by
 unfold zcq at h;split at h
 .rename_i h1;have:=zh4 h1;cases h;exact⟨by omega,by omega⟩
 .split at h
  .cases h;exact Fwd.bind ((zuj s (p+1)).mono yie) fun q p h1 h2=>⟨h1,h2⟩
  .cases h
variable (deep:Option (Nat->R T)) (hd:∀ f,deep=some f->∀ p,p<=s.size->Fwd s p (f p)) (top:Bool)
include hd
theorem zo7 (pos:Nat):Fwd s pos (zeg s deep pos):=
 (yaa s deep hd pos).bind fun t p h1 h2=>Fwd.loop (fun a p r _ h=>zga s a p r h) _ t pos p h1 h2
theorem zi7 (l:List T) (p:Nat) (r:R (List T)) (h:zc4 s deep top l p=some r):Fwd s p r:=by
 unfold zc4 at h;split at h
 .cases h;exact (zo7 s deep hd p).bind fun a p' h1 h2=>⟨h1,h2⟩
 .cases h
theorem zr6 (pos:Nat):Fwd s pos (zhe s deep top pos):=
 Fwd.bind ((zo7 s deep hd pos).bind fun t p h1 h2=>Fwd.loop (fun a p r _ h=>zi7 s deep hd top a p r h) _ [t] pos p h1 h2) fun l p h1 h2=>⟨h1,h2⟩
theorem zj8 (l:List T) (p:Nat) (r:R (List T)) (h:zd1 s deep top l p=some r):Fwd s p r:=by
 unfold zd1 at h;split at h
 .cases h;exact Fwd.bind ((zr6 s deep hd top (p+1)).mono yie) fun a p' h1 h2=>⟨h1,h2⟩
 .cases h
theorem zsa (pos:Nat):Fwd s pos (cPat s deep top pos):=
 Fwd.bind ((zr6 s deep hd top pos).bind fun t p h1 h2=>Fwd.loop (fun a p r _ h=>zj8 s deep hd top a p r h) _ [t] pos p h1 h2) fun l p h1 h2=>⟨h1,h2⟩
omit hd
theorem zva:∀ (d:Nat) (top:Bool) (pos:Nat),Fwd s pos (pat s d top pos)
 | 0,top,pos=>zsa s none (fun f h=>by cases h) top pos
 | d+1,top,pos=>zsa s (some (pat s d false)) (fun f h p _=>by cases h;exact zva d false p) top pos
end
end
section
structure Made (N:Nat) (Q:T->Prop):Prop where
 one:∀ p,Q (.one p)
 rep:∀ m n t,0<=m->m<=n->1<=n->n<=32->Q t->Q (.rep m n t)
 cat:∀ l,2<=l.length->l.length<=N->(∀ x∈l,Q x)->Q (.mk 2 za9 0 0 l)
 alt:∀ l,2<=l.length->l.length<=N->(∀ x∈l,Q x)->Q (.mk 3 za9 0 0 l)
theorem ybj {s:ByteArray} {p q:Nat} {m:Int} (h:cNum s p = .ok (m,q)):0<=m:=by
 unfold cNum at h
 by_cases h1:isD s p=true
 .rw[if_pos h1] at h;simp[isD] at h1
  by_cases h2:isD s (p+1)=true
  .rw[if_pos h2] at h;simp[isD] at h2;injection h with h;injection h with h _
   omega
  .rw[if_neg h2] at h;injection h with h;injection h with h _
   omega
 .rw[if_neg h1] at h;cases h
theorem zsr {s:ByteArray} {p q:Nat} {m n:Int} (h:zhd s p = .ok ((m,n),q)):0<=m∧m<=n∧1<=n∧n<=32:=by
 unfold zhd at h;cases hc:cNum s p with
 | error e=>rw[hc] at h;cases h
 | ok x =>
  rw[hc] at h;simp only[zb1] at h;have h0:=ybj (m:=x.1) (q:=x.2) hc;cases hd:(if isB s x.2 44=true then cNum s (x.2+1) else (.ok (x.1,x.2):R Int)) with
  | error e=>rw[hd] at h;cases h
  | ok y =>
   rw[hd] at h;simp only at h
   by_cases hk:isB s y.2 125=true∧1<=y.1∧y.1<=32∧x.1<=y.1
   .rw[if_pos hk] at h;injection h with h;injection h with h _;injection h with h1 h2
    subst h1 h2;exact⟨h0,hk.2.2.2,hk.2.1,hk.2.2.1⟩
   .rw[if_neg hk] at h;cases h
theorem zrf {op:Int} {l:List T} {Q:T->Prop} (h1:1<=l.length) (hl:∀ x∈l,Q x) (hm:2<=l.length->Q (.mk op za9 0 0 l)):Q (T.many op l):=by
 unfold T.many;split
 .rename_i z;exact hl z yii
 .rename_i hne;refine hm ?_
  match l,h1,hne with
  | [x],_,hne=>exact absurd rfl (hne x)
  | _::_::_,_,_=>simp
section
variable {s:ByteArray} {Q:T->Prop} (hQ:Made (s.size+2) Q) {d:Option (Nat->R T)} {top:Bool} (hd:∀ f,d=some f->∀ p t q,f p = .ok (t,q)->Q t)
include hQ hd
theorem Made.atom {p q:Nat} {t:T} (h:zkk s d p = .ok (t,q)):Q t:=by
 unfold zkk at h
 by_cases hlt:p<s.size
 .rw[if_pos hlt] at h;split at h
  .cases d with
   | none=>cases h
   | some f =>
    simp only at h;cases hc:f (p+1) with
    | error e=>rw[hc] at h;cases h
    | ok x =>
     rw[hc] at h;simp only[zb1] at h;split at h
     .injection h with h;injection h with h _;rw[←h];exact hd f rfl (p+1) x.1 x.2 hc
     .cases h
  .split at h
   .cases hc:zia s (p+1) with
    | error e=>rw[hc] at h;cases h
    | ok x=>rw[hc] at h;injection h with h;injection h with h _;rw[←h];exact hQ.one _
   .split at h
    .injection h with h;injection h with h _;rw[←h];exact hQ.one _
    .split at h
     .split at h
      .injection h with h;injection h with h _;rw[←h];exact hQ.one _
      .cases hc:cEsc s (p+1) with
       | error e=>rw[hc] at h;cases h
       | ok x=>rw[hc] at h;injection h with h;injection h with h _;rw[←h];exact hQ.one _
     .split at h
      .cases h
      .split at h
       .cases h
       .injection h with h;injection h with h _;rw[←h];exact hQ.one _
 .rw[if_neg hlt] at h;cases h
omit hd in
theorem Made.rloop:∀ (n:Nat) (t:T) (p:Nat) (t':T) (q:Nat),Q t->zbz (zcq s) n t p = .ok (t',q)->Q t'
 | 0,t,p,t',q,h0,h=>by unfold zbz at h;injection h with h;injection h with h _;rw[←h];exact h0
 | n+1,t,p,t',q,h0,h=>by
  unfold zbz zcq at h
  by_cases h63:isB s p 63=true
  .rw[if_pos h63] at h;exact Made.rloop n _ _ t' q (hQ.rep _ _ _ yie yie yie yie h0) h
  .rw[if_neg h63] at h
   by_cases h123:isB s p 123=true
   .rw[if_pos h123] at h;cases hc:zhd s (p+1) with
    | error e=>rw[hc] at h;cases h
    | ok x =>
     rw[hc] at h;obtain⟨g1,g2,g3,g4⟩:=zsr (m:=x.1.1) (n:=x.1.2) (q:=x.2) hc;exact Made.rloop n _ _ t' q (hQ.rep _ _ _ g1 g2 g3 g4 h0) h
   .rw[if_neg h123] at h;injection h with h;injection h with h _;rw[←h];exact h0
theorem Made.piece {p q:Nat} {t:T} (h:zeg s d p = .ok (t,q)):Q t:=by
 unfold zeg at h;cases hc:zkk s d p with
 | error e=>rw[hc] at h;cases h
 | ok x =>
  rw[hc] at h;exact hQ.rloop _ x.1 x.2 t q (hQ.atom hd hc) h
theorem Made.ploop:∀ (n:Nat) (l:List T) (p:Nat) (l':List T) (q:Nat),1<=l.length->(∀ x∈l,Q x)->zbz (zc4 s d top) n l p = .ok (l',q)->(∀ x∈l',Q x)∧1<=l'.length∧l'.length<=l.length+n
 | 0,l,p,l',q,hl,h0,h=>by unfold zbz at h;injection h with h;injection h with h _;rw[←h];exact⟨h0,hl,by omega⟩
 | n+1,l,p,l',q,hl,h0,h=>by
  unfold zbz zc4 at h;split at h
  .injection h with h;injection h with h _;rw[←h];exact⟨h0,hl,by omega⟩
  .cases h
  .rename_i a' p' e;split at e
   .cases hc:zeg s d p with
    | error e'=>rw[hc] at e;injection e with e;cases e
    | ok x =>
     rw[hc] at e;injection e with e
     injection e with e
     injection e with e1 e2
     have k:=Made.ploop n a' p' l' q (by rw[←e1];simp) (fun y hy=>?_) h
     .refine⟨k.1,k.2.1,?_⟩;have:=k.2.2;rw[←e1] at this;simp at this;omega
     rw[←e1] at hy;rcases yfm.1 hy with hy|hy
     .exact h0 y hy
     .simp at hy;rw[hy];exact hQ.piece hd (q:=x.2) hc
   .cases e
theorem Made.part {p q:Nat} {t:T} (h:zhe s d top p = .ok (t,q)):Q t:=by
 unfold zhe at h;cases hc:zeg s d p with
 | error e=>rw[hc] at h;cases h
 | ok x =>
  rw[hc] at h;simp only[zb1] at h;cases hl:zbz (zc4 s d top) (s.size+1) [x.1] x.2 with
  | error e=>rw[hl] at h;cases h
  | ok y =>
   rw[hl] at h;have k:=hQ.ploop hd _ [x.1] x.2 y.1 y.2 yii (fun z hz=>by simp at hz;rw[hz];exact hQ.piece hd (q:=x.2) hc) hl;injection h with h
   injection h with h _
   rw[←h];exact zrf k.2.1 k.1 fun h2=>hQ.cat _ h2 (by have:=k.2.2;simp at this;omega) k.1
theorem Made.loop:∀ (n:Nat) (l:List T) (p:Nat) (l':List T) (q:Nat),1<=l.length->(∀ x∈l,Q x)->zbz (zd1 s d top) n l p = .ok (l',q)->(∀ x∈l',Q x)∧1<=l'.length∧l'.length<=l.length+n
 | 0,l,p,l',q,hl,h0,h=>by unfold zbz at h;injection h with h;injection h with h _;rw[←h];exact⟨h0,hl,by omega⟩
 | n+1,l,p,l',q,hl,h0,h=>by
  unfold zbz zd1 at h;split at h
  .injection h with h;injection h with h _;rw[←h];exact⟨h0,hl,by omega⟩
  .cases h
  .rename_i a' p' e;split at e
   .cases hc:zhe s d top (p+1) with
    | error e'=>rw[hc] at e;injection e with e;cases e
    | ok x =>
     rw[hc] at e;injection e with e
     injection e with e
     injection e with e1 e2
     have k:=Made.loop n a' p' l' q (by rw[←e1];simp) (fun y hy=>?_) h
     .refine⟨k.1,k.2.1,?_⟩;have:=k.2.2;rw[←e1] at this;simp at this;omega
     rw[←e1] at hy;rcases yfm.1 hy with hy|hy
     .exact h0 y hy
     .simp at hy;rw[hy];exact hQ.part hd (q:=x.2) hc
   .cases e
theorem Made.cpat {p q:Nat} {t:T} (h:cPat s d top p = .ok (t,q)):Q t:=by
 unfold cPat at h;cases hc:zhe s d top p with
 | error e=>rw[hc] at h;cases h
 | ok x =>
  rw[hc] at h;simp only[zb1] at h;cases hl:zbz (zd1 s d top) (s.size+1) [x.1] x.2 with
  | error e=>rw[hl] at h;cases h
  | ok y =>
   rw[hl] at h;have k:=hQ.loop hd _ [x.1] x.2 y.1 y.2 yii (fun z hz=>by simp at hz;rw[hz];exact hQ.part hd (q:=x.2) hc) hl;injection h with h
   injection h with h _
   rw[←h];exact zrf k.2.1 k.1 fun h2=>hQ.alt _ h2 (by have:=k.2.2;simp at this;omega) k.1
omit hd
theorem Made.pat:∀ (k:Nat) (top:Bool) (p:Nat) (t:T) (q:Nat),pat s k top p = .ok (t,q)->Q t
 | 0,top,p,t,q,h=>hQ.cpat (d:=none) (fun f e=>by cases e) h
 | k+1,top,p,t,q,h=>hQ.cpat (d:=some (Go.Proofs.YtipfgpfplakhiaaDoor.pat s k false)) (fun f e p t q h=>by cases e;exact Made.pat k false p t q h) h
theorem Made.parse {t:T} (h:Go.Proofs.YtipfgpfplakhiaaDoor.parse s = .ok t):Q t:=by
 unfold Go.Proofs.YtipfgpfplakhiaaDoor.parse at h
 by_cases hl:200<s.size
 .rw[if_pos hl] at h;cases h
 .rw[if_neg hl] at h;cases hp:Go.Proofs.YtipfgpfplakhiaaDoor.pat s 20 true 0 with
  | error e=>rw[hp] at h;cases h
  | ok x =>
   rw[hp] at h;injection h with h
   rw[←h];exact hQ.pat 20 true 0 x.1 x.2 hp
end
theorem zt6 {s:ByteArray} {t:T} (h:parse s = .ok t):s.size<=200:=by
 unfold parse at h
 by_cases hl:200<s.size
 .rw[if_pos hl] at h;cases h
 .omega
end
section
open Go Go.RowKit
def T.op:T->Int | .mk op _ _ _ _=>op
def T.set:T->Nat->Bool | .mk _ p _ _ _=>p
def T.lo:T->Int | .mk _ _ lo _ _=>lo
def T.hi:T->Int | .mk _ _ _ hi _=>hi
def T.kids:T->List T | .mk _ _ _ _ l=>l
def zah (t:T) (k:Value):Value := .agg #[.int .i64 t.op,.int .u64 (word t.set 0),.int .u64 (word t.set 1),.int .u64 (word t.set 2),.int .u64 (word t.set 3),.int .i64 t.lo,.int .i64 t.hi,k]
def zdt (t:T) (k:Value):List Value:=[.int .i64 t.op,.int .u64 (word t.set 0),.int .u64 (word t.set 1),.int .u64 (word t.set 2),.int .u64 (word t.set 3),.int .i64 t.lo,.int .i64 t.hi,k]
theorem zjc (t:T) (k:Value):(zdt t k).length=8:=rfl
def cellsOf:List T->List Value->List Value
 | t::ts,k::ks=>zdt t k++cellsOf ts ks
 | _,_=>[]
theorem zk3:∀ (l:List T) (ks:List Value) (t:T) (k:Value),ks.length=l.length->cellsOf (l++[t]) (ks++[k])=cellsOf l ks++zdt t k
 | [],[],t,k,_=>by simp[cellsOf]
 | t::ts,k::ks,t',k',h=>by
  have:=zk3 ts ks t' k' yit;simp[cellsOf,this]
theorem zk2:∀ (l:List T) (ks:List Value) (i j:Nat) (t:T) (k:Value),l[i]?=some t->ks[i]?=some k->j<8->(cellsOf l ks)[8*i+j]?=(zdt t k)[j]?
 | [],_,i,j,t,k,h1,_,_=>by simp at h1
 | _::_,[],i,j,t,k,_,h2,_=>by simp at h2
 | t'::ts,k'::ks,0,j,t,k,h1,h2,hj=>by
  simp at h1 h2;subst h1 h2;rw[cellsOf,yfb (by rw[zjc];omega)];simp
 | t'::ts,k'::ks,i+1,j,t,k,h1,h2,hj=>by
  rw[cellsOf,yfc (by rw[zjc];omega),zjc];rw[show 8*(i+1)+j-8=8*i+j by omega];exact zk2 ts ks i j t k yjc yjd hj
inductive Tree (w:World) (ok:Nat->Prop):T->Value->Prop
 | nil (t:T) (h:t.kids=[]):Tree w ok t (.slice none 0 0)
 | row (t:T) (g cap:Nat) (cur:Array Value) (ks:List Value) (hg:w.heap[g]?=some (.cells cur 56 (0,0))) (hok:ok g) (hn:ks.length=t.kids.length) (h0:0<ks.length)
  (hcap:t.kids.length<=cap) (hmax:cap<=maxLen) (hsize:cur.size=cap*8) (hc:cur.toList.take (t.kids.length*8)=cellsOf t.kids ks)
  (hk:∀ (i:Nat) t' k',t.kids[i]?=some t'->ks[i]?=some k'->Tree w ok t' k'):Tree w ok t (.slice (some ⟨g,0,none⟩) t.kids.length cap)
section
variable {w w':World} {ok ok':Nat->Prop} {t:T} {k:Value}
theorem Tree.mono (h:Tree w ok t k) (hh:∀ b,ok b->b<w.heap.size->(∃ cur,w.heap[b]?=some (.cells cur 56 (0,0)))->w'.heap[b]?=w.heap[b]?∧ok' b):Tree w' ok' t k:=by
 induction h with
 | nil t h=>exact .nil t h
 | row t g cap cur ks hg hok hn h0 hcap hmax hsize hc hk ih =>
  have:=hh g hok (za0 hg) ⟨cur,hg⟩;exact .row t g cap cur ks (this.1.trans hg) this.2 hn h0 hcap hmax hsize hc fun i t' k' h1 h2=>ih i t' k' h1 h2
theorem Tree.weak (h:Tree w ok t k) (hh:∀ b,ok b->b<w.heap.size->ok' b):Tree w ok' t k:=h.mono fun b h1 h2 _=>⟨rfl,hh b h1 h2⟩
theorem Tree.stays (h:Tree w ok t k) (hb:Below w.heap.size w w'):Tree w' ok t k:=h.mono fun b h1 h2 _=>⟨hb.block b h2,h1⟩
theorem Tree.alloc (h:Tree w ok t k) (o:Obj):Tree (w.alloc o) ok t k:=h.mono fun b h1 h2 _=>⟨yfo w o b h2,h1⟩
theorem Tree.far (h:Tree w ok t k) {a:Addr} (ha:∀ b,ok b->b≠a.block) (u:Value):Tree (w.setCell a u) ok t k:=h.mono fun b h1 h2 _=>⟨yf9 w a u b (ha b h1),h1⟩
theorem Tree.drewN (h:Tree w ok t k) (n:Nat):Tree (w.drewN n) ok t k:=h.mono fun b h1 h2 _=>⟨rfl,h1⟩
theorem Tree.only {g:Nat} {s:ByteArray} {st:St} (h:Tree w ok t k) (hg:w.grownBy w' (some g)) (hr:Rdr w g s st):Tree w' ok t k:=h.mono fun b h1 h2 ⟨cur,h3⟩=>⟨hg.block b h2 fun e=>by
 injection e with e
 subst e;unfold Rdr at hr;rw[hr] at h3;injection h3 with h3
 injection h3 with _ h4 _
 exact absurd h4 yij,h1⟩
theorem Tree.form (h:Tree w ok t k):∃ A n c,k = .slice A n c:=by cases h <;> exact⟨_,_,_,rfl⟩
theorem Tree.one (h:Tree w ok t k):k.oneCell'=true:=by cases h <;> rfl
end
def Box8 (w:World) (g:Nat) (t:T) (k:Value):Prop:=
 w.heap[g]?=some (.cells #[.int .i64 t.op,.int .u64 (word t.set 0),.int .u64 (word t.set 1),.int .u64 (word t.set 2),.int .u64 (word t.set 3),.int .i64 t.lo,.int .i64 t.hi,k] 56 (0,0))
section
variable {w w':World} {g:Nat} {t:T} {k:Value}
theorem Box8.cell (h:Box8 w g t k):w.cell? ⟨g,0,none⟩=some (.int .i64 t.op)∧w.cell? ⟨g,1,none⟩=some (.int .u64 (word t.set 0))∧w.cell? ⟨g,2,none⟩=some (.int .u64 (word t.set 1))∧w.cell? ⟨g,3,none⟩=some (.int .u64 (word t.set 2))∧
 w.cell? ⟨g,4,none⟩=some (.int .u64 (word t.set 3))∧w.cell? ⟨g,5,none⟩=some (.int .i64 t.lo)∧w.cell? ⟨g,6,none⟩=some (.int .i64 t.hi)∧w.cell? ⟨g,7,none⟩=some k:=by
 unfold Box8 at h;refine⟨?_,?_,?_,?_,?_,?_,?_,?_⟩ <;> exact cell_of_row w g _ _ 56 (0,0) h
theorem Box8.frozen (h:Box8 w g t k):w.frozen? ⟨g,0,none⟩=false∧w.frozen? ⟨g,1,none⟩=false∧w.frozen? ⟨g,2,none⟩=false∧w.frozen? ⟨g,3,none⟩=false∧
 w.frozen? ⟨g,4,none⟩=false∧w.frozen? ⟨g,5,none⟩=false∧w.frozen? ⟨g,6,none⟩=false∧w.frozen? ⟨g,7,none⟩=false:=by
 unfold Box8 at h;refine⟨?_,?_,?_,?_,?_,?_,?_,?_⟩ <;> simp[World.frozen?,h]
theorem Box8.lt (h:Box8 w g t k):g<w.heap.size:=za0 h
theorem Box8.stays (h:Box8 w g t k) (hb:Below w.heap.size w w'):Box8 w' g t k:=(hb.block g h.lt).trans h
theorem Box8.alloc (h:Box8 w g t k) (o:Obj):Box8 (w.alloc o) g t k:=(yfo w o g h.lt).trans h
theorem Box8.grown {row:Option Nat} (h:Box8 w g t k) (hb:w.grownBy w' row) (hg:some g≠row):Box8 w' g t k:=(hb.block g h.lt hg).trans h
theorem Box8.far (h:Box8 w g t k) {a:Addr} (ha:g≠a.block) (u:Value):Box8 (w.setCell a u) g t k:=(yf9 w a u g ha).trans h
theorem Box8.drewN (h:Box8 w g t k) (n:Nat):Box8 (w.drewN n) g t k:=h
theorem Box8.new (w:World) (t:T) (k:Value):Box8 (w.alloc (.cells #[.int .i64 t.op,.int .u64 (word t.set 0),.int .u64 (word t.set 1),.int .u64 (word t.set 2),.int .u64 (word t.set 3),.int .i64 t.lo,.int .i64 t.hi,k] 56)) w.heap.size t k:=heap_alloc_new w _
theorem Box8.new0 (w:World):Box8 (w.alloc (.cells #[.int .i64 0,.int .u64 0,.int .u64 0,.int .u64 0,.int .u64 0,.int .i64 0,.int .i64 0,.slice none 0 0] 56)) w.heap.size T.zero (.slice none 0 0):=by
 have h:=Box8.new w T.zero (.slice none 0 0)
 simpa only [T.zero,T.op,T.set,T.lo,T.hi,zak] using h
def put8 (w:World) (g:Nat) (t:T) (k:Value):World:=
 (((((((w.setCell ⟨g,0,none⟩ (.int .i64 t.op)).setCell ⟨g,1,none⟩ (.int .u64 (word t.set 0))).setCell ⟨g,2,none⟩ (.int .u64 (word t.set 1))).setCell ⟨g,3,none⟩ (.int .u64 (word t.set 2))).setCell ⟨g,4,none⟩ (.int .u64 (word t.set 3))).setCell ⟨g,5,none⟩ (.int .i64 t.lo)).setCell ⟨g,6,none⟩ (.int .i64 t.hi)).setCell ⟨g,7,none⟩ k
theorem zhs (w:World) (g:Nat) (t:T) (k:Value) (b:Nat) (hb:b≠g):(put8 w g t k).heap[b]?=w.heap[b]?:=by
 unfold put8;rw[yf9 _ _ _ _ hb,yf9 _ _ _ _ hb,yf9 _ _ _ _ hb,yf9 _ _ _ _ hb,yf9 _ _ _ _ hb,yf9 _ _ _ _ hb,yf9 _ _ _ _ hb,yf9 _ _ _ _ hb]
theorem Box8.put {t':T} {k':Value} (h:Box8 w g t k) (t':T) (k':Value):Box8 (put8 w g t' k') g t' k':=by
 unfold Box8 put8 at *;simp[World.setCell,yg2,h]
theorem Box8.putFar {g':Nat} {t':T} {k':Value} (h:Box8 w g t k) (hg:g≠g'):Box8 (put8 w g' t' k') g t k:=(zhs w g' t' k' g hg).trans h
theorem Rdr.put8 {g':Nat} {s:ByteArray} {st:St} (h:Rdr w g s st) (hg:g≠g') (t:T) (k:Value):Rdr (put8 w g' t k) g s st:=(zhs w g' t k g hg).trans h
theorem Tree.put8 {ok:Nat->Prop} {g':Nat} {t':T} {k':Value} (h:Tree w ok t k) (hg:∀ b,ok b->b≠g'):Tree (put8 w g' t' k') ok t k:=h.mono fun b h1 h2 _=>⟨zhs w g' t' k' b (hg b h1),h1⟩
theorem zob {a b:World} {g g':Nat} (h:a.grownBy b (some g)) (hg:a.heap.size<=g') (t:T) (k:Value):a.grownBy (Go.Proofs.YtipfgpfplakhiaaDoor.put8 b g' t k) (some g):=
 zab (zab (zab (zab (zab (zab (zab (zab h hg _) hg _) hg _) hg _) hg _) hg _) hg _) hg _
theorem zej {a:World} {B:Nat} (h:Below B a w) (hg:B<=g) (t:T) (k:Value):Below B a (Go.Proofs.YtipfgpfplakhiaaDoor.put8 w g t k):=
 (((((((h.setCell (p:=⟨g,0,none⟩) hg _).setCell (p:=⟨g,1,none⟩) hg _).setCell (p:=⟨g,2,none⟩) hg _).setCell (p:=⟨g,3,none⟩) hg _).setCell (p:=⟨g,4,none⟩) hg _).setCell (p:=⟨g,5,none⟩) hg _).setCell (p:=⟨g,6,none⟩) hg _).setCell (p:=⟨g,7,none⟩) hg _
end
def Row (w:World) (B:Nat) (v:Value) (l:List T):Prop:=
 ∃ ks,ks.length=l.length∧w.ownsRow B 56 8 v l.length (cellsOf l ks)∧∀ (i:Nat) t' k',l[i]?=some t'->ks[i]?=some k'->Tree w (fun b=>B<=b∧some b≠v.ownBlock) t' k'
section
variable {w w':World} {B:Nat} {v:Value} {l:List T}
theorem Row.stays (h:Row w B v l) (hb:Below w.heap.size w w'):Row w' B v l:=by
 obtain⟨ks,h1,h2,h3⟩:=h;exact⟨ks,h1,za6 h2 hb,fun i t' k' e1 e2=>(h3 i t' k' e1 e2).stays hb⟩
theorem Row.alloc (h:Row w B v l) (o:Obj):Row (w.alloc o) B v l:=h.stays ((yf6 _ _).alloc (yez _) _)
theorem Row.drewN (h:Row w B v l) (n:Nat):Row (w.drewN n) B v l:=by
 obtain⟨ks,h1,h2,h3⟩:=h;exact⟨ks,h1,h2,fun i t' k' e1 e2=>(h3 i t' k' e1 e2).drewN n⟩
theorem zys {e:TypeId} {size n:Nat} {xs:List Value} {g:Nat} (h:w.ownsRow B e size v n xs) (hv:v.ownBlock=some g):∃ cur,w.heap[g]?=some (.cells cur e (0,0)):=by
 rcases h.2 with ⟨rfl,_⟩|⟨g',cap,cur,rfl,_,hh,_⟩
 .cases hv
 .have:g'=g:=by simpa [Value.ownBlock] using hv
  subst this;exact⟨cur,hh⟩
theorem Row.only {g:Nat} {s:ByteArray} {st:St} (h:Row w B v l) (hg:w.grownBy w' (some g)) (hr:Rdr w g s st):Row w' B v l:=by
 obtain⟨ks,h1,h2,h3⟩:=h;refine⟨ks,h1,h2.kept hg (.inr fun e=>?_),fun i t' k' e1 e2=>(h3 i t' k' e1 e2).only hg hr⟩;obtain⟨cur,hc⟩:=zys h2 e;unfold Rdr at hr;rw[hr] at hc;injection hc with hc
 injection hc with _ h4 _
 exact absurd h4 yij
theorem Row.far {g:Nat} (h:Row w B v l) (hg:g<B) {i:Nat} (u:Value):Row (w.setCell ⟨g,i,none⟩ u) B v l:=by
 obtain⟨ks,h1,h2,h3⟩:=h;have hb:w.grownBy (w.setCell ⟨g,i,none⟩ u) (some g):=zce (zbo _ _) _;refine⟨ks,h1,h2.kept hb (.inr fun e=>?_),fun i t' k' e1 e2=>(h3 i t' k' e1 e2).far (fun b hb=>by show b≠g;omega) u⟩;have:=h2.lt _ e;omega
theorem Row.new (w:World) (B:Nat) (t:T) (k:Value) (hB:B<=w.heap.size) (ht:Tree w (fun b=>B<=b) t k):
 Row (w.alloc (.cells #[.int .i64 t.op,.int .u64 (word t.set 0),.int .u64 (word t.set 1),.int .u64 (word t.set 2),.int .u64 (word t.set 3),.int .i64 t.lo,.int .i64 t.hi,k] 56)) B (.slice (some ⟨w.heap.size,0,none⟩) 1 1) [t]:=by
 refine⟨[k],rfl,yhz w _ 1 hB yij rfl,fun i t' k' e1 e2=>?_⟩
 match i,e1,e2 with
 | 0,e1,e2 =>
  simp at e1 e2;subst e1 e2;refine (ht.weak (ok':=fun b=>B<=b∧some b≠some w.heap.size) fun b h1 h2=>⟨h1,by simp;omega⟩).alloc _
theorem Row.tree (h:Row w B v l) (h0:0<l.length) (op:Int) (p:Nat->Bool) (lo hi:Int):Tree w (fun b=>B<=b) (.mk op p lo hi l) v:=by
 obtain⟨ks,h1,h2,h3⟩:=h;rcases h2.2 with ⟨rfl,h⟩|⟨g,cap,cur,rfl,hB,hh,hc,hm,hs,ht⟩
 .omega
 .exact .row (.mk op p lo hi l) g cap cur ks hh hB h1 yie hc hm hs ht fun i t' k' e1 e2=>(h3 i t' k' e1 e2).weak fun b hb _=>hb.1
end
theorem Tryd.infoNode:(Tryd.prog.info? 56).map (fun i=>(i.zero,i.size,i.bytes))=some (some (.agg #[.int .i64 0,.int .u64 0,.int .u64 0,.int .u64 0,.int .u64 0,.int .i64 0,.int .i64 0,.slice none 0 0]),8,80):=by kernel_rfl
end
section
def Rel {α:Type} (s:ByteArray) (o:R α) (st:St) (a:α) (st':St):Prop:=
 st'.opn=st.opn∧st'.pos<=s.size∧(st.bad≠0->st'.bad=st.bad∧st'.spot=st.spot)∧
 (st.bad=0->match o with
   | .ok (x,p)=>a=x∧st'.pos=p∧st'.bad=0
   | .error (c,q)=>c≠0∧st'.bad=c∧st'.spot=q)
section
variable (s:ByteArray) (st:St)
theorem zcy (h:st.bad≠0) (a b:Int):st.fail a b=st:=by unfold St.fail;rw[if_neg h]
theorem ze1 (h:st.bad=0) (a b:Int):st.fail a b={st with bad:=b,spot:=a}:=by unfold St.fail;rw[if_pos h]
theorem ze6 (h:st.bad=0) (hp:st.pos<s.size):st.peek s=(bt s st.pos:Int):=by unfold St.peek;rw[if_neg yie]
theorem zio (h:st.bad=0) (hp:s.size<=st.pos):st.peek s = -1:=by unfold St.peek;rw[if_pos yie]
theorem zip (h:st.bad≠0):st.peek s = -1:=by unfold St.peek;rw[if_pos yie]
theorem zeo (h:st.bad=0) (hp:st.pos<s.size):st.next s=((bt s st.pos:Int),st.step 1):=by
 unfold St.next;rw[ze6 s st h hp,if_neg yie]
theorem zft (h:st.bad=0) (hp:s.size<=st.pos):st.next s=(-1,{st with bad:=2,spot:=s.size}):=by
 unfold St.next;rw[zio s st h hp,if_pos yie,ze1 _ h]
theorem zep (h:st.bad≠0):st.next s=(-1,st):=by
 unfold St.next;rw[zip s st h,if_pos yie,zcy _ h]
theorem zmu (t:ByteArray):inT (-1) t=false:=by
 cases h:inT (-1) t
 .rfl
 .have:=zfx _ _ h;omega
theorem zbe (h:st.bad=0) (c:Nat):(st.peek s=(c:Int))↔isB s st.pos c=true:=by
 unfold isB
 by_cases hp:st.pos<s.size
 .rw[ze6 s st h hp];simp[hp];omega
 .rw[zio s st h yie];simp[hp]
theorem zqb (h:st.bad≠0):st.escaped s=(0,st):=by
 unfold St.escaped;simp only[zep s st h,zmu,zcy st h];simp
theorem zjw (hpos:st.pos<=s.size):Rel s (cEsc s st.pos) st (st.escaped s).1 (st.escaped s).2:=by
 by_cases hb:st.bad=0
 .refine⟨?_,(zgg s st hpos).1,fun h=>absurd hb h,fun _=>?_⟩
  .unfold St.escaped St.next;simp only;have e:∀ (x:St) a b,(x.fail a b).opn=x.opn:=fun x a b=>by unfold St.fail;split <;> rfl
   repeat' split
   all_goals simp[e,St.step]
  .by_cases hp:st.pos<s.size
   .unfold St.escaped cEsc ydh;simp only[zeo s st hb hp,hp,if_true];have e1:((bt s st.pos:Int)=110)↔bt s st.pos=110:=yie;have e2:((bt s st.pos:Int)=116)↔bt s st.pos=116:=yie;simp only[e1,e2]
    by_cases h1:bt s st.pos=110
    .simp only[h1,if_true];exact⟨trivial,rfl,hb⟩
    .simp only[h1,if_false]
     by_cases h2:bt s st.pos=116
     .simp only[h2,if_true];exact⟨trivial,rfl,hb⟩
     .simp only[h2,if_false]
      by_cases h3:inT (bt s st.pos:Int) ⟨#[92,46,91,93,40,41,123,125,124,63,42,43,94,36,45,47]⟩=true
      .simp only[h3,if_true];exact⟨trivial,rfl,hb⟩
      .simp only[h3];rw[if_neg yii,if_neg yii,ze1 _ (by exact hb)];exact⟨by simp,rfl,by simp[St.step]⟩
   .unfold St.escaped cEsc;simp only[zft s st hb yie,zmu,hp,if_false];simp[St.fail];omega
 .rw[zqb s st hb];exact⟨rfl,hpos,fun _=>⟨rfl,rfl⟩,fun h=>absurd h hb⟩
theorem zl3 (h:st.bad≠0):st.member s=(0,st):=by
 unfold St.member;simp[zep s st h];omega
theorem zl1 (hpos:st.pos<=s.size):Rel s (cMem s st.pos) st (st.member s).1 (st.member s).2:=by
 by_cases hb:st.bad=0
 .by_cases hp:st.pos<s.size
  .have e1:((bt s st.pos:Int)=93)↔bt s st.pos=93:=yie;have e2:((bt s st.pos:Int)=92)↔bt s st.pos=92:=yie;unfold St.member cMem;simp only[zeo s st hb hp,hp,if_true,e1,e2]
   by_cases h3:bt s st.pos=93
   .simp only[h3,if_true];rw[ze1 _ (by exact hb)];refine⟨rfl,by simp[St.step];omega,fun h=>absurd hb h,fun _=>⟨by simp,rfl,by simp[St.step]⟩⟩
   .simp only[h3,if_false]
    by_cases h2:bt s st.pos=92
    .simp only[h2,if_true];have:=zjw s (st.step 1) (show st.pos+1<=s.size by omega);exact this
    .simp only[h2,if_false];refine⟨rfl,by simp[St.step];omega,fun h=>absurd hb h,fun _=>⟨by omega,rfl,hb⟩⟩
  .unfold St.member cMem;simp only[zft s st hb yie,hp,if_false];refine⟨rfl,hpos,fun h=>absurd hb h,fun _=>?_⟩;simp;omega
 .rw[zl3 s st hb];exact⟨rfl,hpos,fun _=>⟨rfl,rfl⟩,fun h=>absurd h hb⟩
theorem ztc (h:st.bad≠0):st.number s=(0,st):=by
 unfold St.number;simp[zep s st h,zcy st h]
theorem zhv (hpos:st.pos<=s.size):Rel s (cNum s st.pos) st (st.number s).1 (st.number s).2:=by
 by_cases hb:st.bad=0
 .by_cases hp:st.pos<s.size
  .unfold St.number cNum;simp only[zeo s st hb hp]
   by_cases hd:isD s st.pos=true
   .have hd':=hd;simp[isD] at hd';have hx:¬ ((bt s st.pos:Int)<48∨57<(bt s st.pos:Int)):=yie;rw[if_pos hd];simp only[hx,if_false]
    by_cases hd2:isD s (st.pos+1)=true
    .have hd3:=hd2;simp[isD] at hd3;rw[ze6 s (st.step 1) hb (by simp[St.step];omega),if_pos hd2];have hy:(48<=(bt s (st.step 1).pos:Int)∧(bt s (st.step 1).pos:Int)<=57):=(by simp only[St.step];omega);rw[if_pos hy];refine⟨rfl,by simp[St.step];omega,fun h=>absurd hb h,fun _=>⟨by simp only[St.step];omega,rfl,hb⟩⟩
    .have hd3:¬ (48<=(st.step 1).peek s∧(st.step 1).peek s<=57):=by
      by_cases hp2:st.pos+1<s.size
      .rw[ze6 s (st.step 1) hb (by simpa [St.step] using hp2)];simp[isD,hp2] at hd2;simp only[St.step];omega
      .rw[zio s (st.step 1) hb (by simp[St.step];omega)];omega
     rw[if_neg hd2,if_neg hd3];refine⟨rfl,by simp[St.step];omega,fun h=>absurd hb h,fun _=>⟨rfl,rfl,hb⟩⟩
   .have hd':=hd;simp[isD,hp] at hd';have hx:(bt s st.pos:Int)<48∨57<(bt s st.pos:Int):=yie;rw[if_neg hd,if_pos hx,ze1 _ (by exact hb)];refine⟨rfl,by simp[St.step];omega,fun h=>absurd hb h,fun _=>⟨by simp,rfl,by simp[St.step]⟩⟩
  .unfold St.number cNum;simp only[zft s st hb yie];have hd:¬ isD s st.pos=true:=(by simp[isD,hp]);rw[if_neg hd,if_pos yie];refine⟨rfl,hpos,fun h=>absurd hb h,fun _=>?_⟩;simp[St.fail];omega
 .rw[ztc s st hb];exact⟨rfl,hpos,fun _=>⟨rfl,rfl⟩,fun h=>absurd h hb⟩
theorem yax (hb:st.bad=0):st.wideHere s=zih s st.pos:=by
 unfold St.wideHere zih
 congr 1
 congr 1
 rw[ygc,←zbe s st hb 92];simp
theorem zzl (h:st.bad≠0):st.item s=(zam 0 0,st):=by
 unfold St.item St.wideHere;simp[zip s st h,zl3 s st h]
theorem zrq (hpos:st.pos<=s.size):Rel s (zii s st.pos) st (st.item s).1 (st.item s).2:=by
 by_cases hb:st.bad=0
 .unfold St.item zii;rw[yax s st hb]
  by_cases hw:zih s st.pos=true
  .rw[if_pos hw,if_pos hw];simp[zih] at hw;exact⟨rfl,by simp[St.step];omega,fun h=>absurd hb h,fun _=>⟨rfl,rfl,hb⟩⟩
  .rw[if_neg hw,if_neg hw];have hm:=zl1 s st hpos;have hbd:=zjg s st;revert hm hbd;generalize (st.member s).1=lo;generalize (st.member s).2=st1;generalize cMem s st.pos=o;rintro⟨m1,m2,m3,m4⟩ hbd;replace m4:=m4 hb
   match o,m4 with
   | .error (c,q),m4 =>
    have hz:st1.bad≠0:=(by rw[m4.2.1];exact m4.1);simp only[zb1,zip s st1 hz];exact⟨m1,m2,fun h=>absurd hb h,fun _=>m4⟩
   | .ok (x,p),m4 =>
    obtain⟨rfl,rfl,hz⟩:=m4;simp only[zb1]
    by_cases h45:isB s st1.pos 45=true
    .have hp:=(zbe s st1 hz 45).2 h45;have hlt:=zh4 h45;rw[if_pos h45,if_pos (show st1.peek s=45 from hp)];have hm:=zl1 s (st1.step 1) (show st1.pos+1<=s.size by omega);revert hm;rw[show (st1.step 1).pos=st1.pos+1 from rfl];generalize ((st1.step 1).member s).1=hi;generalize ((st1.step 1).member s).2=st3;generalize cMem s (st1.pos+1)=o;rintro⟨n1,n2,n3,n4⟩;replace n4:=n4 hz
     match o,n4 with
     | .error (c,q),n4 =>
      have hz3:st3.bad≠0:=(by rw[n4.2.1];exact n4.1);simp only[zcy st3 hz3,ite_self];exact⟨n1.trans m1,n2,fun h=>absurd hb h,fun _=>n4⟩
     | .ok (y,p),n4 =>
      obtain⟨rfl,rfl,hz3⟩:=n4
      by_cases hlo:hi<lo
      .simp only[hlo,if_true];rw[ze1 _ hz3];exact⟨n1.trans m1,n2,fun h=>absurd hb h,fun _=>⟨by simp,rfl,rfl⟩⟩
      .simp only[hlo,if_false];exact⟨n1.trans m1,n2,fun h=>absurd hb h,fun _=>⟨rfl,rfl,hz3⟩⟩
    .have hp:¬ (st1.peek s=45):=fun h=>h45 ((zbe s st1 hz 45).1 yit)
     rw[if_neg h45,if_neg hp];exact⟨m1,m2,fun h=>absurd hb h,fun _=>⟨rfl,rfl,hz⟩⟩
 .rw[zzl s st hb];exact⟨rfl,hpos,fun _=>⟨rfl,rfl⟩,fun h=>absurd h hb⟩
end
end
end Go.Proofs.YtipfgpfplakhiaaDoor
