import Derived.Test.YtgbdanddbgomhaaGreatDoorMs10
set_option linter.unusedVariables false
set_option linter.unusedSimpArgs false
namespace Go.Proofs.YtgbdanddbgomhaaGreatDoor
open Go
section
structure Made (N:Nat) (Q:T->Prop):Prop where
 one:∀ p,Q (.one p)
 rep:∀ m n t,0<=m->m<=n->1<=n->n<=32->Q t->Q (.rep m n t)
 cat:∀ l,2<=l.length->l.length<=N->(∀ x∈l,Q x)->Q (.mk 2 noneP 0 0 l)
 alt:∀ l,2<=l.length->l.length<=N->(∀ x∈l,Q x)->Q (.mk 3 noneP 0 0 l)
theorem zmy {s:ByteArray} {p q:Nat} {m:Int} (h:cNum s p = .ok (m,q)):0<=m:=by
 unfold cNum at h
 by_cases h1:isD s p=true
 . rw[if_pos h1] at h;simp[isD] at h1
   by_cases h2:isD s (p+1)=true
   . rw[if_pos h2] at h;simp[isD] at h2;injection h with h;injection h with h _
     omega
   . rw[if_neg h2] at h;injection h with h;injection h with h _
     omega
 . rw[if_neg h1] at h;cases h
theorem zhv {s:ByteArray} {p q:Nat} {m n:Int} (h:cTimes s p = .ok ((m,n),q)):0<=m∧m<=n∧1<=n∧n<=32:=by
 unfold cTimes at h;cases hc:cNum s p with
 | error e=>rw[hc] at h;cases h
 | ok x =>
   rw[hc] at h;simp only[thenR] at h;have h0:=zmy (m:=x.1) (q:=x.2) hc;cases hd:(if isB s x.2 44=true then cNum s (x.2+1) else (.ok (x.1,x.2):R Int)) with
   | error e=>rw[hd] at h;cases h
   | ok y =>
     rw[hd] at h;simp only at h
     by_cases hk:isB s y.2 125=true∧1<=y.1∧y.1<=32∧x.1<=y.1
     . rw[if_pos hk] at h;injection h with h;injection h with h _;injection h with h1 h2
       subst h1 h2;exact⟨h0,hk.2.2.2,hk.2.1,hk.2.2.1⟩
     . rw[if_neg hk] at h;cases h
theorem zh3 {op:Int} {l:List T} {Q:T->Prop} (h1:1<=l.length) (hl:∀ x∈l,Q x) (hm:2<=l.length->Q (.mk op noneP 0 0 l)):Q (T.many op l):=by
 unfold T.many;split
 . rename_i z;exact hl z (by simp)
 . rename_i hne;refine hm ?_
   match l,h1,hne with
   | [x],_,hne=>exact absurd rfl (hne x)
   | _::_::_,_,_=>simp
section
variable {s:ByteArray} {Q:T->Prop} (hQ:Made (s.size+2) Q) {d:Option (Nat->R T)} {top:Bool} (hd:∀ f,d=some f->∀ p t q,f p = .ok (t,q)->Q t)
include hQ hd
theorem Made.atom {p q:Nat} {t:T} (h:cAtom s d p = .ok (t,q)):Q t:=by
 unfold cAtom at h
 by_cases hlt:p<s.size
 . rw[if_pos hlt] at h;split at h
   . cases d with
     | none=>cases h
     | some f =>
       simp only at h;cases hc:f (p+1) with
       | error e=>rw[hc] at h;cases h
       | ok x =>
         rw[hc] at h;simp only[thenR] at h;split at h
         . injection h with h;injection h with h _;rw[←h];exact hd f rfl (p+1) x.1 x.2 hc
         . cases h
   . split at h
     . cases hc:cClass s (p+1) with
       | error e=>rw[hc] at h;cases h
       | ok x=>rw[hc] at h;injection h with h;injection h with h _;rw[←h];exact hQ.one _
     . split at h
       . injection h with h;injection h with h _;rw[←h];exact hQ.one _
       . split at h
         . split at h
           . injection h with h;injection h with h _;rw[←h];exact hQ.one _
           . cases hc:cEsc s (p+1) with
             | error e=>rw[hc] at h;cases h
             | ok x=>rw[hc] at h;injection h with h;injection h with h _;rw[←h];exact hQ.one _
         . split at h
           . cases h
           . split at h
             . cases h
             . injection h with h;injection h with h _;rw[←h];exact hQ.one _
 . rw[if_neg hlt] at h;cases h
omit hd in
theorem Made.rloop:∀ (n:Nat) (t:T) (p:Nat) (t':T) (q:Nat),Q t->loopR (repStep s) n t p = .ok (t',q)->Q t'
 | 0,t,p,t',q,h0,h=>by unfold loopR at h;injection h with h;injection h with h _;rw[←h];exact h0
 | n+1,t,p,t',q,h0,h=>by
   unfold loopR repStep at h
   by_cases h63:isB s p 63=true
   . rw[if_pos h63] at h;exact Made.rloop n _ _ t' q (hQ.rep _ _ _ (by omega) (by omega) (by omega) (by omega) h0) h
   . rw[if_neg h63] at h
     by_cases h123:isB s p 123=true
     . rw[if_pos h123] at h;cases hc:cTimes s (p+1) with
       | error e=>rw[hc] at h;cases h
       | ok x =>
         rw[hc] at h;obtain⟨g1,g2,g3,g4⟩:=zhv (m:=x.1.1) (n:=x.1.2) (q:=x.2) hc;exact Made.rloop n _ _ t' q (hQ.rep _ _ _ g1 g2 g3 g4 h0) h
     . rw[if_neg h123] at h;injection h with h;injection h with h _;rw[←h];exact h0
theorem Made.piece {p q:Nat} {t:T} (h:cPiece s d p = .ok (t,q)):Q t:=by
 unfold cPiece at h;cases hc:cAtom s d p with
 | error e=>rw[hc] at h;cases h
 | ok x =>
   rw[hc] at h;exact hQ.rloop _ x.1 x.2 t q (hQ.atom hd hc) h
theorem Made.ploop:∀ (n:Nat) (l:List T) (p:Nat) (l':List T) (q:Nat),1<=l.length->(∀ x∈l,Q x)->loopR (partStep s d top) n l p = .ok (l',q)->(∀ x∈l',Q x)∧1<=l'.length∧l'.length<=l.length+n
 | 0,l,p,l',q,hl,h0,h=>by unfold loopR at h;injection h with h;injection h with h _;rw[←h];exact⟨h0,hl,by omega⟩
 | n+1,l,p,l',q,hl,h0,h=>by
   unfold loopR partStep at h;split at h
   . injection h with h;injection h with h _;rw[←h];exact⟨h0,hl,by omega⟩
   . cases h
   . rename_i a' p' e;split at e
     . cases hc:cPiece s d p with
       | error e'=>rw[hc] at e;injection e with e;cases e
       | ok x =>
         rw[hc] at e;injection e with e
         injection e with e
         injection e with e1 e2
         have k:=Made.ploop n a' p' l' q (by rw[←e1];simp) (fun y hy=>?_) h
         . refine⟨k.1,k.2.1,?_⟩;have:=k.2.2;rw[←e1] at this;simp at this;omega
         rw[←e1] at hy;rcases List.mem_append.1 hy with hy|hy
         . exact h0 y hy
         . simp at hy;rw[hy];exact hQ.piece hd (q:=x.2) hc
     . cases e
theorem Made.part {p q:Nat} {t:T} (h:cPart s d top p = .ok (t,q)):Q t:=by
 unfold cPart at h;cases hc:cPiece s d p with
 | error e=>rw[hc] at h;cases h
 | ok x =>
   rw[hc] at h;simp only[thenR] at h;cases hl:loopR (partStep s d top) (s.size+1) [x.1] x.2 with
   | error e=>rw[hl] at h;cases h
   | ok y =>
     rw[hl] at h;have k:=hQ.ploop hd _ [x.1] x.2 y.1 y.2 (by simp) (fun z hz=>by simp at hz;rw[hz];exact hQ.piece hd (q:=x.2) hc) hl;injection h with h
     injection h with h _
     rw[←h];exact zh3 k.2.1 k.1 fun h2=>hQ.cat _ h2 (by have:=k.2.2;simp at this;omega) k.1
theorem Made.loop:∀ (n:Nat) (l:List T) (p:Nat) (l':List T) (q:Nat),1<=l.length->(∀ x∈l,Q x)->loopR (patStep s d top) n l p = .ok (l',q)->(∀ x∈l',Q x)∧1<=l'.length∧l'.length<=l.length+n
 | 0,l,p,l',q,hl,h0,h=>by unfold loopR at h;injection h with h;injection h with h _;rw[←h];exact⟨h0,hl,by omega⟩
 | n+1,l,p,l',q,hl,h0,h=>by
   unfold loopR patStep at h;split at h
   . injection h with h;injection h with h _;rw[←h];exact⟨h0,hl,by omega⟩
   . cases h
   . rename_i a' p' e;split at e
     . cases hc:cPart s d top (p+1) with
       | error e'=>rw[hc] at e;injection e with e;cases e
       | ok x =>
         rw[hc] at e;injection e with e
         injection e with e
         injection e with e1 e2
         have k:=Made.loop n a' p' l' q (by rw[←e1];simp) (fun y hy=>?_) h
         . refine⟨k.1,k.2.1,?_⟩;have:=k.2.2;rw[←e1] at this;simp at this;omega
         rw[←e1] at hy;rcases List.mem_append.1 hy with hy|hy
         . exact h0 y hy
         . simp at hy;rw[hy];exact hQ.part hd (q:=x.2) hc
     . cases e
theorem Made.cpat {p q:Nat} {t:T} (h:cPat s d top p = .ok (t,q)):Q t:=by
 unfold cPat at h;cases hc:cPart s d top p with
 | error e=>rw[hc] at h;cases h
 | ok x =>
   rw[hc] at h;simp only[thenR] at h;cases hl:loopR (patStep s d top) (s.size+1) [x.1] x.2 with
   | error e=>rw[hl] at h;cases h
   | ok y =>
     rw[hl] at h;have k:=hQ.loop hd _ [x.1] x.2 y.1 y.2 (by simp) (fun z hz=>by simp at hz;rw[hz];exact hQ.part hd (q:=x.2) hc) hl;injection h with h
     injection h with h _
     rw[←h];exact zh3 k.2.1 k.1 fun h2=>hQ.alt _ h2 (by have:=k.2.2;simp at this;omega) k.1
omit hd
theorem Made.pat:∀ (k:Nat) (top:Bool) (p:Nat) (t:T) (q:Nat),pat s k top p = .ok (t,q)->Q t
 | 0,top,p,t,q,h=>hQ.cpat (d:=none) (fun f e=>by cases e) h
 | k+1,top,p,t,q,h=>hQ.cpat (d:=some (Go.Proofs.YtgbdanddbgomhaaGreatDoor.pat s k false)) (fun f e p t q h=>by cases e;exact Made.pat k false p t q h) h
theorem Made.parse {t:T} (h:Go.Proofs.YtgbdanddbgomhaaGreatDoor.parse s = .ok t):Q t:=by
 unfold Go.Proofs.YtgbdanddbgomhaaGreatDoor.parse at h
 by_cases hl:200<s.size
 . rw[if_pos hl] at h;cases h
 . rw[if_neg hl] at h;cases hp:Go.Proofs.YtgbdanddbgomhaaGreatDoor.pat s 20 true 0 with
   | error e=>rw[hp] at h;cases h
   | ok x =>
     rw[hp] at h;injection h with h
     rw[←h];exact hQ.pat 20 true 0 x.1 x.2 hp
end
theorem zi6 {s:ByteArray} {t:T} (h:parse s = .ok t):s.size<=200:=by
 unfold parse at h
 by_cases hl:200<s.size
 . rw[if_pos hl] at h;cases h
 . omega
end
section
inductive WF:T->Prop where
 | one (p:Nat->Bool):WF (.mk 1 p 0 0 [])
 | cat (l:List T) (h2:2<=l.length) (hN:l.length<=202) (h:∀ x∈l,WF x):WF (.mk 2 noneP 0 0 l)
 | alt (l:List T) (h2:2<=l.length) (hN:l.length<=202) (h:∀ x∈l,WF x):WF (.mk 3 noneP 0 0 l)
 | rep (m n:Int) (t:T) (h0:0<=m) (h1:m<=n) (h2:1<=n) (h3:n<=32) (h:WF t):WF (.mk 4 noneP m n [t])
theorem zmj {N:Nat} (hN:N<=202):Made N WF:=⟨.one,.rep,fun l h1 h2 => .cat l h1 (by omega),fun l h1 h2 => .alt l h1 (by omega)⟩
theorem zgp {s:ByteArray} {t:T} (h:parse s = .ok t):WF t:=(zmj (by have:=zi6 h;omega)).parse h
def iter (Rl:Nat->Nat->Prop):Nat->Nat->Nat->Prop
 | 0,i,j=>i=j
 | m+1,i,j=>∃ k,iter Rl m i k∧Rl k j
mutual
def E (xs:List Int):T->Nat->Nat->Prop
 | .mk op p lo hi l=>fun i j =>
   (op=1∧i<xs.length∧p (xs.getD i 0).toNat=true∧j=i+1)∨(op=2∧ECat xs l i j)∨(op=3∧EAny xs l i j)∨
   (op=4∧∃ m:Nat,lo<=m∧(m:Int)<=hi∧iter (EAny xs l) m i j)
def ECat (xs:List Int):List T->Nat->Nat->Prop
 | []=>fun i j=>i=j
 | t::ts=>fun i j=>∃ k,E xs t i k∧ECat xs ts k j
def EAny (xs:List Int):List T->Nat->Nat->Prop
 | []=>fun _ _=>False
 | t::ts=>fun i j=>E xs t i j∨EAny xs ts i j
end
section
variable {xs:List Int}
theorem zm6 {p:Nat->Bool} {lo hi:Int} {l:List T} {i j:Nat}:E xs (.mk 1 p lo hi l) i j↔i<xs.length∧p (xs.getD i 0).toNat=true∧j=i+1:=by
 simp[E]
theorem zks {p:Nat->Bool} {lo hi:Int} {l:List T} {i j:Nat}:E xs (.mk 2 p lo hi l) i j↔ECat xs l i j:=by
 simp[E]
theorem zkt {p:Nat->Bool} {lo hi:Int} {l:List T} {i j:Nat}:E xs (.mk 3 p lo hi l) i j↔EAny xs l i j:=by
 simp[E]
theorem ziw {p:Nat->Bool} {lo hi:Int} {l:List T} {i j:Nat}:E xs (.mk 4 p lo hi l) i j↔∃ m:Nat,lo<=m∧(m:Int)<=hi∧iter (EAny xs l) m i j:=by
 simp[E]
theorem zbr {l:List T} {i j:Nat}:EAny xs l i j↔∃ t∈l,E xs t i j:=by
 induction l with
 | nil=>simp[EAny]
 | cons t ts ih=>simp[EAny,ih]
theorem zbq {t:T}:EAny xs [t]=E xs t:=by
 funext i j
 simp[EAny]
theorem zhh {l l':List T} {i j:Nat}:ECat xs (l++l') i j↔∃ k,ECat xs l i k∧ECat xs l' k j:=by
 induction l generalizing i with
 | nil=>simp[ECat]
 | cons t ts ih =>
   simp only[List.cons_append,ECat,ih];constructor
   . rintro⟨a,h1,b,h2,h3⟩;exact⟨b,⟨a,h1,h2⟩,h3⟩
   . rintro⟨b,⟨a,h1,h2⟩,h3⟩;exact⟨a,h1,b,h2,h3⟩
theorem zeg {Rl:Nat->Nat->Prop} {n:Nat} (h:∀ i j,i<=n->Rl i j->i<=j∧j<=n):∀ (m i j:Nat),i<=n->iter Rl m i j->i<=j∧j<=n
 | 0,i,j,hi,e=>by have e':i=j:=e;omega
 | m+1,i,j,hi,⟨k,h1,h2⟩=>by
   have a:=zeg h m i k hi h1;have b:=h k j a.2 h2;omega
theorem E_bd {t:T} (ht:WF t):∀ i j,i<=xs.length->E xs t i j->i<=j∧j<=xs.length:=by
 induction ht with
 | one p=>intro i j hi h;rw[zm6] at h;omega
 | cat l h2 hN h ih =>
   intro i j hi hE;rw[zks] at hE;clear h2 hN h;induction l generalizing i with
   | nil=>have e:i=j:=hE;omega
   | cons t ts ih' =>
     obtain⟨k,h1,h3⟩:=hE;have a:=ih t (by simp) i k hi h1;have b:=ih' (fun x hx=>ih x (by simp[hx])) k a.2 h3;omega
 | alt l h2 hN h ih =>
   intro i j hi hE;rw[zkt,zbr] at hE;obtain⟨t,ht,hE⟩:=hE;exact ih t ht i j hi hE
 | rep m n t h0 h1 h2 h3 h ih =>
   intro i j hi hE;rw[ziw] at hE;obtain⟨k,_,_,hE⟩:=hE;rw[zbq] at hE;exact zeg ih k i j hi hE
def img (Rl:Nat->Nat->Prop) (S:Nat->Prop):Nat->Prop:=fun j=>∃ i,S i∧Rl i j
def imgN (Rl:Nat->Nat->Prop) (S:Nat->Prop):Nat->Nat->Prop
 | 0=>S
 | m+1=>img Rl (imgN Rl S m)
def upTo (Rl:Nat->Nat->Prop) (S:Nat->Prop) (m:Nat):Nat->Prop:=fun j=>∃ k,k<=m∧imgN Rl S k j
theorem zc9 {Rl:Nat->Nat->Prop} {S:Nat->Prop}:∀ (m j:Nat),imgN Rl S m j↔∃ i,S i∧iter Rl m i j
 | 0,j=>by
   constructor
   . intro h;exact⟨j,h,rfl⟩
   . rintro⟨i,h,e⟩;have e':i=j:=e;exact e' ▸ h
 | m+1,j=>by
   constructor
   . rintro⟨k,h1,h2⟩;obtain⟨i,h3,h4⟩:=(zc9 m k).1 h1;exact⟨i,h3,k,h4,h2⟩
   . rintro⟨i,h3,k,h4,h2⟩;exact⟨k,(zc9 m k).2 ⟨i,h3,h4⟩,h2⟩
theorem zca {Rl:Nat->Nat->Prop} {S:Nat->Prop} (a:Nat):∀ (b j:Nat),imgN Rl (imgN Rl S a) b j↔imgN Rl S (a+b) j
 | 0,j=>Iff.rfl
 | b+1,j=>by
   constructor
   . rintro⟨k,h1,h2⟩;exact⟨k,(zca a b k).1 h1,h2⟩
   . rintro⟨k,h1,h2⟩;exact⟨k,(zca a b k).2 h1,h2⟩
theorem zeh {Rl:Nat->Nat->Prop} {S:Nat->Prop} (h:∀ j,img Rl S j↔S j):∀ (m j:Nat),imgN Rl S m j↔S j
 | 0,j=>Iff.rfl
 | m+1,j=>by
   constructor
   . rintro⟨k,h1,h2⟩;exact (h j).1 ⟨k,(zeh h m k).1 h1,h2⟩
   . intro hj;obtain⟨k,h1,h2⟩:=(h j).2 hj;exact⟨k,(zeh h m k).2 h1,h2⟩
theorem zev {Rl:Nat->Nat->Prop} {S:Nat->Prop} (m j:Nat):upTo Rl S (m+1) j↔upTo Rl S m j∨img Rl (upTo Rl S m) j:=by
 constructor
 . rintro⟨k,hk,h⟩;cases k with
   | zero=>exact .inl ⟨0,Nat.zero_le _,h⟩
   | succ k =>
     obtain⟨i,h1,h2⟩:=h;exact .inr ⟨i,⟨k,by omega,h1⟩,h2⟩
 . rintro (⟨k,hk,h⟩|⟨i,⟨k,hk,h1⟩,h2⟩)
   . exact⟨k,by omega,h⟩
   . exact⟨k+1,by omega,i,h1,h2⟩
theorem zjh {Rl:Nat->Nat->Prop} {S:Nat->Prop} (j:Nat):upTo Rl S 0 j↔S j:=by
 constructor
 . rintro⟨k,hk,h⟩;obtain rfl:k=0:=by omega
   exact h
 . intro h;exact⟨0,Nat.le_refl _,h⟩
theorem zcu {Rl:Nat->Nat->Prop} {S:Nat->Prop} {m:Nat} (h:∀ j,img Rl (upTo Rl S m) j->upTo Rl S m j):∀ (d j:Nat),upTo Rl S (m+d) j↔upTo Rl S m j
 | 0,j=>Iff.rfl
 | d+1,j=>by
   rw[←Nat.add_assoc,zev,zcu h d j];constructor
   . rintro (h1|⟨i,h1,h2⟩)
     . exact h1
     . exact h j ⟨i,(zcu h d i).1 h1,h2⟩
   . exact .inl
theorem zd1 {Rl:Nat->Nat->Prop} {S S':Nat->Prop} (h:∀ j,S j↔S' j) (j:Nat):img Rl S j↔img Rl S' j:=by
 constructor
 . rintro⟨i,h1,h2⟩;exact⟨i,(h i).1 h1,h2⟩
 . rintro⟨i,h1,h2⟩;exact⟨i,(h i).2 h1,h2⟩
theorem zcc {m n:Int} {t:T} {S:Nat->Prop} (h0:0<=m) (h1:m<=n) (j:Nat):
   img (E xs (.mk 4 noneP m n [t])) S j↔upTo (E xs t) (imgN (E xs t) S m.toNat) (n-m).toNat j:=by
 constructor
 . rintro⟨i,hi,hE⟩;rw[ziw] at hE;obtain⟨k,h2,h3,hE⟩:=hE;rw[zbq] at hE;refine⟨k-m.toNat,by omega,?_⟩;rw[zca,show m.toNat+(k-m.toNat)=k by omega,zc9];exact⟨i,hi,hE⟩
 . rintro⟨k,hk,h⟩;rw[zca,zc9] at h;obtain⟨i,hi,hE⟩:=h;refine⟨i,hi,?_⟩;rw[ziw];exact⟨m.toNat+k,by omega,by omega,by rw[zbq];exact hE⟩
end
structure Found (Rl:Nat->Nat->Prop) (S:Nat->Prop) (r:Nat) (found fresh:Nat->Prop):Prop where
 all:∀ j,found j↔upTo Rl S r j
 sub:∀ j,fresh j->found j
 old:∀ i j,found i->¬ fresh i->Rl i j->found j
theorem Found.start (Rl:Nat->Nat->Prop) (S:Nat->Prop):Found Rl S 0 S S:=
 ⟨fun j=>(zjh j).symm,fun _ h=>h,fun i j h1 h2 _=>absurd h1 h2⟩
open Classical in
theorem Found.step {Rl:Nat->Nat->Prop} {S found fresh found' fresh':Nat->Prop} {r:Nat} (h:Found Rl S r found fresh) (hf:∀ j,fresh' j↔img Rl fresh j∧¬ found j) (hg:∀ j,found' j↔found j∨fresh' j):Found Rl S (r+1) found' fresh':=by
 have key:∀ j,img Rl found j->found j∨img Rl fresh j:=by
   rintro j ⟨i,h1,h2⟩
   by_cases hi:fresh i
   . exact .inr ⟨i,hi,h2⟩
   . exact .inl (h.old i j h1 hi h2)
 refine⟨fun j=>?_,fun j hj=>(hg j).2 (.inr hj),fun i j h1 h2 h3=>?_⟩
 . rw[hg,hf,zev,←h.all j,zd1 (fun j=>(h.all j).symm)];constructor
   . rintro (h1|⟨⟨i,h1,h2⟩,_⟩)
     . exact .inl h1
     . exact .inr ⟨i,h.sub i h1,h2⟩
   . rintro (h1|h1)
     . exact .inl h1
     . by_cases hj:found j
       . exact .inl hj
       . exact .inr ⟨(key j h1).resolve_left hj,hj⟩
 . have hi:found i:=((hg i).1 h1).resolve_right h2;rw[hg,hf]
   by_cases hj:found j
   . exact .inl hj
   . exact .inr ⟨(key j ⟨i,hi,h3⟩).resolve_left hj,hj⟩
theorem Found.stop {Rl:Nat->Nat->Prop} {S found fresh:Nat->Prop} {r:Nat} (h:Found Rl S r found fresh) (hf:∀ j,img Rl fresh j->found j) (d j:Nat):found j↔upTo Rl S (r+d) j:=by
 rw[h.all,zcu];rintro k ⟨i,h1,h2⟩;have hi:=(h.all i).2 h1
 by_cases hi':fresh i
 . exact (h.all k).1 (hf k ⟨i,hi',h2⟩)
 . exact (h.all k).1 (h.old i k hi hi' h2)
end
end Go.Proofs.YtgbdanddbgomhaaGreatDoor
