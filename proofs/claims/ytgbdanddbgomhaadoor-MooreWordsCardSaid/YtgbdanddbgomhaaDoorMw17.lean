import Derived.Test.YtgbdanddbgomhaaDoorMw16
set_option linter.unusedVariables false
set_option linter.unusedSimpArgs false
namespace Go.Proofs.YtgbdanddbgomhaaDoor
open Go
section
inductive WF:T->Prop where
 | one (p:Nat->Bool):WF (.mk 1 p 0 0 [])
 | cat (l:List T) (h2:2<=l.length) (hN:l.length<=202) (h:∀ x∈l,WF x):WF (.mk 2 noneP 0 0 l)
 | alt (l:List T) (h2:2<=l.length) (hN:l.length<=202) (h:∀ x∈l,WF x):WF (.mk 3 noneP 0 0 l)
 | rep (m n:Int) (t:T) (h0:0<=m) (h1:m<=n) (h2:1<=n) (h3:n<=32) (h:WF t):WF (.mk 4 noneP m n [t])
theorem zus {N:Nat} (hN:N<=202):Made N WF:=⟨.one,.rep,fun l h1 h2 => .cat l h1 (by omega),fun l h1 h2 => .alt l h1 (by omega)⟩
theorem zhj {s:ByteArray} {t:T} (h:parse s = .ok t):WF t:=(zus (by have:=znk h;omega)).parse h
def iter (Rl:Nat->Nat->Prop):Nat->Nat->Nat->Prop
 | 0,i,j=>i=j
 | m+1,i,j=>∃ k,iter Rl m i k∧Rl k j
mutual
def E (xs:List Int):T->Nat->Nat->Prop
 | .mk op p lo hi l=>fun i j =>
   (op=1∧i<xs.length∧p (xs.getD i 0).toNat=true∧j=i+1)∨(op=2∧ECat xs l i j)∨(op=3∧EAny xs l i j)∨
   (op=4∧∃ m:Nat,lo<=m∧(m:Int)<=hi∧iter (EAny xs l) m i j)
def ECat (xs:List Int):List T->Nat->Nat->Prop
 | []=>fun i j=>i=j
 | t::ts=>fun i j=>∃ k,E xs t i k∧ECat xs ts k j
def EAny (xs:List Int):List T->Nat->Nat->Prop
 | []=>fun _ _=>False
 | t::ts=>fun i j=>E xs t i j∨EAny xs ts i j
end
section
variable {xs:List Int}
theorem E_one {p:Nat->Bool} {lo hi:Int} {l:List T} {i j:Nat}:E xs (.mk 1 p lo hi l) i j↔i<xs.length∧p (xs.getD i 0).toNat=true∧j=i+1:=by
 simp[E]
theorem zom {p:Nat->Bool} {lo hi:Int} {l:List T} {i j:Nat}:E xs (.mk 2 p lo hi l) i j↔ECat xs l i j:=by
 simp[E]
theorem zon {p:Nat->Bool} {lo hi:Int} {l:List T} {i j:Nat}:E xs (.mk 3 p lo hi l) i j↔EAny xs l i j:=by
 simp[E]
theorem zl4 {p:Nat->Bool} {lo hi:Int} {l:List T} {i j:Nat}:E xs (.mk 4 p lo hi l) i j↔∃ m:Nat,lo<=m∧(m:Int)<=hi∧iter (EAny xs l) m i j:=by
 simp[E]
theorem zd8 {l:List T} {i j:Nat}:EAny xs l i j↔∃ t∈l,E xs t i j:=by
 induction l with
 | nil=>simp[EAny]
 | cons t ts ih=>simp[EAny,ih]
theorem zbi {t:T}:EAny xs [t]=E xs t:=by
 funext i j
 simp[EAny]
theorem zn3 {l l':List T} {i j:Nat}:ECat xs (l++l') i j↔∃ k,ECat xs l i k∧ECat xs l' k j:=by
 induction l generalizing i with
 | nil=>simp[ECat]
 | cons t ts ih =>
   simp only[List.cons_append,ECat,ih];constructor
   . rintro⟨a,h1,b,h2,h3⟩;exact⟨b,⟨a,h1,h2⟩,h3⟩
   . rintro⟨b,⟨a,h1,h2⟩,h3⟩;exact⟨a,h1,b,h2,h3⟩
theorem zi5 {Rl:Nat->Nat->Prop} {n:Nat} (h:∀ i j,i<=n->Rl i j->i<=j∧j<=n):∀ (m i j:Nat),i<=n->iter Rl m i j->i<=j∧j<=n
 | 0,i,j,hi,e=>by have e':i=j:=e;omega
 | m+1,i,j,hi,⟨k,h1,h2⟩=>by
   have a:=zi5 h m i k hi h1;have b:=h k j a.2 h2;omega
theorem E_bd {t:T} (ht:WF t):∀ i j,i<=xs.length->E xs t i j->i<=j∧j<=xs.length:=by
 induction ht with
 | one p=>intro i j hi h;rw[E_one] at h;omega
 | cat l h2 hN h ih =>
   intro i j hi hE;rw[zom] at hE;clear h2 hN h;induction l generalizing i with
   | nil=>have e:i=j:=hE;omega
   | cons t ts ih' =>
     obtain⟨k,h1,h3⟩:=hE;have a:=ih t (by simp) i k hi h1;have b:=ih' (fun x hx=>ih x (by simp[hx])) k a.2 h3;omega
 | alt l h2 hN h ih =>
   intro i j hi hE;rw[zon,zd8] at hE;obtain⟨t,ht,hE⟩:=hE;exact ih t ht i j hi hE
 | rep m n t h0 h1 h2 h3 h ih =>
   intro i j hi hE;rw[zl4] at hE;obtain⟨k,_,_,hE⟩:=hE;rw[zbi] at hE;exact zi5 ih k i j hi hE
def img (Rl:Nat->Nat->Prop) (S:Nat->Prop):Nat->Prop:=fun j=>∃ i,S i∧Rl i j
def imgN (Rl:Nat->Nat->Prop) (S:Nat->Prop):Nat->Nat->Prop
 | 0=>S
 | m+1=>img Rl (imgN Rl S m)
def upTo (Rl:Nat->Nat->Prop) (S:Nat->Prop) (m:Nat):Nat->Prop:=fun j=>∃ k,k<=m∧imgN Rl S k j
theorem zds {Rl:Nat->Nat->Prop} {S:Nat->Prop}:∀ (m j:Nat),imgN Rl S m j↔∃ i,S i∧iter Rl m i j
 | 0,j=>by
   constructor
   . intro h;exact⟨j,h,rfl⟩
   . rintro⟨i,h,e⟩;have e':i=j:=e;exact e' ▸ h
 | m+1,j=>by
   constructor
   . rintro⟨k,h1,h2⟩;obtain⟨i,h3,h4⟩:=(zds m k).1 h1;exact⟨i,h3,k,h4,h2⟩
   . rintro⟨i,h3,k,h4,h2⟩;exact⟨k,(zds m k).2 ⟨i,h3,h4⟩,h2⟩
theorem zdt {Rl:Nat->Nat->Prop} {S:Nat->Prop} (a:Nat):∀ (b j:Nat),imgN Rl (imgN Rl S a) b j↔imgN Rl S (a+b) j
 | 0,j=>Iff.rfl
 | b+1,j=>by
   constructor
   . rintro⟨k,h1,h2⟩;exact⟨k,(zdt a b k).1 h1,h2⟩
   . rintro⟨k,h1,h2⟩;exact⟨k,(zdt a b k).2 h1,h2⟩
theorem zi7 {Rl:Nat->Nat->Prop} {S:Nat->Prop} (h:∀ j,img Rl S j↔S j):∀ (m j:Nat),imgN Rl S m j↔S j
 | 0,j=>Iff.rfl
 | m+1,j=>by
   constructor
   . rintro⟨k,h1,h2⟩;exact (h j).1 ⟨k,(zi7 h m k).1 h1,h2⟩
   . intro hj;obtain⟨k,h1,h2⟩:=(h j).2 hj;exact⟨k,(zi7 h m k).2 h1,h2⟩
theorem zip {Rl:Nat->Nat->Prop} {S:Nat->Prop} (m j:Nat):upTo Rl S (m+1) j↔upTo Rl S m j∨img Rl (upTo Rl S m) j:=by
 constructor
 . rintro⟨k,hk,h⟩;cases k with
   | zero=>exact .inl ⟨0,Nat.zero_le _,h⟩
   | succ k =>
     obtain⟨i,h1,h2⟩:=h;exact .inr ⟨i,⟨k,by omega,h1⟩,h2⟩
 . rintro (⟨k,hk,h⟩|⟨i,⟨k,hk,h1⟩,h2⟩)
   . exact⟨k,by omega,h⟩
   . exact⟨k+1,by omega,i,h1,h2⟩
theorem zou {Rl:Nat->Nat->Prop} {S:Nat->Prop} (j:Nat):upTo Rl S 0 j↔S j:=by
 constructor
 . rintro⟨k,hk,h⟩;obtain rfl:k=0:=by omega
   exact h
 . intro h;exact⟨0,Nat.le_refl _,h⟩
theorem zf6 {Rl:Nat->Nat->Prop} {S:Nat->Prop} {m:Nat} (h:∀ j,img Rl (upTo Rl S m) j->upTo Rl S m j):∀ (d j:Nat),upTo Rl S (m+d) j↔upTo Rl S m j
 | 0,j=>Iff.rfl
 | d+1,j=>by
   rw[←Nat.add_assoc,zip,zf6 h d j];constructor
   . rintro (h1|⟨i,h1,h2⟩)
     . exact h1
     . exact h j ⟨i,(zf6 h d i).1 h1,h2⟩
   . exact .inl
theorem zfs {Rl:Nat->Nat->Prop} {S S':Nat->Prop} (h:∀ j,S j↔S' j) (j:Nat):img Rl S j↔img Rl S' j:=by
 constructor
 . rintro⟨i,h1,h2⟩;exact⟨i,(h i).1 h1,h2⟩
 . rintro⟨i,h1,h2⟩;exact⟨i,(h i).2 h1,h2⟩
theorem ze2 {m n:Int} {t:T} {S:Nat->Prop} (h0:0<=m) (h1:m<=n) (j:Nat):
   img (E xs (.mk 4 noneP m n [t])) S j↔upTo (E xs t) (imgN (E xs t) S m.toNat) (n-m).toNat j:=by
 constructor
 . rintro⟨i,hi,hE⟩;rw[zl4] at hE;obtain⟨k,h2,h3,hE⟩:=hE;rw[zbi] at hE;refine⟨k-m.toNat,by omega,?_⟩;rw[zdt,show m.toNat+(k-m.toNat)=k by omega,zds];exact⟨i,hi,hE⟩
 . rintro⟨k,hk,h⟩;rw[zdt,zds] at h;obtain⟨i,hi,hE⟩:=h;refine⟨i,hi,?_⟩;rw[zl4];exact⟨m.toNat+k,by omega,by omega,by rw[zbi];exact hE⟩
end
structure Found (Rl:Nat->Nat->Prop) (S:Nat->Prop) (r:Nat) (found fresh:Nat->Prop):Prop where
 all:∀ j,found j↔upTo Rl S r j
 sub:∀ j,fresh j->found j
 old:∀ i j,found i->¬ fresh i->Rl i j->found j
theorem Found.start (Rl:Nat->Nat->Prop) (S:Nat->Prop):Found Rl S 0 S S:=
 ⟨fun j=>(zou j).symm,fun _ h=>h,fun i j h1 h2 _=>absurd h1 h2⟩
open Classical in
theorem Found.step {Rl:Nat->Nat->Prop} {S found fresh found' fresh':Nat->Prop} {r:Nat} (h:Found Rl S r found fresh) (hf:∀ j,fresh' j↔img Rl fresh j∧¬ found j) (hg:∀ j,found' j↔found j∨fresh' j):Found Rl S (r+1) found' fresh':=by
 have key:∀ j,img Rl found j->found j∨img Rl fresh j:=by
   rintro j ⟨i,h1,h2⟩
   by_cases hi:fresh i
   . exact .inr ⟨i,hi,h2⟩
   . exact .inl (h.old i j h1 hi h2)
 refine⟨fun j=>?_,fun j hj=>(hg j).2 (.inr hj),fun i j h1 h2 h3=>?_⟩
 . rw[hg,hf,zip,←h.all j,zfs (fun j=>(h.all j).symm)];constructor
   . rintro (h1|⟨⟨i,h1,h2⟩,_⟩)
     . exact .inl h1
     . exact .inr ⟨i,h.sub i h1,h2⟩
   . rintro (h1|h1)
     . exact .inl h1
     . by_cases hj:found j
       . exact .inl hj
       . exact .inr ⟨(key j h1).resolve_left hj,hj⟩
 . have hi:found i:=((hg i).1 h1).resolve_right h2;rw[hg,hf]
   by_cases hj:found j
   . exact .inl hj
   . exact .inr ⟨(key j ⟨i,hi,h3⟩).resolve_left hj,hj⟩
theorem Found.stop {Rl:Nat->Nat->Prop} {S found fresh:Nat->Prop} {r:Nat} (h:Found Rl S r found fresh) (hf:∀ j,img Rl fresh j->found j) (d j:Nat):found j↔upTo Rl S (r+d) j:=by
 rw[h.all,zf6];rintro k ⟨i,h1,h2⟩;have hi:=(h.all i).2 h1
 by_cases hi':fresh i
 . exact (h.all k).1 (hf k ⟨i,hi',h2⟩)
 . exact (h.all k).1 (h.old i k hi hi' h2)
end
section
def Going {α:Type} (s:ByteArray) (o:R α) (step:α->Nat->Option (R α)) (st:St) (m:Nat) (a:α) (st2:St):Prop:=
 st2.opn=st.opn∧st2.pos<=s.size∧
 ((st2.bad=0∧st.bad=0∧o=loopR step m a st2.pos∧s.size+1-st2.pos<=m)∨
  (st2.bad≠0∧m=0∧(st.bad≠0->st2.bad=st.bad∧st2.spot=st.spot)∧(st.bad=0->o = .error (st2.bad,st2.spot))))
section
variable {α β:Type} {s:ByteArray} {o:R α} {step:α->Nat->Option (R α)} {st st2 st3:St} {m:Nat} {a a':α} {r:R α}
theorem Rel.opn {b:β} {r:R β} (h:Rel s r st b st2):st2.opn=st.opn:=h.1
theorem Rel.pos {b:β} {r:R β} (h:Rel s r st b st2):st2.pos<=s.size:=h.2.1
theorem Rel.bad {b:β} {r:R β} (h:Rel s r st b st2) (hb:st.bad≠0):st2.bad≠0:=by have:=h.2.2.1 hb;omega
theorem Rel.cases {b:β} {r:R β} (h:Rel s r st b st2) (hb:st.bad=0):(st2.bad=0∧r = .ok (b,st2.pos))∨(st2.bad≠0∧r = .error (st2.bad,st2.spot)):=by
 have h4:=h.2.2.2 hb
 match r,h4 with
 | .ok (x,p),h4=>obtain⟨rfl,rfl,hz⟩:=h4;exact .inl ⟨hz,rfl⟩
 | .error (c,q),h4=>obtain⟨hc,rfl,rfl⟩:=h4;exact .inr ⟨hc,rfl⟩
theorem Rel.mk0 {b:β} {r:R β} (h1:st2.opn=st.opn) (h2:st2.pos<=s.size) (h3:st.bad≠0->st2.bad=st.bad∧st2.spot=st.spot) (h4:st.bad=0->(st2.bad=0∧r = .ok (b,st2.pos))∨(st2.bad≠0∧r = .error (st2.bad,st2.spot))):Rel s r st b st2:=by
 refine⟨h1,h2,h3,fun hb=>?_⟩;rcases h4 hb with ⟨hz,rfl⟩|⟨hz,rfl⟩
 . exact⟨rfl,rfl,hz⟩
 . exact⟨hz,rfl,rfl⟩
theorem Rel.then {b:β} {r:R β} {f:β->Nat->R α} (h:Rel s r st b st2) (hz:st2.bad≠0->st3.bad=st2.bad∧st3.spot=st2.spot∧st3.opn=st2.opn∧st3.pos<=s.size) (hf:st.bad=0->st2.bad=0->Rel s (f b st2.pos) st2 a st3):Rel s (thenR r f) st a st3:=by
 by_cases hb:st.bad=0
 . rcases h.cases hb with ⟨h1,h2⟩|⟨h1,h2⟩
   . have:=hf hb h1;refine Rel.mk0 (this.opn.trans h.opn) this.pos (fun h=>absurd hb h) fun _=>?_
     rw[h2];exact this.cases h1
   . have:=hz h1;refine Rel.mk0 (this.2.2.1.trans h.opn) this.2.2.2 (fun h=>absurd hb h) fun _=>?_
     rw[h2];exact .inr ⟨by omega,by rw[this.1,this.2.1];rfl⟩
 . have h1:=h.bad hb;have:=hz h1;have h3:=h.2.2.1 hb;exact Rel.mk0 (this.2.2.1.trans h.opn) this.2.2.2 (fun _=>⟨by omega,by omega⟩) (fun h=>absurd h hb)
theorem Going.start {b:β} {r:R β} {f:β->α} (h:Rel s r st b st2):Going s (thenR r fun b p=>loopR step (s.size+1) (f b) p) step st (if st2.bad=0 then s.size+1 else 0) (f b) st2:=by
 refine⟨h.opn,h.pos,?_⟩
 by_cases hb:st.bad=0
 . rcases h.cases hb with ⟨h1,h2⟩|⟨h1,h2⟩
   . left;rw[if_pos h1,h2];exact⟨h1,hb,rfl,by omega⟩
   . right;rw[if_neg h1,h2];exact⟨h1,rfl,fun h=>absurd hb h,fun _=>rfl⟩
 . right;rw[if_neg (h.bad hb)];exact⟨h.bad hb,rfl,h.2.2.1,fun h=>absurd h hb⟩
theorem Going.on (h:Going s o step st m a st2) (hb:st2.bad=0) (hs:step a st2.pos=some r) (hr:Rel s r st2 a' st3) (hf:Fwd s st2.pos r):
   (if st3.bad=0 then m-1 else 0)<m∧Going s o step st (if st3.bad=0 then m-1 else 0) a' st3:=by
 obtain⟨h1,h2,⟨_,h4,h5,h6⟩|⟨h3,_⟩⟩:=h
 . have hm:0<m:=(by omega);obtain⟨k,rfl⟩:∃ k,m=k+1:=⟨m-1,by omega⟩;unfold loopR at h5;rw[hs] at h5;refine⟨by split <;> omega,hr.opn.trans h1,hr.pos,?_⟩;rcases hr.cases hb with ⟨h7,h8⟩|⟨h7,h8⟩
   . left;rw[if_pos h7];rw[h8] at h5 hf;have:=hf.1;exact⟨h7,h4,h5,by omega⟩
   . right;rw[if_neg h7];rw[h8] at h5;exact⟨h7,rfl,fun h=>absurd h4 h,fun _=>h5⟩
 . exact absurd hb h3
theorem Going.stop (h:Going s o step st m a st2) (hs:st2.bad=0->step a st2.pos=none):Rel s o st a st2:=by
 obtain⟨h1,h2,⟨h3,h4,h5,h6⟩|⟨h3,h4,h5,h6⟩⟩:=h
 . obtain⟨k,rfl⟩:∃ k,m=k+1:=⟨m-1,by omega⟩;unfold loopR at h5;rw[hs h3] at h5;exact Rel.mk0 h1 h2 (fun h=>absurd h4 h) fun _ => .inl ⟨h3,h5⟩
 . exact Rel.mk0 h1 h2 h5 fun h => .inr ⟨h3,h6 h⟩
theorem Rel.swap {b:β} {r r':R β} (h:Rel s r st b st2) (he:st.bad=0->r=r'):Rel s r' st b st2:=
 ⟨h.1,h.2.1,h.2.2.1,fun hb=>by rw[←he hb];exact h.2.2.2 hb⟩
theorem Rel.from {b:β} {r:R β} (h:Rel s r st3 b st2) (h1:st3.opn=st.opn) (h2:st3.bad=st.bad) (h3:st3.spot=st.spot):Rel s r st b st2:=
 ⟨h.1.trans h1,h.2.1,fun hb=>by have:=h.2.2.1 (by rw[h2];exact hb);rw[←h2,←h3];exact this,fun hb=>h.2.2.2 (by rw[h2];exact hb)⟩
theorem Going.opn (h:Going s o step st m a st2):st2.opn=st.opn:=h.1
theorem Going.pos (h:Going s o step st m a st2):st2.pos<=s.size:=h.2.1
end
end
section
open Go Go.RowKit
attribute [local go_sem ↓] Go.wp_at_zero Go.wp_at_succ
def addL (l:List Int) (n:Int):List Int:=if l.contains n then l else l++[n]
def RetAdd (w:World) (B:Nat) (v:Value) (l:List Int) (n:Int) (e:Ending) (w':World):Prop:=
 ∃ v',e = .returned v'∧Ints w' B v' (addL l n)∧w.grownBy w' v.ownBlock∧(v'.ownBlock=v.ownBlock∨∃ g,v'.ownBlock=some g∧w.heap.size<=g)
set_option maxRecDepth 20000 in
set_option maxHeartbeats 2000000 in
theorem zx6 (w:World) (B:Nat) (v:Value) (l:List Int) (n:Int) (h:Ints w B v l) (hB:B<=w.heap.size) (hl:l.length<=1000000):
   Calls Tryd.prog 68 #[v,.int .i64 n] w (RetAdd w B v l n):=by
 obtain⟨i0,hi,hz0,hz1,hz2⟩:=info_parts Tryd.infoInt;obtain⟨A,c,rfl⟩:=h.form;generalize hlen:l.length=L at *;have HLEN:=Zh hlen;have HH:=Zh h;clear h hlen;go_enter Tryd.func68,Tryd.ntmps68;go_wp2;go_loopg [5] L (fun m i wr=>∃ j:Nat,i = .int .i64 (j:Int)∧j<=L∧m=L-j∧(∀ k,k<j->∀ x,l[k]?=some x->x≠n)∧wr=w)
 case atStart=>exact⟨0,rfl,Nat.zero_le _,rfl,fun k hk=>by omega,rfl⟩
 case round =>
   obtain⟨j,rfl,hj,hmj,hne,rfl⟩:=hrel;have HMJ:=Zh hmj;have HNE:=Zh hne;clear hmj hne
   by_cases hlt:j<L
   . have hlt':j<l.length:=(by rw[HLEN.out];exact hlt);obtain⟨g,c',e1,_,_,hc⟩:=HH.out.at j hlt';injection e1 with e1 e2 e3
     subst e1 e3;clear e2;have hx:∃ x,l[j]'hlt'=x:=⟨_,rfl⟩;obtain⟨x,hx⟩:=hx;rw[hx] at hc;have HX:=Zh hx;clear hx;cases hxn:(x==n)
     . go_wp2;go_roundg (L-(j+1))
       case measure=>have:=HMJ.out;omega
       case rel =>
         refine⟨j+1,by go_num,by omega,rfl,fun k hk y hy=>?_,rfl⟩
         by_cases hkj:k=j
         . subst hkj;rw[List.getElem?_eq_getElem hlt',HX.out] at hy;injection hy with hy
           subst hy
           simpa using hxn
         . exact HNE.out k (by omega) y hy
     . go_wp2;go_ret;have hm:n∈l:=by
         have e:x=n:=(by simpa using hxn);rw[←e,←HX.out];exact List.getElem_mem hlt'
       have ea:addL l n=l:=(by unfold addL;rw[if_pos (by simpa using hm)]);exact⟨_,rfl,by rw[ea];exact HH.out,⟨rfl,rfl,rfl,Nat.le_refl _,fun _ _ _=>rfl⟩,.inl rfl⟩
   . have hn:n∉l:=by
       intro hm;obtain⟨k,hk,e⟩:=List.getElem_of_mem hm;exact HNE.out k (by rw[HLEN.out] at hk;omega) n (by rw[List.getElem?_eq_getElem hk,e]) rfl
     have ea:addL l n=l++[n]:=(by unfold addL;rw[if_neg (by simpa using hn)]);have HEA:=Zh ea;have hown:=HH.out;unfold Ints at hown;rw[HLEN.out] at hown;have HO:=Zh hown;clear hn ea hown;go_wp2_with (at_builtin;refine wpList_append_own_at _ rfl _ _ 38 rfl B 3 i0 (.int .i64 0) 1 8 Tryd.underlying38 hi hz0 hz1 hz2 rfl (by decide) _ _ _ rfl (za8 HO.out ((Below.refl _ _).alloc (Nat.le_refl _) _)) ⟨wr.heap.size,0,none⟩ 1 1 [.int .i64 n] rfl rfl (cell_one_new _ _ _) ?c2 ?c3 ?c4 ?c5 ?_)
     case c2=>intro u hu;simp at hu;subst hu;rfl
     case c3=>unfold maxLen;omega
     case c4=>omega
     case c5=>simp;omega
     . intro v' w2 hown' hgrow _ hat;go_wp2;go_ret;have ho:=hown';have hgB:wr.grownBy w2 (Value.ownBlock (.slice A L c)):=(World.grownBy_alloc wr _ _).trans hgrow;refine⟨v',rfl,?_,hgB,?_⟩
       . rw[HEA.out];unfold Ints;rw[List.length_append,HLEN.out,List.map_append];exact ho
       . rcases hat with hat|hat
         . exact .inl hat
         . exact .inr ⟨_,hat,by simp⟩
end
section
open Go Go.RowKit
attribute [local go_sem ↓] Go.wp_at_zero Go.wp_at_succ
theorem Tryd.infoWord:(Tryd.prog.info? 24).map (fun i=>(i.zero,i.size,i.bytes))=some (some (.int .u64 0),1,8):=by kernel_rfl
def wordsOf (q:Nat->Bool) (m:Nat):List Value:=(List.range m).map fun i=>Value.int .u64 (word q i)
theorem zbc (q:Nat->Bool) (m:Nat):(wordsOf q m).length=m:=by simp[wordsOf]
theorem zc2 (q:Nat->Bool) (m i:Nat) (h:i<m):(wordsOf q m)[i]?=some (.int .u64 (word q i)):=by simp[wordsOf,h]
def Pl (w:World) (B:Nat) (v:Value) (m:Nat) (q:Nat->Bool):Prop:=w.ownsRow B 24 1 v m (wordsOf q m)
section
variable {w w':World} {B:Nat} {v:Value} {m:Nat} {q:Nat->Bool}
theorem Pl.stays (h:Pl w B v m q) (hb:Below w.heap.size w w'):Pl w' B v m q:=za8 h hb
theorem Pl.lower {B':Nat} (h:Pl w B v m q) (hB:B'<=B):Pl w B' v m q:=zap h hB
theorem Pl.form (h:Pl w B v m q) (hm:0<m):∃ g c,v = .slice (some ⟨g,0,none⟩) m c∧B<=g∧g<w.heap.size:=by
 rcases h.2 with ⟨rfl,h0⟩|⟨g,cap,cur,rfl,hB,hg,_⟩
 . omega
 . exact⟨g,cap,rfl,hB,za0 hg⟩
theorem Pl.cell {g c:Nat} (h:Pl w B (.slice (some ⟨g,0,none⟩) m c) m q) (i:Nat) (hi:i<m):w.cell? ⟨g,i,none⟩=some (.int .u64 (word q i)):=by
 rw[World.ownsRow.cellAt h i (by omega),zc2 q m i hi]
theorem Pl.frozen {g c:Nat} (h:Pl w B (.slice (some ⟨g,0,none⟩) m c) m q) (i:Nat):w.frozen? ⟨g,i,none⟩=false:=World.ownsRow.frozenAt h i
theorem Pl.congr {q':Nat->Bool} (h:Pl w B v m q) (hq:∀ i,i<m->word q i=word q' i):Pl w B v m q':=by
 unfold Pl at *;have e:wordsOf q m=wordsOf q' m:=by
   unfold wordsOf;apply List.map_congr_left;intro i hi;rw[hq i (by simpa using hi)]
 rwa [←e]
theorem Pl.set {g c:Nat} {q':Nat->Bool} (h:Pl w B (.slice (some ⟨g,0,none⟩) m c) m q) (i:Nat) (hi:i<m) (hq:∀ j,j≠i->word q' j=word q j):
   Pl (w.setCell ⟨g,i,none⟩ (.int .u64 (word q' i))) B (.slice (some ⟨g,0,none⟩) m c) m q'∧w.grownBy (w.setCell ⟨g,i,none⟩ (.int .u64 (word q' i))) (some g):=by
 have k:=World.ownsRow.stored h i (.int .u64 (word q' i));refine⟨?_,k.2⟩;unfold Pl;have e:(wordsOf q m).set i (.int .u64 (word q' i))=wordsOf q' m:=by
   apply List.ext_getElem?;intro j;rw[List.getElem?_set]
   by_cases hj:j<m
   . rw[zc2 q' m j hj,zc2 q m j hj,zbc]
     by_cases hij:i=j
     . subst hij;simp[hi]
     . rw[if_neg hij,hq j (fun e=>hij e.symm)]
   . rw[List.getElem?_eq_none (by rw[zbc];omega),List.getElem?_eq_none (by rw[zbc];omega)]
     by_cases hij:i=j
     . omega
     . rw[if_neg hij]
 rw[←e];exact k.1
end
theorem zim (m:Nat):wordsOf noneP m=List.replicate m (.int .u64 0):=by
 apply List.ext_getElem?;intro j
 by_cases hj:j<m
 . rw[zc2 _ m j hj,za5];simp[hj]
 . rw[List.getElem?_eq_none (by rw[zbc];omega),List.getElem?_eq_none (by simpa using hj)]
def RetPl (w:World) (m:Nat) (q:Nat->Bool) (e:Ending) (w':World):Prop:=∃ v,e = .returned v∧Pl w' w.heap.size v m q∧Below w.heap.size w w'
theorem zco (w:World) (n:Nat) (hn:n<=1000000):Calls Tryd.prog 63 #[.int .i64 n] w (RetPl w (n / 64+1) noneP):=by
 obtain⟨i0,hi,hz0,hz1,hz2⟩:=info_parts Tryd.infoWord;obtain⟨w',hr,hown,hg⟩:=run_make_full (P:=Tryd.prog) w w.heap.size 84 24 i0 _ 1 Tryd.underlying84 hi hz0 hz1 .i64 .i64 (n / 64+1) (by rw[hz2];omega) (by unfold maxLen;omega) (Nat.le_refl _);rw[show (((n / 64+1:Nat)):Int)=(n:Int) / 64+1 by omega] at hr;rw[show (madeCells (Value.int IntKind.u64 0).cells ((n / 64+1)*1)).toList=wordsOf noneP (n / 64+1) by rw[zim,Nat.mul_one];exact toList_madeCells_one _ _] at hown;have HO:=Zh hown;have HG:=Zh hg;clear hown hg hi hz0 hz1 hz2;go_enter Tryd.func63,Tryd.ntmps63;go_wp2;go_ret;exact⟨_,rfl,HO.out,(Below.refl _ _).grown HG.out (Nat.le_refl _) (fun j e=>by cases e)⟩
theorem zv2 (w:World) (B m i:Nat) (v:Value) (q:Nat->Bool) (h:Pl w B v m q) (hi:i<64*m) (hm:m<=1000000):Calls Tryd.prog 35 #[v,.int .i64 i] w fun e w'=>e = .returned (.bool (q i))∧w=w':=by
 obtain⟨g,c,rfl,_,_⟩:=h.form (by omega);have hc:=h.cell (i / 64) (by omega);have H:=zvs q i;rw[←H];have e1:((i:Int) / 64).toNat=i / 64:=(by omega);have e2:((i:Int) % 64).toNat=i % 64:=(by omega);have e3:(i:Int) / 64<(m:Int):=(by omega);have e4:(0:Int)<=(i:Int) / 64:=(by omega);have w0:=zf3 q (i / 64);have w1:=zos q (i / 64);clear H h;go_enter Tryd.func35,Tryd.ntmps35;go_wp2;go_ret;exact⟨rfl,rfl⟩
theorem znx {a b:World} {row:Option Nat} (h:a.grownBy b row):a.grownBy b.drew row:=⟨h.os,h.tape,h.output,h.size,h.block⟩
theorem Pl.drew {w:World} {B m:Nat} {v:Value} {q:Nat->Bool} (h:Pl w B v m q):Pl w.drew B v m q:=h
def RetOwn (w:World) (B m:Nat) (v:Value) (q:Nat->Bool) (e:Ending) (w':World):Prop:=e = .returned (.tuple #[])∧Pl w' B v m q∧w.grownBy w' v.ownBlock
theorem zpn (w:World) (B m i:Nat) (v:Value) (q:Nat->Bool) (h:Pl w B v m q) (hi:i<64*m) (hm:m<=1000000):Calls Tryd.prog 66 #[v,.int .i64 i] w (RetOwn w B m v (add1 q i)):=by
 obtain⟨g,c,rfl,_,_⟩:=h.form (by omega);have hc:=h.cell (i / 64) (by omega);have hf:=h.frozen (i / 64);have HA:=Zh (zw6 q i);have HS:=Zh (h.set (q':=add1 q i) (i / 64) (by omega) (fun j hj=>zhh q i j hj));have e1:((i:Int) / 64).toNat=i / 64:=(by omega);have e2:((i:Int) % 64).toNat=i % 64:=(by omega);have e3:(i:Int) / 64<(m:Int):=(by omega);have e4:(0:Int)<=(i:Int) / 64:=(by omega);have w0:=zf3 q (i / 64);have w1:=zos q (i / 64);clear h;go_enter Tryd.func66,Tryd.ntmps66;go_region
 all_goals
   go_wp2;go_end0;rw[HA.out];exact⟨rfl,HS.out.1.drew,znx HS.out.2⟩
set_option maxHeartbeats 1000000 in
theorem zq4 (w:World) (i n:Nat) (hn:n<=1000000) (hi:i<=n):Calls Tryd.prog 34 #[.int .i64 i,.int .i64 n] w (RetPl w (n / 64+1) (fun x=>x==i)):=by
 have HN:=Zh (zco w n hn);unfold RetPl at HN;have HA:=Zh (fun W v (h:Pl W w.heap.size v (n / 64+1) noneP)=>zpn W w.heap.size (n / 64+1) i v noneP h (by omega) (by omega));unfold RetOwn at HA;go_enter Tryd.func34,Tryd.ntmps34;go_wp2_with (first
   | (go_at_call 63;(with_reducible refine HN.out.mono ?_);rintro e w1 ⟨v,rfl,hv,hb⟩)
   | (go_at_call 66;(with_reducible refine (HA.out _ _ hv).mono ?_);rintro e w2 ⟨rfl,hv2,hg2⟩))
 go_ret;refine⟨v,rfl,hv2.congr fun i' _=>?_,hb.grown hg2 hb.size (fun j e=>(World.ownsRow.lt hv j e).1)⟩;have e:wordN (add1 noneP i) i'=wordN (fun x=>x==i) i':=zbp _ _ i' fun j _=>by simp[add1,noneP]
 unfold word;rw[e]
theorem zoq {q:Nat->Bool} {i:Nat} (h:word q i=0) (j:Nat) (hj:j<64):q (64*i+j)=false:=by
 have h0:wordN q i=0:=(by unfold word at h;omega);have t:=zad q i j;rw[h0] at t
 simpa [hj] using t.symm
theorem zin {q:Nat->Bool} {i:Nat} (h:word q i≠0):∃ j,j<64∧q (64*i+j)=true:=by
 by_cases hx:∃ j,j<64∧q (64*i+j)=true
 . exact hx
 . exfalso;apply h;have:wordN q i=0:=by
     apply Nat.eq_of_testBit_eq;intro j;rw[zad]
     by_cases hj:j<64
     . have:¬ q (64*i+j)=true:=fun e=>hx ⟨j,hj,e⟩
       simp[this]
     . simp[hj]
   simp[word,this]
theorem zqa (w:World) (B m:Nat) (v:Value) (q:Nat->Bool) (h:Pl w B v m q) (hm0:0<m) (hm:m<=1000000):
   Calls Tryd.prog 61 #[v] w fun e w'=>∃ b:Bool,e = .returned (.bool b)∧(b=true↔∀ x,x<64*m->q x=false)∧w=w':=by
 obtain⟨g,c,rfl,_,_⟩:=h.form hm0;have HH:=Zh h;clear h;go_enter Tryd.func61,Tryd.ntmps61;go_wp2;go_loopg [7] m (fun m' i wr=>∃ j:Nat,i = .int .i64 (j:Int)∧j<=m∧m'=m-j∧(∀ x,x<64*j->q x=false)∧wr=w)
 case atStart=>exact⟨0,rfl,Nat.zero_le _,rfl,fun x hx=>by omega,rfl⟩
 case round =>
   obtain⟨j,rfl,hj,hmj,hz,rfl⟩:=hrel;have HMJ:=Zh hmj;have HZ:=Zh hz;clear hmj hz
   by_cases hlt:j<m
   . have hc:=HH.out.cell j hlt;cases hb:(word q j != 0)
     . have hw0:word q j=0:=(by simpa using hb);have HW0:=Zh hw0;clear hw0;go_wp2;go_roundg (m-(j+1))
       case measure=>have:=HMJ.out;omega
       case rel =>
         refine⟨j+1,by go_num,by omega,rfl,fun x hx=>?_,rfl⟩
         by_cases hx2:x<64*j
         . exact HZ.out x hx2
         . have:=zoq HW0.out (x-64*j) (by omega)
           rwa [show 64*j+(x-64*j)=x by omega] at this
     . have hw0:word q j≠0:=(by simpa using hb);have HW0:=Zh (zin hw0);clear hw0;go_wp2;go_ret;refine⟨false,rfl,⟨fun h=>(by cases h),fun h=>?_⟩,rfl⟩;obtain⟨k,hk,hq⟩:=HW0.out;rw[h (64*j+k) (by omega)] at hq;cases hq
   . go_wp2;go_ret;exact⟨true,rfl,⟨fun _ x hx=>HZ.out x (by omega),fun _=>rfl⟩,rfl⟩
def mixP (q f:Nat->Bool) (j:Nat):Nat->Bool:=fun x=>if x<64*j then f x else q x
theorem zgq (q f:Nat->Bool) (j i:Nat) (h:i<j):word (mixP q f j) i=word f i:=by
 unfold word;rw[zbp _ f i fun b hb=>by unfold mixP;rw[if_pos (by omega)]]
theorem zgr (q f:Nat->Bool) (j i:Nat) (h:j<=i):word (mixP q f j) i=word q i:=by
 unfold word;rw[zbp _ q i fun b hb=>by unfold mixP;rw[if_neg (by omega)]]
theorem zlw (q f:Nat->Bool) (j i:Nat) (h:i≠j):word (mixP q f (j+1)) i=word (mixP q f j) i:=by
 by_cases hi:i<j
 . rw[zgq _ _ _ _ hi,zgq _ _ _ _ (by omega)]
 . rw[zgr _ _ _ _ (by omega),zgr _ _ _ _ (by omega)]
theorem zer (w:World) (B C m:Nat) (v v2:Value) (q r:Nat->Bool) (h:Pl w B v m q) (h2:Pl w C v2 m r) (hB:B<=w.heap.size) (hm0:0<m) (hm:m<=1000000):
   Calls Tryd.prog 64 #[v,v2] w (RetOwn w B m v (orP q r)):=by
 obtain⟨g,c,rfl,hg1,hg2⟩:=h.form hm0;obtain⟨g2,c2,rfl,_,hg4⟩:=h2.form hm0;have hcell:∀ i,i<m->w.cell? ⟨g2,i,none⟩=some (.int .u64 (word r i)):=fun i hi=>h2.cell i hi
 have HH:=Zh h;have HC:=Zh hcell;clear h h2 hcell;go_enter Tryd.func64,Tryd.ntmps64;go_wp2;go_loopg [8] m (fun m' i wr=>∃ j:Nat,i = .int .i64 (j:Int)∧j<=m∧m'=m-j∧Pl wr B (.slice (some ⟨g,0,none⟩) m c) m (mixP q (orP q r) j)∧(∀ k,j<=k->k<m->wr.cell? ⟨g2,k,none⟩=some (.int .u64 (word r k)))∧w.grownBy wr (some g))
 case atStart=>exact⟨0,rfl,Nat.zero_le _,rfl,HH.out.congr fun i hi=>(zgr _ _ _ _ (Nat.zero_le _)).symm,fun k _ hk=>HC.out k hk,⟨rfl,rfl,rfl,Nat.le_refl _,fun _ _ _=>rfl⟩⟩
 case round =>
   obtain⟨j,rfl,hj,hmj,hpl,hr,hgw⟩:=hrel;have HMJ:=Zh hmj;have HPL:=Zh hpl;have HR:=Zh hr;clear hmj hpl hr
   by_cases hlt:j<m
   . have hc:=HPL.out.cell j hlt;have hf:=HPL.out.frozen j;rw[zgr _ _ _ _ (Nat.le_refl _)] at hc;have hc2:=HR.out j (Nat.le_refl _) hlt;have HO:=Zh (zt5 q r j);have hst:=HPL.out.set (q':=mixP q (orP q r) (j+1)) j hlt (fun i hi=>zlw _ _ j i hi);rw[zgq _ _ _ _ (Nat.lt_succ_self j)] at hst;have HST:=Zh hst;clear hst;go_wp2;go_roundg (m-(j+1))
     case measure=>have:=HMJ.out;omega
     case rel =>
       rw[HO.out];refine⟨j+1,by go_num,by omega,rfl,HST.out.1,fun k hk hkm=>?_,World.grownBy.trans hgw HST.out.2⟩;have:=HR.out k (by omega) hkm;rw[World.cell?_setCell_other]
       . exact this
       . intro e;injection e with e1 e2
         omega
   . have hjm:j=m:=(by omega);go_wp2;go_end0;exact⟨rfl,HPL.out.congr fun i hi=>zgq _ _ _ _ (by omega),hgw⟩
end
end Go.Proofs.YtgbdanddbgomhaaDoor
