import Derived.Test.YtipfgpfplakhiaaTc10
set_option linter.unusedVariables false
set_option linter.unusedSimpArgs false
set_option maxRecDepth 20000
set_option maxHeartbeats 4000000
namespace Go.Proofs.Ytipfgpfplakhiaa
open Go
section
def Going {α:Type} (s:ByteArray) (o:R α) (step:α->Nat->Option (R α)) (st:St) (m:Nat) (a:α) (st2:St):Prop:=
 st2.opn=st.opn∧st2.pos<=s.size∧
 ((st2.bad=0∧st.bad=0∧o=zca step m a st2.pos∧s.size+1-st2.pos<=m)∨
  (st2.bad≠0∧m=0∧(st.bad≠0->st2.bad=st.bad∧st2.spot=st.spot)∧(st.bad=0->o = .error (st2.bad,st2.spot))))
section
variable {α β:Type} {s:ByteArray} {o:R α} {step:α->Nat->Option (R α)} {st st2 st3:St} {m:Nat} {a a':α} {r:R α}
theorem Rel.opn {b:β} {r:R β} (h:Rel s r st b st2):st2.opn=st.opn:=h.1
theorem Rel.pos {b:β} {r:R β} (h:Rel s r st b st2):st2.pos<=s.size:=h.2.1
theorem Rel.bad {b:β} {r:R β} (h:Rel s r st b st2) (hb:st.bad≠0):st2.bad≠0:=by have:=h.2.2.1 hb;omega
theorem Rel.cases {b:β} {r:R β} (h:Rel s r st b st2) (hb:st.bad=0):(st2.bad=0∧r = .ok (b,st2.pos))∨(st2.bad≠0∧r = .error (st2.bad,st2.spot)):=by
 have h4:=h.2.2.2 hb
 match r,h4 with
 | .ok (x,p),h4=>obtain⟨rfl,rfl,hz⟩:=h4;exact .inl ⟨hz,rfl⟩
 | .error (c,q),h4=>obtain⟨hc,rfl,rfl⟩:=h4;exact .inr ⟨hc,rfl⟩
theorem Rel.mk0 {b:β} {r:R β} (h1:st2.opn=st.opn) (h2:st2.pos<=s.size) (h3:st.bad≠0->st2.bad=st.bad∧st2.spot=st.spot) (h4:st.bad=0->(st2.bad=0∧r = .ok (b,st2.pos))∨(st2.bad≠0∧r = .error (st2.bad,st2.spot))):Rel s r st b st2:=by
 refine⟨h1,h2,h3,fun hb=>?_⟩;rcases h4 hb with ⟨hz,rfl⟩|⟨hz,rfl⟩
 .exact⟨rfl,rfl,hz⟩
 .exact⟨hz,rfl,rfl⟩
theorem Rel.then {b:β} {r:R β} {f:β->Nat->R α} (h:Rel s r st b st2) (hz:st2.bad≠0->st3.bad=st2.bad∧st3.spot=st2.spot∧st3.opn=st2.opn∧st3.pos<=s.size) (hf:st.bad=0->st2.bad=0->Rel s (f b st2.pos) st2 a st3):Rel s (zbd r f) st a st3:=by
 by_cases hb:st.bad=0
 .rcases h.cases hb with ⟨h1,h2⟩|⟨h1,h2⟩
  .have:=hf hb h1;refine Rel.mk0 (this.opn.trans h.opn) this.pos (fun h=>absurd hb h) fun _=>?_
   rw[h2];exact this.cases h1
  .have:=hz h1;refine Rel.mk0 (this.2.2.1.trans h.opn) this.2.2.2 (fun h=>absurd hb h) fun _=>?_
   rw[h2];exact .inr ⟨by omega,by rw[this.1,this.2.1];rfl⟩
 .have h1:=h.bad hb;have:=hz h1;have h3:=h.2.2.1 hb;exact Rel.mk0 (this.2.2.1.trans h.opn) this.2.2.2 (fun _=>⟨by omega,by omega⟩) (fun h=>absurd h hb)
theorem Going.start {b:β} {r:R β} {f:β->α} (h:Rel s r st b st2):Going s (zbd r fun b p=>zca step (s.size+1) (f b) p) step st (if st2.bad=0 then s.size+1 else 0) (f b) st2:=by
 refine⟨h.opn,h.pos,?_⟩
 by_cases hb:st.bad=0
 .rcases h.cases hb with ⟨h1,h2⟩|⟨h1,h2⟩
  .left;rw[if_pos h1,h2];exact⟨h1,hb,rfl,by omega⟩
  .right;rw[if_neg h1,h2];exact⟨h1,rfl,fun h=>absurd hb h,fun _=>rfl⟩
 .right;rw[if_neg (h.bad hb)];exact⟨h.bad hb,rfl,h.2.2.1,fun h=>absurd h hb⟩
theorem Going.on (h:Going s o step st m a st2) (hb:st2.bad=0) (hs:step a st2.pos=some r) (hr:Rel s r st2 a' st3) (hf:Fwd s st2.pos r):
 (if st3.bad=0 then m-1 else 0)<m∧Going s o step st (if st3.bad=0 then m-1 else 0) a' st3:=by
 obtain⟨h1,h2,⟨_,h4,h5,h6⟩|⟨h3,_⟩⟩:=h
 .have hm:0<m:=yjz;obtain⟨k,rfl⟩:∃ k,m=k+1:=⟨m-1,by omega⟩;unfold zca at h5;rw[hs] at h5;refine⟨by split <;> omega,hr.opn.trans h1,hr.pos,?_⟩;rcases hr.cases hb with ⟨h7,h8⟩|⟨h7,h8⟩
  .left;rw[if_pos h7];rw[h8] at h5 hf;have:=hf.1;exact⟨h7,h4,h5,by omega⟩
  .right;rw[if_neg h7];rw[h8] at h5;exact⟨h7,rfl,fun h=>absurd h4 h,fun _=>h5⟩
 .exact absurd hb h3
theorem Going.stop (h:Going s o step st m a st2) (hs:st2.bad=0->step a st2.pos=none):Rel s o st a st2:=by
 obtain⟨h1,h2,⟨h3,h4,h5,h6⟩|⟨h3,h4,h5,h6⟩⟩:=h
 .obtain⟨k,rfl⟩:∃ k,m=k+1:=⟨m-1,by omega⟩;unfold zca at h5;rw[hs h3] at h5;exact Rel.mk0 h1 h2 (fun h=>absurd h4 h) fun _ => .inl ⟨h3,h5⟩
 .exact Rel.mk0 h1 h2 h5 fun h => .inr ⟨h3,h6 h⟩
theorem Rel.swap {b:β} {r r':R β} (h:Rel s r st b st2) (he:st.bad=0->r=r'):Rel s r' st b st2:=
 ⟨h.1,h.2.1,h.2.2.1,fun hb=>by rw[←he hb];exact h.2.2.2 hb⟩
theorem Rel.from {b:β} {r:R β} (h:Rel s r st3 b st2) (h1:st3.opn=st.opn) (h2:st3.bad=st.bad) (h3:st3.spot=st.spot):Rel s r st b st2:=
 ⟨h.1.trans h1,h.2.1,fun hb=>by have:=h.2.2.1 (by rw[h2];exact hb);rw[←h2,←h3];exact this,fun hb=>h.2.2.2 (by rw[h2];exact hb)⟩
theorem Going.opn (h:Going s o step st m a st2):st2.opn=st.opn:=h.1
theorem Going.pos (h:Going s o step st m a st2):st2.pos<=s.size:=h.2.1
end
end
section
open Go Go.RowKit
attribute [local go_sem ↓] Go.wp_at_zero Go.wp_at_succ
def addL (l:List Int) (n:Int):List Int:=if l.contains n then l else l++[n]
def ycr (w:World) (B:Nat) (v:Value) (l:List Int) (n:Int) (e:Ending) (w':World):Prop:=
 ∃ v',e = .returned v'∧Ints w' B v' (addL l n)∧w.grownBy w' v.ownBlock∧(v'.ownBlock=v.ownBlock∨∃ g,v'.ownBlock=some g∧w.heap.size<=g)
theorem ygh (w:World) (B:Nat) (v:Value) (l:List Int) (n:Int) (h:Ints w B v l) (hB:B<=w.heap.size) (hl:l.length<=1000000):
 Calls Try.prog 63 #[v,.int .i64 n] w (ycr w B v l n):=by
 obtain⟨i0,hi,hz0,hz1,hz2⟩:=info_parts Try.infoInt;obtain⟨A,c,rfl⟩:=h.form;generalize hlen:l.length=L at *;have HLEN:=Zh hlen;have HH:=Zh h;clear h hlen;go_enter Try.func63,Try.ntmps63;go_wp2;go_loopg [5] L (fun m i wr=>∃ j:Nat,i = .int .i64 (j:Int)∧j<=L∧m=L-j∧(∀ k,k<j->∀ x,l[k]?=some x->x≠n)∧wr=w)
 case atStart=>exact⟨0,rfl,ygy _,rfl,fun k hk=>by omega,rfl⟩
 case round =>
  obtain⟨j,rfl,hj,hmj,hne,rfl⟩:=hrel;have HMJ:=Zh hmj;have HNE:=Zh hne;clear hmj hne
  by_cases hlt:j<L
  .have hlt':j<l.length:=(by rw[HLEN.o];exact hlt);obtain⟨g,c',e1,_,_,hc⟩:=HH.o.at j hlt';injection e1 with e1 e2 e3
   subst e1 e3;clear e2;have hx:∃ x,l[j]'hlt'=x:=⟨_,rfl⟩;obtain⟨x,hx⟩:=hx;rw[hx] at hc;have HX:=Zh hx;clear hx;cases hxn:(x==n)
   .go_wp2;go_roundg (L-(j+1))
    case measure=>have:=HMJ.o;omega
    case rel =>
     refine⟨j+1,by go_num,by omega,rfl,fun k hk y hy=>?_,rfl⟩
     by_cases hkj:k=j
     .subst hkj;rw[ygn hlt',HX.o] at hy;injection hy with hy
      subst hy
      simpa using hxn
     .exact HNE.o k yjz y hy
   .go_wp2;go_ret;have hm:n∈l:=by
     have e:x=n:=(by simpa using hxn);rw[←e,←HX.o];exact yhb hlt'
    have ea:addL l n=l:=(by unfold addL;rw[if_pos (by simpa using hm)]);exact⟨_,rfl,by rw[ea];exact HH.o,⟨rfl,rfl,rfl,ygo _,fun _ _ _=>rfl⟩,.inl rfl⟩
  .have hn:n∉l:=by
    intro hm;obtain⟨k,hk,e⟩:=List.getElem_of_mem hm;exact HNE.o k (by rw[HLEN.o] at hk;omega) n (by rw[ygn hk,e]) rfl
   have ea:addL l n=l++[n]:=(by unfold addL;rw[if_neg (by simpa using hn)]);have HEA:=Zh ea;have hown:=HH.o;unfold Ints at hown;rw[HLEN.o] at hown;have HO:=Zh hown;clear hn ea hown;go_wp2_with (at_builtin;refine wpList_append_own_at _ rfl _ _ 44 rfl B 3 i0 (.int .i64 0) 1 8 Try.underlying44 hi hz0 hz1 hz2 rfl yk6 _ _ _ rfl (za6 HO.o ((ygr _ _).alloc (ygo _) _)) ⟨wr.heap.size,0,none⟩ 1 1 [.int .i64 n] rfl rfl (cell_one_new _ _ _) ?c2 ?c3 ?c4 ?c5 ?_)
   case c2=>intro u hu;simp at hu;subst hu;rfl
   case c3=>unfold maxLen;omega
   case c4=>omega
   case c5=>simp;omega
   .intro v' w2 hown' hgrow _ hat;go_wp2;go_ret;have ho:=hown';have hgB:wr.grownBy w2 (Value.ownBlock (.slice A L c)):=(yjb wr _ _).trans hgrow;refine⟨v',rfl,?_,hgB,?_⟩
    .rw[HEA.o];unfold Ints;rw[ygu,HLEN.o,yhl];exact ho
    .rcases hat with hat|hat
     .exact .inl hat
     .exact .inr ⟨_,hat,by simp⟩
end
end Go.Proofs.Ytipfgpfplakhiaa
