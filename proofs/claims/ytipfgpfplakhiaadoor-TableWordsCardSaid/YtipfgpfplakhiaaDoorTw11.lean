import Derived.Test.YtipfgpfplakhiaaDoorTw10
set_option linter.unusedVariables false
set_option linter.unusedSimpArgs false
namespace Go.Proofs.YtipfgpfplakhiaaDoor
open Go
section
def Going {α:Type} (s:ByteArray) (o:R α) (step:α->Nat->Option (R α)) (st:St) (m:Nat) (a:α) (st2:St):Prop:=
 st2.opn=st.opn∧st2.pos<=s.size∧
 ((st2.bad=0∧st.bad=0∧o=zbz step m a st2.pos∧s.size+1-st2.pos<=m)∨
  (st2.bad≠0∧m=0∧(st.bad≠0->st2.bad=st.bad∧st2.spot=st.spot)∧(st.bad=0->o = .error (st2.bad,st2.spot))))
section
variable {α β:Type} {s:ByteArray} {o:R α} {step:α->Nat->Option (R α)} {st st2 st3:St} {m:Nat} {a a':α} {r:R α}
theorem Rel.opn {b:β} {r:R β} (h:Rel s r st b st2):st2.opn=st.opn:=h.1
theorem Rel.pos {b:β} {r:R β} (h:Rel s r st b st2):st2.pos<=s.size:=h.2.1
theorem Rel.bad {b:β} {r:R β} (h:Rel s r st b st2) (hb:st.bad≠0):st2.bad≠0:=by have:=h.2.2.1 hb;omega
theorem Rel.cases {b:β} {r:R β} (h:Rel s r st b st2) (hb:st.bad=0):(st2.bad=0∧r = .ok (b,st2.pos))∨(st2.bad≠0∧r = .error (st2.bad,st2.spot)):=by
 have h4:=h.2.2.2 hb
 match r,h4 with
 | .ok (x,p),h4=>obtain⟨rfl,rfl,hz⟩:=h4;exact .inl ⟨hz,rfl⟩
 | .error (c,q),h4=>obtain⟨hc,rfl,rfl⟩:=h4;exact .inr ⟨hc,rfl⟩
theorem Rel.mk0 {b:β} {r:R β} (h1:st2.opn=st.opn) (h2:st2.pos<=s.size) (h3:st.bad≠0->st2.bad=st.bad∧st2.spot=st.spot) (h4:st.bad=0->(st2.bad=0∧r = .ok (b,st2.pos))∨(st2.bad≠0∧r = .error (st2.bad,st2.spot))):Rel s r st b st2:=by
 refine⟨h1,h2,h3,fun hb=>?_⟩;rcases h4 hb with ⟨hz,rfl⟩|⟨hz,rfl⟩
 .exact⟨rfl,rfl,hz⟩
 .exact⟨hz,rfl,rfl⟩
theorem Rel.then {b:β} {r:R β} {f:β->Nat->R α} (h:Rel s r st b st2) (hz:st2.bad≠0->st3.bad=st2.bad∧st3.spot=st2.spot∧st3.opn=st2.opn∧st3.pos<=s.size) (hf:st.bad=0->st2.bad=0->Rel s (f b st2.pos) st2 a st3):Rel s (zb1 r f) st a st3:=by
 by_cases hb:st.bad=0
 .rcases h.cases hb with ⟨h1,h2⟩|⟨h1,h2⟩
  .have:=hf hb h1;refine Rel.mk0 (this.opn.trans h.opn) this.pos (fun h=>absurd hb h) fun _=>?_
   rw[h2];exact this.cases h1
  .have:=hz h1;refine Rel.mk0 (this.2.2.1.trans h.opn) this.2.2.2 (fun h=>absurd hb h) fun _=>?_
   rw[h2];exact .inr ⟨by omega,by rw[this.1,this.2.1];rfl⟩
 .have h1:=h.bad hb;have:=hz h1;have h3:=h.2.2.1 hb;exact Rel.mk0 (this.2.2.1.trans h.opn) this.2.2.2 (fun _=>⟨by omega,by omega⟩) (fun h=>absurd h hb)
theorem Going.start {b:β} {r:R β} {f:β->α} (h:Rel s r st b st2):Going s (zb1 r fun b p=>zbz step (s.size+1) (f b) p) step st (if st2.bad=0 then s.size+1 else 0) (f b) st2:=by
 refine⟨h.opn,h.pos,?_⟩
 by_cases hb:st.bad=0
 .rcases h.cases hb with ⟨h1,h2⟩|⟨h1,h2⟩
  .left;rw[if_pos h1,h2];exact⟨h1,hb,rfl,by omega⟩
  .right;rw[if_neg h1,h2];exact⟨h1,rfl,fun h=>absurd hb h,fun _=>rfl⟩
 .right;rw[if_neg (h.bad hb)];exact⟨h.bad hb,rfl,h.2.2.1,fun h=>absurd h hb⟩
theorem Going.on (h:Going s o step st m a st2) (hb:st2.bad=0) (hs:step a st2.pos=some r) (hr:Rel s r st2 a' st3) (hf:Fwd s st2.pos r):
 (if st3.bad=0 then m-1 else 0)<m∧Going s o step st (if st3.bad=0 then m-1 else 0) a' st3:=by
 obtain⟨h1,h2,⟨_,h4,h5,h6⟩|⟨h3,_⟩⟩:=h
 .have hm:0<m:=yie;obtain⟨k,rfl⟩:∃ k,m=k+1:=⟨m-1,by omega⟩;unfold zbz at h5;rw[hs] at h5;refine⟨by split <;> omega,hr.opn.trans h1,hr.pos,?_⟩;rcases hr.cases hb with ⟨h7,h8⟩|⟨h7,h8⟩
  .left;rw[if_pos h7];rw[h8] at h5 hf;have:=hf.1;exact⟨h7,h4,h5,by omega⟩
  .right;rw[if_neg h7];rw[h8] at h5;exact⟨h7,rfl,fun h=>absurd h4 h,fun _=>h5⟩
 .exact absurd hb h3
theorem Going.stop (h:Going s o step st m a st2) (hs:st2.bad=0->step a st2.pos=none):Rel s o st a st2:=by
 obtain⟨h1,h2,⟨h3,h4,h5,h6⟩|⟨h3,h4,h5,h6⟩⟩:=h
 .obtain⟨k,rfl⟩:∃ k,m=k+1:=⟨m-1,by omega⟩;unfold zbz at h5;rw[hs h3] at h5;exact Rel.mk0 h1 h2 (fun h=>absurd h4 h) fun _ => .inl ⟨h3,h5⟩
 .exact Rel.mk0 h1 h2 h5 fun h => .inr ⟨h3,h6 h⟩
theorem Rel.swap {b:β} {r r':R β} (h:Rel s r st b st2) (he:st.bad=0->r=r'):Rel s r' st b st2:=
 ⟨h.1,h.2.1,h.2.2.1,fun hb=>by rw[←he hb];exact h.2.2.2 hb⟩
theorem Rel.from {b:β} {r:R β} (h:Rel s r st3 b st2) (h1:st3.opn=st.opn) (h2:st3.bad=st.bad) (h3:st3.spot=st.spot):Rel s r st b st2:=
 ⟨h.1.trans h1,h.2.1,fun hb=>by have:=h.2.2.1 (by rw[h2];exact hb);rw[←h2,←h3];exact this,fun hb=>h.2.2.2 (by rw[h2];exact hb)⟩
theorem Going.opn (h:Going s o step st m a st2):st2.opn=st.opn:=h.1
theorem Going.pos (h:Going s o step st m a st2):st2.pos<=s.size:=h.2.1
end
end
section
open Go Go.RowKit
attribute [local go_sem ↓] Go.wp_at_zero Go.wp_at_succ
def addL (l:List Int) (n:Int):List Int:=if l.contains n then l else l++[n]
def yex (w:World) (B:Nat) (v:Value) (l:List Int) (n:Int) (e:Ending) (w':World):Prop:=
 ∃ v',e = .returned v'∧Ints w' B v' (addL l n)∧w.grownBy w' v.ownBlock∧(v'.ownBlock=v.ownBlock∨∃ g,v'.ownBlock=some g∧w.heap.size<=g)
end
end Go.Proofs.YtipfgpfplakhiaaDoor
