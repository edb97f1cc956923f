import Derived.Test.YtipfgpfplakhiaaTc12
set_option linter.unusedVariables false
set_option linter.unusedSimpArgs false
namespace Go.Proofs.Ytipfgpfplakhiaa
open Go Go.RowKit
section
theorem zny:∀ (S:List (Nat->Bool)) (p:Nat) (q:Nat->Bool),p<S.length->
 ((((zb8 S).set (p*4) (.int .u64 (word q 0))).set (p*4+1) (.int .u64 (word q 1))).set (p*4+2) (.int .u64 (word q 2))).set (p*4+3) (.int .u64 (word q 3))=zb8 (S.set p q)
 | [],p,q,h=>by simp at h
 | x::S,0,q,h=>by simp[zb8]
 | x::S,p+1,q,h=>by
  have ih:=zny S p q ykc;have e:∀ k,(p+1)*4+k=p*4+k+1+1+1+1:=fun k=>by omega
  have e0:(p+1)*4=p*4+1+1+1+1:=yjz;have hc:zb8 (x::S) = .int .u64 (word x 0) :: .int .u64 (word x 1) :: .int .u64 (word x 2) :: .int .u64 (word x 3)::zb8 S:=(by simp[zb8]);have hc2:zb8 ((x::S).set (p+1) q) = .int .u64 (word x 0) :: .int .u64 (word x 1) :: .int .u64 (word x 2) :: .int .u64 (word x 3)::zb8 (S.set p q):=(by simp[zb8]);rw[hc,hc2,e0,show p*4+1+1+1+1+1=p*4+1+1+1+1+1 from rfl,←ih];simp only[List.set_cons_succ]
structure NfaD (w:World) (C ga gs gf k:Nat) (vl:Value) (e:Bool) (s:Lay) (Q:Nat->Prop):Prop where
 ge:∀ b,Q b->C<=b∧b<w.heap.size
 aQ:Q ga
 box:w.heap[ga]?=some (.cells #[.slice (some ⟨gs,0,none⟩) k k,.slice none 0 0,vl,.slice (some ⟨gf,0,none⟩) k k,.bool e] 76 (0,0))
 rows:RowsAt w C (.slice (some ⟨gs,0,none⟩) k k) (.slice (some ⟨gf,0,none⟩) k k) s Q
 ns:s.sets.length=k
 nf:s.follow.length=k
section
variable {w w' w2:World} {C ga gs gf k:Nat} {vl:Value} {e:Bool} {s:Lay} {Q Q':Nat->Prop}
theorem NfaD.block (h:NfaD w C ga gs gf k vl e s Q) (hs:w.heap.size<=w'.heap.size) (hb:∀ b,Q b->w'.heap[b]?=w.heap[b]?):NfaD w' C ga gs gf k vl e s Q:=
 ⟨fun b q=>by have:=h.ge b q;omega,h.aQ,(hb ga h.aQ).trans h.box,h.rows.block fun b q _=>hb b q,h.ns,h.nf⟩
theorem NfaD.stays (h:NfaD w C ga gs gf k vl e s Q) (hb:Below w.heap.size w w'):NfaD w' C ga gs gf k vl e s Q:=h.block hb.size fun b q=>hb.block b (h.ge b q).2
theorem NfaD.alloc (h:NfaD w C ga gs gf k vl e s Q) (o:Obj):NfaD (w.alloc o) C ga gs gf k vl e s Q:=h.stays ((ygr _ _).alloc (ygo _) _)
theorem NfaD.sQ (h:NfaD w C ga gs gf k vl e s Q):Q gs:=h.rows.setsQ gs rfl
theorem NfaD.fQ (h:NfaD w C ga gs gf k vl e s Q):Q gf:=h.rows.folsQ gf rfl
theorem NfaD.cell (h:NfaD w C ga gs gf k vl e s Q):w.cell? ⟨ga,0,none⟩=some (.slice (some ⟨gs,0,none⟩) k k)∧w.cell? ⟨ga,3,none⟩=some (.slice (some ⟨gf,0,none⟩) k k):=
 ⟨cell_of_row w ga 0 _ _ (0,0) h.box,cell_of_row w ga 3 _ _ (0,0) h.box⟩
theorem NfaD.kinds (h:NfaD w C ga gs gf k vl e s Q):(∃ cur,w.heap[gs]?=some (.cells cur 64 (0,0)))∧(∃ cur,w.heap[gf]?=some (.cells cur 44 (0,0))):=by
 obtain⟨fs,h1,h2⟩:=h.rows.fols;exact⟨za8 h.rows.sets rfl,za8 h1 rfl⟩
theorem NfaD.setS (h:NfaD w C ga gs gf k vl e s Q) (p:Nat) (hp:p<k) (q:Nat->Bool):
 NfaD ((((w.setCell ⟨gs,p*4,none⟩ (.int .u64 (word q 0))).setCell ⟨gs,p*4+1,none⟩ (.int .u64 (word q 1))).setCell ⟨gs,p*4+2,none⟩ (.int .u64 (word q 2))).setCell ⟨gs,p*4+3,none⟩ (.int .u64 (word q 3))) C ga gs gf k vl e ⟨s.sets.set p q,s.follow⟩ Q:=by
 obtain⟨⟨c1,k1⟩,⟨c2,k2⟩⟩:=h.kinds;have n1:ga≠gs:=za0 h.box k1 yk6;have n2:gf≠gs:=za0 k2 k1 yk6;obtain⟨fs,h1,h2⟩:=h.rows.fols;have hb:∀ b,b≠gs->((((w.setCell ⟨gs,p*4,none⟩ (.int .u64 (word q 0))).setCell ⟨gs,p*4+1,none⟩ (.int .u64 (word q 1))).setCell ⟨gs,p*4+2,none⟩ (.int .u64 (word q 2))).setCell ⟨gs,p*4+3,none⟩ (.int .u64 (word q 3))).heap[b]?=w.heap[b]?:=fun b hb=>by
  rw[ygz _ _ _ _ hb,ygz _ _ _ _ hb,ygz _ _ _ _ hb,ygz _ _ _ _ hb]
 have hl:∀ (i:Nat) (v:Value) b,fs[i]?=some v->v.ownBlock=some b->b≠gs:=fun i v b e1 e2=>by
  have hi:i<s.follow.length:=(by rw[←h2.len];exact (ygp.1 e1).1);obtain⟨cur,hc⟩:=(h2.get i v _ e1 (ygn hi)).kind e2;exact za0 hc k1 yk6
 have s0:=h.rows.sets;rw[h.ns] at s0;have s1:=(yhk s0 (p*4) (.int .u64 (word q 0))).1;have s2:=(yhk s1 (p*4+1) (.int .u64 (word q 1))).1;have s3:=(yhk s2 (p*4+2) (.int .u64 (word q 2))).1;have s4:=(yhk s3 (p*4+3) (.int .u64 (word q 3))).1;rw[zny _ _ _ (by rw[h.ns];exact hp)] at s4;refine⟨fun b hq=>by have:=h.ge b hq;simpa [World.setCell] using this,h.aQ,(hb ga n1).trans h.box,⟨?_,h.rows.setsQ,⟨fs,za7 h1 fun b e2 _=>?_,⟨h2.len,fun i v l e1 e2=>(h2.get i v l e1 e2).block fun b e3 _=>hb b (hl i v b e1 e3),h2.inQ,h2.apart⟩⟩,h.rows.folsQ⟩,by simpa using h.ns,h.nf⟩
 .rw[yjk,h.ns];exact s4
 .have e3:gf=b:=(by simpa [Value.ownBlock] using e2);rw[←e3];exact hb _ n2
theorem NfaD.open (h:NfaD w C ga gs gf k vl e s Q) (p:Nat) (hp:p<k):∃ vp,w.cell? ⟨gf,p,none⟩=some vp∧w.frozen? ⟨gf,p,none⟩=false∧Ints w C vp (Go.Proofs.Ytipfgpfplakhiaa.ns (s.follow.getD p []))∧(∀ b,vp.ownBlock=some b->Q b∧b≠gf∧b≠ga∧b≠gs)∧
 ∀ (ys:List Nat) (w2:World) (v':Value),Ints w2 C v' (Go.Proofs.Ytipfgpfplakhiaa.ns (s.follow.getD p []++ys))->w.grownBy w2 vp.ownBlock->(v'.ownBlock=vp.ownBlock∨v'.ownBlock=some w.heap.size)->
  NfaD (w2.setCell ⟨gf,p,none⟩ v') C ga gs gf k vl e ⟨s.sets,zcm s.follow p ys⟩ (fun b=>Q b∨v'.ownBlock=some b):=by
 obtain⟨⟨c1,k1⟩,⟨c2,k2⟩⟩:=h.kinds;have n1:ga≠gf:=za0 h.box k2 yk6;have n2:gs≠gf:=za0 k1 k2 yk6;have hp':p<s.follow.length:=(by rw[h.nf];exact hp);obtain⟨fs,h3,h4⟩:=h.rows.fols;rw[h.nf] at h3;have hpf:p<fs.length:=(by rw[h4.len];exact hp');obtain⟨vp,hvp⟩:∃ vp,fs[p]?=some vp:=⟨_,ygn hpf⟩;have hl:=h4.get p vp _ hvp (zj9 s.follow p [] hp');have hv1:∀ b,vp.ownBlock=some b->b≠gf∧b≠ga∧b≠gs:=fun b e=>by
  obtain⟨cur',hc⟩:=hl.kind e;exact⟨za0 hc k2 yk6,za0 hc h.box yk6,za0 hc k1 yk6⟩
 have hgfl:=za1 k2;refine⟨vp,?_,yhh h3 p,hl,fun b e=>⟨h4.inQ p vp b hvp e,hv1 b e⟩,fun ys w2 v' hv hg hor=>?_⟩
 .rw[ygt h3 p yjz,hvp]
 .have hput:=h4.put (fun b e=>(h.ge b e).2) p hp' vp v' hvp hg hv hor;have hgf2:w2.heap[gf]?=some (.cells c2 44 (0,0)):=(hg.block gf hgfl fun e=>(hv1 gf e.symm).1 rfl).trans k2;have hset:∀ b,b≠gf->(w2.setCell ⟨gf,p,none⟩ v').heap[b]?=w2.heap[b]?:=fun b hb=>ygz _ _ _ _ hb
  have h32:w2.ownsRow C 44 1 (.slice (some ⟨gf,0,none⟩) k k) k fs:=za7 h3 fun b e hb=>by
   injection e with e
   subst e;exact hg.block _ hb fun e'=>(hv1 _ e'.symm).1 rfl
  refine⟨fun b e=>?_,.inl h.aQ,(hset ga n1).trans ((hg.block ga (za1 h.box) fun e=>(hv1 ga e.symm).2.1 rfl).trans h.box),⟨za7 h.rows.sets fun b e hb=>?_,fun b e => .inl (h.rows.setsQ b e),⟨fs.set p v',?_,?_⟩,fun b e => .inl (h.rows.folsQ b e)⟩,h.ns,by show (zcm s.follow p ys).length=k;rw[zdw];exact h.nf⟩
  .rcases e with e|e
   .have:=h.ge b e;have hsz:=hg.size;exact⟨this.1,by simp only[World.setCell,yj8];omega⟩
   .have:=hv.in e;exact⟨this.1,by simp only[World.setCell,yj8];exact this.2⟩
  .injection e with e
   subst e;exact (hset _ n2).trans (hg.block _ hb fun e'=>(hv1 _ e'.symm).2.2 rfl)
  .have:=(yhk h32 p v').1;rw[show (zcm s.follow p ys).length=k from (zdw _ _ _).trans h.nf];exact this
  .refine⟨hput.len,fun i v l e1 e2=>(hput.get i v l e1 e2).block fun b e hb=>hset b ?_,hput.inQ,hput.apart⟩;obtain⟨cur',hc⟩:=(hput.get i v l e1 e2).kind e;exact za0 hc hgf2 yk6
end
end
section
section
variable {w:World} {B C ga gs gf k:Nat} {vl v':Value} {e:Bool} {s:Lay} {Q:Nat->Prop} {fs:List Value} {ls:List (List Nat)} {l':List Nat}
theorem FolAt.set (h:FolAt w B fs ls Q) (p:Nat) (hp:p<ls.length) (hv:Ints w B v' (ns l')) (hn:∀ b,v'.ownBlock=some b->¬ Q b):FolAt w B (fs.set p v') (ls.set p l') (fun b=>Q b∨v'.ownBlock=some b):=by
 have hpf:p<fs.length:=(by rw[h.len];exact hp);have hset:∀ i,(fs.set p v')[i]?=if i=p then some v' else fs[i]?:=fun i=>by
  rw[yim]
  by_cases e:p=i
  .subst e;simp[hpf]
  .have e':¬ i=p:=fun x=>e x.symm
   simp[e,e']
 have hls:∀ i,(ls.set p l')[i]?=if i=p then some l' else ls[i]?:=fun i=>by
  rw[yim]
  by_cases e:p=i
  .subst e;simp[hp]
  .have e':¬ i=p:=fun x=>e x.symm
   simp[e,e']
 refine⟨by simp[h.len],fun i v l h1 h2=>?_,fun i v b h1 h2=>?_,fun i j v v'' b h1 h2 h3 h4=>?_⟩
 .rw[hset] at h1;rw[hls] at h2
  by_cases e:i=p
  .rw[if_pos e] at h1 h2;injection h1 with h1
   injection h2 with h2
   subst h1 h2;exact hv
  .rw[if_neg e] at h1 h2;exact h.get i v l h1 h2
 .rw[hset] at h1
  by_cases e:i=p
  .rw[if_pos e] at h1;injection h1 with h1
   subst h1;exact .inr h2
  .rw[if_neg e] at h1;exact .inl (h.inQ i v b h1 h2)
 .rw[hset] at h1 h2
  by_cases e:i=p
  .by_cases e2:j=p
   .rw[e,e2]
   .rw[if_pos e] at h1;rw[if_neg e2] at h2;injection h1 with h1
    subst h1;exact absurd (h.inQ j v'' b h2 h4) (hn b h3)
  .rw[if_neg e] at h1
   by_cases e2:j=p
   .rw[if_pos e2] at h2;injection h2 with h2
    subst h2;exact absurd (h.inQ i v b h1 h3) (hn b h4)
   .rw[if_neg e2] at h2;exact h.apart i j v v'' b h1 h2 h3 h4
theorem NfaD.setF (h:NfaD w C ga gs gf k vl e s Q) (p:Nat) (hp:p<k) (hv:Ints w C v' (Go.Proofs.Ytipfgpfplakhiaa.ns l')) (hn:∀ b,v'.ownBlock=some b->¬ Q b):
 NfaD (w.setCell ⟨gf,p,none⟩ v') C ga gs gf k vl e ⟨s.sets,s.follow.set p l'⟩ (fun b=>Q b∨v'.ownBlock=some b):=by
 obtain⟨⟨c1,k1⟩,⟨c2,k2⟩⟩:=h.kinds;have n1:ga≠gf:=za0 h.box k2 yk6;have n2:gs≠gf:=za0 k1 k2 yk6;obtain⟨fs,h3,h4⟩:=h.rows.fols;have hput:=h4.set p (by rw[h.nf];exact hp) hv hn;have hset:∀ b,b≠gf->(w.setCell ⟨gf,p,none⟩ v').heap[b]?=w.heap[b]?:=fun b hb=>ygz _ _ _ _ hb
 rw[h.nf] at h3;refine⟨fun b e=>?_,.inl h.aQ,(hset ga n1).trans h.box,⟨za7 h.rows.sets fun b e hb=>?_,fun b e => .inl (h.rows.setsQ b e),⟨fs.set p v',?_,?_⟩,fun b e => .inl (h.rows.folsQ b e)⟩,h.ns,by simpa using h.nf⟩
 .rcases e with e|e
  .have:=h.ge b e;exact⟨this.1,by simp only[World.setCell,yj8];omega⟩
  .have:=hv.in e;exact⟨this.1,by simp only[World.setCell,yj8];exact this.2⟩
 .have e3:gs=b:=(by simpa [Value.ownBlock] using e);rw[←e3];exact hset _ n2
 .have:=(yhk h3 p v').1;rw[show (⟨s.sets,s.follow.set p l'⟩:Lay).follow.length=k from (yjk ..).trans h.nf];exact this
 .refine⟨hput.len,fun i v l e1 e2=>(hput.get i v l e1 e2).block fun b e hb=>hset b ?_,hput.inQ,hput.apart⟩;obtain⟨cur',hc⟩:=(hput.get i v l e1 e2).kind e;exact za0 hc k2 yk6
end
end
end Go.Proofs.Ytipfgpfplakhiaa
