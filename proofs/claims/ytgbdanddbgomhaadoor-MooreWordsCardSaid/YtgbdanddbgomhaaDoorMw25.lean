import Derived.Test.YtgbdanddbgomhaaDoorMw23
import Derived.Test.YtgbdanddbgomhaaDoorMw22
set_option linter.unusedVariables false
set_option linter.unusedSimpArgs false
namespace Go.Proofs.YtgbdanddbgomhaaDoor
open Go Go.RowKit
section
theorem ziu:∀ (S:List (Nat->Bool)) (p:Nat) (q:Nat->Bool),p<S.length->
   ((((setsC S).set (p*4) (.int .u64 (word q 0))).set (p*4+1) (.int .u64 (word q 1))).set (p*4+2) (.int .u64 (word q 2))).set (p*4+3) (.int .u64 (word q 3))=setsC (S.set p q)
 | [],p,q,h=>by simp at h
 | x::S,0,q,h=>by simp[setsC]
 | x::S,p+1,q,h=>by
   have ih:=ziu S p q (by simpa using h);have e:∀ k,(p+1)*4+k=p*4+k+1+1+1+1:=fun k=>by omega
   have e0:(p+1)*4=p*4+1+1+1+1:=(by omega);have hc:setsC (x::S) = .int .u64 (word x 0) :: .int .u64 (word x 1) :: .int .u64 (word x 2) :: .int .u64 (word x 3)::setsC S:=(by simp[setsC]);have hc2:setsC ((x::S).set (p+1) q) = .int .u64 (word x 0) :: .int .u64 (word x 1) :: .int .u64 (word x 2) :: .int .u64 (word x 3)::setsC (S.set p q):=(by simp[setsC]);rw[hc,hc2,e0,show p*4+1+1+1+1+1=p*4+1+1+1+1+1 from rfl,←ih];simp only[List.set_cons_succ]
structure NfaD (w:World) (C ga gs gf k:Nat) (vl:Value) (e:Bool) (s:Lay) (Q:Nat->Prop):Prop where
 ge:∀ b,Q b->C<=b∧b<w.heap.size
 aQ:Q ga
 box:w.heap[ga]?=some (.cells #[.slice (some ⟨gs,0,none⟩) k k,.slice none 0 0,vl,.slice (some ⟨gf,0,none⟩) k k,.bool e] 103 (0,0))
 rows:RowsAt w C (.slice (some ⟨gs,0,none⟩) k k) (.slice (some ⟨gf,0,none⟩) k k) s Q
 ns:s.sets.length=k
 nf:s.follow.length=k
section
variable {w w' w2:World} {C ga gs gf k:Nat} {vl:Value} {e:Bool} {s:Lay} {Q Q':Nat->Prop}
theorem NfaD.block (h:NfaD w C ga gs gf k vl e s Q) (hs:w.heap.size<=w'.heap.size) (hb:∀ b,Q b->w'.heap[b]?=w.heap[b]?):NfaD w' C ga gs gf k vl e s Q:=
 ⟨fun b q=>by have:=h.ge b q;omega,h.aQ,(hb ga h.aQ).trans h.box,h.rows.block fun b q _=>hb b q,h.ns,h.nf⟩
theorem NfaD.stays (h:NfaD w C ga gs gf k vl e s Q) (hb:Below w.heap.size w w'):NfaD w' C ga gs gf k vl e s Q:=h.block hb.size fun b q=>hb.block b (h.ge b q).2
theorem NfaD.alloc (h:NfaD w C ga gs gf k vl e s Q) (o:Obj):NfaD (w.alloc o) C ga gs gf k vl e s Q:=h.stays ((Below.refl _ _).alloc (Nat.le_refl _) _)
theorem NfaD.sQ (h:NfaD w C ga gs gf k vl e s Q):Q gs:=h.rows.setsQ gs rfl
theorem NfaD.fQ (h:NfaD w C ga gs gf k vl e s Q):Q gf:=h.rows.folsQ gf rfl
theorem NfaD.cell (h:NfaD w C ga gs gf k vl e s Q):w.cell? ⟨ga,0,none⟩=some (.slice (some ⟨gs,0,none⟩) k k)∧w.cell? ⟨ga,3,none⟩=some (.slice (some ⟨gf,0,none⟩) k k):=
 ⟨cell_of_row w ga 0 _ _ (0,0) h.box,cell_of_row w ga 3 _ _ (0,0) h.box⟩
theorem NfaD.kinds (h:NfaD w C ga gs gf k vl e s Q):(∃ cur,w.heap[gs]?=some (.cells cur 26 (0,0)))∧(∃ cur,w.heap[gf]?=some (.cells cur 38 (0,0))):=by
 obtain⟨fs,h1,h2⟩:=h.rows.fols;exact⟨zaa h.rows.sets rfl,zaa h1 rfl⟩
theorem NfaD.setS (h:NfaD w C ga gs gf k vl e s Q) (p:Nat) (hp:p<k) (q:Nat->Bool):
   NfaD ((((w.setCell ⟨gs,p*4,none⟩ (.int .u64 (word q 0))).setCell ⟨gs,p*4+1,none⟩ (.int .u64 (word q 1))).setCell ⟨gs,p*4+2,none⟩ (.int .u64 (word q 2))).setCell ⟨gs,p*4+3,none⟩ (.int .u64 (word q 3))) C ga gs gf k vl e ⟨s.sets.set p q,s.follow⟩ Q:=by
 obtain⟨⟨c1,k1⟩,⟨c2,k2⟩⟩:=h.kinds;have n1:ga≠gs:=za1 h.box k1 (by decide);have n2:gf≠gs:=za1 k2 k1 (by decide);obtain⟨fs,h1,h2⟩:=h.rows.fols;have hb:∀ b,b≠gs->((((w.setCell ⟨gs,p*4,none⟩ (.int .u64 (word q 0))).setCell ⟨gs,p*4+1,none⟩ (.int .u64 (word q 1))).setCell ⟨gs,p*4+2,none⟩ (.int .u64 (word q 2))).setCell ⟨gs,p*4+3,none⟩ (.int .u64 (word q 3))).heap[b]?=w.heap[b]?:=fun b hb=>by
   rw[Below.heap_setCell _ _ _ _ hb,Below.heap_setCell _ _ _ _ hb,Below.heap_setCell _ _ _ _ hb,Below.heap_setCell _ _ _ _ hb]
 have hl:∀ (i:Nat) (v:Value) b,fs[i]?=some v->v.ownBlock=some b->b≠gs:=fun i v b e1 e2=>by
   have hi:i<s.follow.length:=(by rw[←h2.len];exact (List.getElem?_eq_some_iff.1 e1).1);obtain⟨cur,hc⟩:=(h2.get i v _ e1 (List.getElem?_eq_getElem hi)).kind e2;exact za1 hc k1 (by decide)
 have s0:=h.rows.sets;rw[h.ns] at s0;have s1:=(World.ownsRow.stored s0 (p*4) (.int .u64 (word q 0))).1;have s2:=(World.ownsRow.stored s1 (p*4+1) (.int .u64 (word q 1))).1;have s3:=(World.ownsRow.stored s2 (p*4+2) (.int .u64 (word q 2))).1;have s4:=(World.ownsRow.stored s3 (p*4+3) (.int .u64 (word q 3))).1;rw[ziu _ _ _ (by rw[h.ns];exact hp)] at s4;refine⟨fun b hq=>by have:=h.ge b hq;simpa [World.setCell] using this,h.aQ,(hb ga n1).trans h.box,⟨?_,h.rows.setsQ,⟨fs,za3 h1 fun b e2 _=>?_,⟨h2.len,fun i v l e1 e2=>(h2.get i v l e1 e2).block fun b e3 _=>hb b (hl i v b e1 e3),h2.inQ,h2.apart⟩⟩,h.rows.folsQ⟩,by simpa using h.ns,h.nf⟩
 . rw[List.length_set,h.ns];exact s4
 . have e3:gf=b:=(by simpa [Value.ownBlock] using e2);rw[←e3];exact hb _ n2
theorem NfaD.open (h:NfaD w C ga gs gf k vl e s Q) (p:Nat) (hp:p<k):∃ vp,w.cell? ⟨gf,p,none⟩=some vp∧w.frozen? ⟨gf,p,none⟩=false∧Ints w C vp (Go.Proofs.YtgbdanddbgomhaaDoor.ns (s.follow.getD p []))∧(∀ b,vp.ownBlock=some b->Q b∧b≠gf∧b≠ga∧b≠gs)∧
   ∀ (ys:List Nat) (w2:World) (v':Value),Ints w2 C v' (Go.Proofs.YtgbdanddbgomhaaDoor.ns (s.follow.getD p []++ys))->w.grownBy w2 vp.ownBlock->(v'.ownBlock=vp.ownBlock∨v'.ownBlock=some w.heap.size)->
     NfaD (w2.setCell ⟨gf,p,none⟩ v') C ga gs gf k vl e ⟨s.sets,linkAt s.follow p ys⟩ (fun b=>Q b∨v'.ownBlock=some b):=by
 obtain⟨⟨c1,k1⟩,⟨c2,k2⟩⟩:=h.kinds;have n1:ga≠gf:=za1 h.box k2 (by decide);have n2:gs≠gf:=za1 k1 k2 (by decide);have hp':p<s.follow.length:=(by rw[h.nf];exact hp);obtain⟨fs,h3,h4⟩:=h.rows.fols;rw[h.nf] at h3;have hpf:p<fs.length:=(by rw[h4.len];exact hp');obtain⟨vp,hvp⟩:∃ vp,fs[p]?=some vp:=⟨_,List.getElem?_eq_getElem hpf⟩;have hl:=h4.get p vp _ hvp (zi9 s.follow p [] hp');have hv1:∀ b,vp.ownBlock=some b->b≠gf∧b≠ga∧b≠gs:=fun b e=>by
   obtain⟨cur',hc⟩:=hl.kind e;exact⟨za1 hc k2 (by decide),za1 hc h.box (by decide),za1 hc k1 (by decide)⟩
 have hgfl:=za0 k2;refine⟨vp,?_,World.ownsRow.frozenAt h3 p,hl,fun b e=>⟨h4.inQ p vp b hvp e,hv1 b e⟩,fun ys w2 v' hv hg hor=>?_⟩
 . rw[World.ownsRow.cellAt h3 p (by omega),hvp]
 . have hput:=h4.put (fun b e=>(h.ge b e).2) p hp' vp v' hvp hg hv hor;have hgf2:w2.heap[gf]?=some (.cells c2 38 (0,0)):=(hg.block gf hgfl fun e=>(hv1 gf e.symm).1 rfl).trans k2;have hset:∀ b,b≠gf->(w2.setCell ⟨gf,p,none⟩ v').heap[b]?=w2.heap[b]?:=fun b hb=>Below.heap_setCell _ _ _ _ hb
   have h32:w2.ownsRow C 38 1 (.slice (some ⟨gf,0,none⟩) k k) k fs:=za3 h3 fun b e hb=>by
     injection e with e
     subst e;exact hg.block _ hb fun e'=>(hv1 _ e'.symm).1 rfl
   refine⟨fun b e=>?_,.inl h.aQ,(hset ga n1).trans ((hg.block ga (za0 h.box) fun e=>(hv1 ga e.symm).2.1 rfl).trans h.box),⟨za3 h.rows.sets fun b e hb=>?_,fun b e => .inl (h.rows.setsQ b e),⟨fs.set p v',?_,?_⟩,fun b e => .inl (h.rows.folsQ b e)⟩,h.ns,by show (linkAt s.follow p ys).length=k;rw[zc6];exact h.nf⟩
   . rcases e with e|e
     . have:=h.ge b e;have hsz:=hg.size;exact⟨this.1,by simp only[World.setCell,Array.size_modify];omega⟩
     . have:=hv.in e;exact⟨this.1,by simp only[World.setCell,Array.size_modify];exact this.2⟩
   . injection e with e
     subst e;exact (hset _ n2).trans (hg.block _ hb fun e'=>(hv1 _ e'.symm).2.2 rfl)
   . have:=(World.ownsRow.stored h32 p v').1;rw[show (linkAt s.follow p ys).length=k from (zc6 _ _ _).trans h.nf];exact this
   . refine⟨hput.len,fun i v l e1 e2=>(hput.get i v l e1 e2).block fun b e hb=>hset b ?_,hput.inQ,hput.apart⟩;obtain⟨cur',hc⟩:=(hput.get i v l e1 e2).kind e;exact za1 hc hgf2 (by decide)
end
end
section
section
variable {w:World} {B C ga gs gf k:Nat} {vl v':Value} {e:Bool} {s:Lay} {Q:Nat->Prop} {fs:List Value} {ls:List (List Nat)} {l':List Nat}
theorem FolAt.set (h:FolAt w B fs ls Q) (p:Nat) (hp:p<ls.length) (hv:Ints w B v' (ns l')) (hn:∀ b,v'.ownBlock=some b->¬ Q b):FolAt w B (fs.set p v') (ls.set p l') (fun b=>Q b∨v'.ownBlock=some b):=by
 have hpf:p<fs.length:=(by rw[h.len];exact hp);have hset:∀ i,(fs.set p v')[i]?=if i=p then some v' else fs[i]?:=fun i=>by
   rw[List.getElem?_set]
   by_cases e:p=i
   . subst e;simp[hpf]
   . have e':¬ i=p:=fun x=>e x.symm
     simp[e,e']
 have hls:∀ i,(ls.set p l')[i]?=if i=p then some l' else ls[i]?:=fun i=>by
   rw[List.getElem?_set]
   by_cases e:p=i
   . subst e;simp[hp]
   . have e':¬ i=p:=fun x=>e x.symm
     simp[e,e']
 refine⟨by simp[h.len],fun i v l h1 h2=>?_,fun i v b h1 h2=>?_,fun i j v v'' b h1 h2 h3 h4=>?_⟩
 . rw[hset] at h1;rw[hls] at h2
   by_cases e:i=p
   . rw[if_pos e] at h1 h2;injection h1 with h1
     injection h2 with h2
     subst h1 h2;exact hv
   . rw[if_neg e] at h1 h2;exact h.get i v l h1 h2
 . rw[hset] at h1
   by_cases e:i=p
   . rw[if_pos e] at h1;injection h1 with h1
     subst h1;exact .inr h2
   . rw[if_neg e] at h1;exact .inl (h.inQ i v b h1 h2)
 . rw[hset] at h1 h2
   by_cases e:i=p
   . by_cases e2:j=p
     . rw[e,e2]
     . rw[if_pos e] at h1;rw[if_neg e2] at h2;injection h1 with h1
       subst h1;exact absurd (h.inQ j v'' b h2 h4) (hn b h3)
   . rw[if_neg e] at h1
     by_cases e2:j=p
     . rw[if_pos e2] at h2;injection h2 with h2
       subst h2;exact absurd (h.inQ i v b h1 h3) (hn b h4)
     . rw[if_neg e2] at h2;exact h.apart i j v v'' b h1 h2 h3 h4
theorem NfaD.setF (h:NfaD w C ga gs gf k vl e s Q) (p:Nat) (hp:p<k) (hv:Ints w C v' (Go.Proofs.YtgbdanddbgomhaaDoor.ns l')) (hn:∀ b,v'.ownBlock=some b->¬ Q b):
   NfaD (w.setCell ⟨gf,p,none⟩ v') C ga gs gf k vl e ⟨s.sets,s.follow.set p l'⟩ (fun b=>Q b∨v'.ownBlock=some b):=by
 obtain⟨⟨c1,k1⟩,⟨c2,k2⟩⟩:=h.kinds;have n1:ga≠gf:=za1 h.box k2 (by decide);have n2:gs≠gf:=za1 k1 k2 (by decide);obtain⟨fs,h3,h4⟩:=h.rows.fols;have hput:=h4.set p (by rw[h.nf];exact hp) hv hn;have hset:∀ b,b≠gf->(w.setCell ⟨gf,p,none⟩ v').heap[b]?=w.heap[b]?:=fun b hb=>Below.heap_setCell _ _ _ _ hb
 rw[h.nf] at h3;refine⟨fun b e=>?_,.inl h.aQ,(hset ga n1).trans h.box,⟨za3 h.rows.sets fun b e hb=>?_,fun b e => .inl (h.rows.setsQ b e),⟨fs.set p v',?_,?_⟩,fun b e => .inl (h.rows.folsQ b e)⟩,h.ns,by simpa using h.nf⟩
 . rcases e with e|e
   . have:=h.ge b e;exact⟨this.1,by simp only[World.setCell,Array.size_modify];omega⟩
   . have:=hv.in e;exact⟨this.1,by simp only[World.setCell,Array.size_modify];exact this.2⟩
 . have e3:gs=b:=(by simpa [Value.ownBlock] using e);rw[←e3];exact hset _ n2
 . have:=(World.ownsRow.stored h3 p v').1;rw[show (⟨s.sets,s.follow.set p l'⟩:Lay).follow.length=k from (List.length_set ..).trans h.nf];exact this
 . refine⟨hput.len,fun i v l e1 e2=>(hput.get i v l e1 e2).block fun b e hb=>hset b ?_,hput.inQ,hput.apart⟩;obtain⟨cur',hc⟩:=(hput.get i v l e1 e2).kind e;exact za1 hc k2 (by decide)
end
end
section
def Ghost.list (Γ:Ghost) (gf:Nat) (t:T):Ghost:={Γ with G:=fun g=>if g=gf then some t else Γ.G g}
section
variable {w w':World} {B:Nat} {xs:List Int} {Γ:Ghost} {g o:Nat} {t:T}
theorem Inv.oldG {gf:Nat} (h:Inv w B xs Γ) (e:Γ.G gf=some t):gf<w.heap.size:=by
 obtain⟨cur,hc⟩:=(h.starts gf t e).2.block;exact za0 hc
theorem Inv.layFrom (h:Inv w B xs Γ) (e:Γ.F g o=some t) (gf:Nat) (hgf:w.heap.size<=gf) (hB:B<=w.heap.size)
   (hblk:∀ b,b<w.heap.size->b≠g->w'.heap[b]?=w.heap[b]?) (hg:∃ cur,w'.heap[g]?=some (.cells cur 82 (0,0)))
   (hc:∀ j,j≠o+3->w'.cell? ⟨g,j,none⟩=w.cell? ⟨g,j,none⟩) (hc1:w'.cell? ⟨g,o+3,none⟩=some (.slice (some ⟨gf,0,none⟩) (xs.length+1) (xs.length+1)))
   (hold:w.cell? ⟨g,o+3,none⟩=some (.slice none 0 0)) (hk:FromOk w' B xs Γ gf t) (hb:Below B w w'):
   Inv w' B xs (Γ.list gf t)∧Ext B w w' Γ (Γ.list gf t):=by
 have k:=(h.part g o t e).2;obtain⟨curg,hcg⟩:=k.block;have hG:∀ g' t',Γ.G g'=some t'->(Γ.list gf t).G g'=some t':=fun g' t' e'=>by
   have:=h.oldG e';unfold Ghost.list;simp only;rw[if_neg (by omega)];exact e'
 have hs:∀ b,Still w b->w'.heap[b]?=w.heap[b]?:=fun b hb'=>hblk b hb'.1 (fun e'=>hb'.2.1 curg (by rw[e'];exact hcg))
 have hcells:∀ g' o' t',Γ.F g' o'=some t'->¬ (g'=g∧o'=o)->∀ j,j<4->w'.cell? ⟨g',o'+j,none⟩=w.cell? ⟨g',o'+j,none⟩:=fun g' o' t' e' hne j hj=>by
   by_cases hgg:g'=g
   . subst hgg;refine hc _ ?_;have h1:=(h.part g' o' t' e').2.four;have h2:=k.four;intro e2;exact hne ⟨rfl,by omega⟩
   . exact World.cell?_of_block (w:=w) (a:=⟨g',o'+j,none⟩) (hblk g' (h.old e') hgg)
 refine⟨⟨fun g' o' t' e2=>?_,fun gf' t' e'=>?_⟩,⟨hb,fun _ _ _ h=>h,hG,fun _ h=>h,fun _ h => .inl h,hs,fun g' o' t' e' j hj v hv hn=>?_,fun b cur eb _=>hblk b (za0 eb) (zaz eb hcg (by decide)),fun g' t' e'=>by
   by_cases hgg:g'=gf
   . exact .inr (by omega)
   . exact .inl (by simpa [Ghost.list,hgg] using e')⟩⟩
 . refine⟨(h.part g' o' t' e2).1,?_⟩;have hp:=(h.part g' o' t' e2).2
   by_cases hne:g'=g∧o'=o
   . obtain⟨rfl,rfl⟩:=hne;have e3:t=t':=by
       have e4:Γ.F g' o'=some t':=e2;rw[e] at e4;injection e4
     subst e3;obtain⟨gn,on,kn,h1,h2,h3,cur2,h4⟩:=k.node;have en:=hs gn (zb2 h4 (by decide) (by decide));obtain⟨a,a1,a2⟩:=k.asked;refine⟨k.four,hg,k.wf,⟨gn,on,kn,(hc _ (by omega)).trans h1,h2.block en,zc3 h3 hs,cur2,en.trans h4⟩,?_,⟨a,(hc _ (by omega)).trans a1,a2⟩,.inr ⟨gf,hc1,by simp[Ghost.list]⟩⟩;rcases k.kids with k1|⟨gk,k1,k2⟩
     . exact .inl ((hc _ (by omega)).trans k1)
     . exact .inr ⟨gk,(hc _ (by omega)).trans k1,k2⟩
   . refine hp.kept hs (fun _ _ _ h=>h) hG ?_ (hcells g' o' t' e2 hne);obtain⟨cur,hcur⟩:=hp.block
     by_cases hgg:g'=g
     . rw[hgg];exact hg
     . exact⟨cur,(hblk g' (h.old e2) hgg).trans hcur⟩
 . by_cases hgg:gf'=gf
   . subst hgg;simp only[Ghost.list,if_true] at e';injection e' with e'
     subst e';exact⟨by omega,hk.kept (fun _ _=>rfl) (fun _ h=>h) hk.block fun _ _=>rfl⟩
   . have e2:Γ.G gf'=some t':=by
       unfold Ghost.list at e';simp only at e'
       rwa [if_neg hgg] at e'
     have hp:=h.starts gf' t' e2;obtain⟨cur,hcur⟩:=hp.2.block;have hne:=zaz hcur hcg (by decide);have heq:=hblk gf' (za0 hcur) hne;exact⟨hp.1,hp.2.kept hs (fun _ h=>h) ⟨cur,heq.trans hcur⟩ fun i _=>World.cell?_of_block (w:=w) (a:=⟨gf',i,none⟩) heq⟩
 . by_cases hne:g'=g∧o'=o
   . obtain⟨rfl,rfl⟩:=hne;rcases hj with rfl|rfl
     . exact (hc _ (by omega)).trans hv
     . rw[hold] at hv;injection hv with hv
       exact absurd hv.symm hn
   . exact (hcells g' o' t' e' hne j (by omega)).trans hv
end
def Ghost.mark (Γ:Ghost) (v:Value):Ghost:={Γ with M:=fun g=>Γ.M g∨v.ownBlock=some g}
section
variable {w w0:World} {B:Nat} {xs:List Int} {Γ Γ0:Ghost} {gf i:Nat} {t:T} {v:Value} {q:Nat->Bool}
theorem Inv.putFrom (h:Inv w B xs Γ) (e:Γ.G gf=some t) (hi:i<=xs.length) (hv:Pl w B v (xs.length / 64+1) q) (hq:∀ j,q j=true↔E xs t i j):
   Inv (w.setCell ⟨gf,i,none⟩ v) B xs (Γ.mark v):=by
 have k:=(h.starts gf t e).2;obtain⟨curg,hcg⟩:=k.block;have hs:∀ b,Still w b->(w.setCell ⟨gf,i,none⟩ v).heap[b]?=w.heap[b]?:=fun b hb'=>Below.heap_setCell w _ v b (fun e'=>hb'.2.2 curg (by rw[e'];exact hcg))
 refine⟨fun g' o' t' e'=>?_,fun gf' t' e'=>?_⟩
 . have hp:=h.part g' o' t' e';obtain⟨cur,hcur⟩:=hp.2.block;have hne:=zaz hcur hcg (by decide);refine⟨hp.1,hp.2.kept hs (fun _ _ _ h=>h) (fun _ _ h=>h) (zbs (i:=0) hcur _ v) fun j _=>zag fun ea=>hne ?_⟩;injection ea with ea _
   exact ea.symm
 . have e2:Γ.G gf'=some t':=e';have hp:=h.starts gf' t' e2;obtain⟨cur,hcur⟩:=hp.2.block;refine⟨hp.1,zbs (i:=0) hcur _ v,fun j hj=>?_⟩
   by_cases hji:gf'=gf∧j=i
   . obtain⟨rfl,rfl⟩:=hji;rw[e] at e2;injection e2 with e2
     subst e2;obtain⟨v0,h0,_⟩:=k.cells j hj;exact⟨v,World.cell?_setCell_same _ _ _ h0,.inr ⟨q,zdk hv hs,fun g eg => .inr eg,hq⟩⟩
   . obtain⟨v0,h0,h1⟩:=hp.2.cells j hj;refine⟨v0,(zag fun ea=>hji ?_).trans h0,?_⟩
     . injection ea with e3 e4
       exact⟨e3.symm,e4.symm⟩
     . rcases h1 with h1|⟨q0,h3,h4,h5⟩
       . exact .inl h1
       . exact .inr ⟨q0,zdk h3 hs,fun g eg => .inl (h4 g eg),h5⟩
theorem Ext.put (h:Inv w B xs Γ) (x:Ext B w0 w Γ0 Γ) (e:Γ.G gf=some t) (hn:∀ g,v.ownBlock=some g->w0.heap.size<=g):Ext B w0 (w.setCell ⟨gf,i,none⟩ v) Γ0 (Γ.mark v):=by
 have k:=h.starts gf t e;obtain⟨curg,hcg⟩:=k.2.block;refine⟨x.below.setCell (p:=⟨gf,i,none⟩) k.1 _,x.F,x.G,fun g hg => .inl (x.M g hg),fun g hg=>?_,fun b hs=>?_,fun g o t' e' j hj u hu hun=>?_,fun b cur eb hG=>?_,x.newG⟩
 . rcases hg with hg|hg
   . exact x.new g hg
   . exact .inr (hn g hg)
 . have hs':=hs.ext x;exact (Below.heap_setCell w _ v b (fun e'=>hs'.2.2 curg (by rw[e'];exact hcg))).trans (x.still b hs)
 . have hp:=h.part g o t' (x.F g o t' e');obtain⟨cur,hcur⟩:=hp.2.block;have hne:=zaz hcur hcg (by decide);refine (zag fun ea=>hne ?_).trans (x.stay g o t' e' j hj u hu hun);injection ea with ea _
   exact ea.symm
 . refine (Below.heap_setCell w _ v b fun e'=>?_).trans (x.box b cur eb hG);have e2:b=gf:=e';subst e2;rcases x.newG _ _ e with e3|e3
   . exact hG _ e3
   . have:=za0 eb;omega
end
end
section
attribute [local go_sem ↓] Go.wp_at_zero Go.wp_at_succ
theorem Tryd.infoPart:(Tryd.prog.info? 82).map (fun i=>(i.zero,i.size,i.bytes))=some (some (.agg #[.pointer none,.slice none 0 0,.int .i64 0,.slice none 0 0]),4,64):=by kernel_rfl
def RetKid (B:Nat) (w:World) (xs:List Int) (Γ:Ghost) (u:T) (e:Ending) (w':World):Prop:=
 ∃ g o Γ',e = .returned (.pointer (some ⟨g,o,none⟩))∧Γ'.F g o=some u∧Inv w' B xs Γ'∧Ext B w w' Γ Γ'∧∀ g,Γ'.M g->Γ.M g
set_option maxHeartbeats 1000000 in
theorem zvk {w:World} {B:Nat} {xs:List Int} {Γ:Ghost} {g o gk:Nat} {t:T} (h:Inv w B xs Γ) (e:Γ.F g o=some t) (i:Nat) (hi:i<t.kids.length)
   (hc:w.cell? ⟨g,o+1,none⟩=some (.slice (some ⟨gk,0,none⟩) t.kids.length t.kids.length)) (hF:Γ.F gk (i*4)=some (t.kids[i]'hi)):
   Calls Tryd.prog 62 #[.pointer (some ⟨g,o,none⟩),.int .i64 i] w (RetKid B w xs Γ (t.kids[i]'hi)):=by
 have hn:∀ W,(binOp .eql 79 (.slice (some ⟨gk,0,none⟩) t.kids.length t.kids.length) (.slice none 0 0)).run Tryd.prog W = .ok (.bool false) W:=fun W=>Lib.run_eql_slice_some_nil W _ _ _ Tryd.underlying79
 have HH:=Zh h;have HF:=Zh hF;have hlen:=(h.part g o t e).2.wf.len;clear h e hF;have i1:(i:Int)<(t.kids.length:Int):=(by omega);go_enter Tryd.func62,Tryd.ntmps62;go_wp2;go_ret;exact⟨gk,i*4,Γ,rfl,HF.out,HH.out,Ext.refl _ _ _,fun _ h=>h⟩
def cellsK (ga n k:Nat):List Value:=(List.range (n*4)).map fun j=>if j % 4=0 then (if j / 4<k then Value.pointer (some ⟨ga,j / 4*8,none⟩) else Value.pointer none) else if j % 4=2 then Value.int .i64 0 else Value.slice none 0 0
theorem zd7 (ga n k:Nat):(cellsK ga n k).length=n*4:=by simp[cellsK]
theorem zcv (ga n k j:Nat) (h:j<n*4):(cellsK ga n k)[j]?=some (if j % 4=0 then (if j / 4<k then Value.pointer (some ⟨ga,j / 4*8,none⟩) else Value.pointer none) else if j % 4=2 then Value.int .i64 0 else Value.slice none 0 0):=by simp[cellsK,h]
theorem zo9 (ga n k:Nat) (h:k<n):(cellsK ga n k).set (k*4) (.pointer (some ⟨ga,k*8,none⟩))=cellsK ga n (k+1):=by
 apply List.ext_getElem?;intro j;rw[List.getElem?_set,zd7]
 by_cases hj:j<n*4
 . rw[zcv _ _ _ _ hj,zcv _ _ _ _ hj]
   by_cases hk:k*4=j
   . subst hk;rw[if_pos rfl,if_pos hj,if_pos (by omega),if_pos (by omega),show k*4 / 4=k by omega]
   . rw[if_neg hk]
     by_cases h4:j % 4=0
     . rw[if_pos h4,if_pos h4]
       by_cases hjk:j / 4<k
       . rw[if_pos hjk,if_pos (by omega)]
       . rw[if_neg hjk,if_neg (by omega)]
     . rw[if_neg h4,if_neg h4]
 . rw[List.getElem?_eq_none (by rw[zd7];omega),List.getElem?_eq_none (by rw[zd7];omega)]
   by_cases hk:k*4=j
   . omega
   . rw[if_neg hk]
theorem zl2 (ga n:Nat):(madeCells (Value.agg #[.pointer none,.slice none 0 0,.int .i64 0,.slice none 0 0]).cells (n*4)).toList=cellsK ga n 0:=by
 apply List.ext_getElem?;intro j
 by_cases hj:j<n*4
 . rw[zcv _ _ _ _ hj];have h4:j % 4=0∨j % 4=1∨j % 4=2∨j % 4=3:=(by omega);rcases h4 with h4|h4|h4|h4 <;> simp[madeCells,Value.cells,hj,h4]
 . rw[List.getElem?_eq_none (l:=cellsK ga n 0) (by rw[zd7];omega)];simp[madeCells,hj]
theorem zsf {w:World} {t:T} {ga n c:Nat} (h:Tree w (fun _=>True) t (.slice (some ⟨ga,0,none⟩) n c)) (hn:0<n):∃ cur,w.heap[ga]?=some (.cells cur 29 (0,0)):=by
 cases h with
 | row t g cap cur ks hg hok hn h0 hcap hmax hsize hc hk=>exact⟨cur,hg⟩
set_option maxRecDepth 20000 in
set_option maxHeartbeats 2000000 in
theorem zvj {w:World} {B:Nat} {xs:List Int} {Γ:Ghost} {g o:Nat} {t:T} (h:Inv w B xs Γ) (hB:B<=w.heap.size) (e:Γ.F g o=some t) (i:Nat) (hi:i<t.kids.length)
   (hc:w.cell? ⟨g,o+1,none⟩=some (.slice none 0 0)):
   Calls Tryd.prog 62 #[.pointer (some ⟨g,o,none⟩),.int .i64 i] w (RetKid B w xs Γ (t.kids[i]'hi)):=by
 have hn:∀ W,(binOp .eql 79 (.slice none 0 0) (.slice none 0 0)).run Tryd.prog W = .ok (.bool true) W:=fun W=>Lib.run_eql_slice_nil_nil W _ _ Tryd.underlying79
 have hp:=(h.part g o t e).2;have hlen:=hp.wf.len;have hwf:=hp.wf;obtain⟨gn,on,kn,n1,n2,n3,n4⟩:=hp.node;obtain⟨A,nk,ck,rfl⟩:=n3.form;obtain⟨hnk,_⟩:=n3.bound;have hn0:0<nk:=(by omega);have n7:=n2 7 _ rfl;obtain⟨ga,rfl⟩:∃ ga,A=some ⟨ga,0,none⟩:=by
   obtain⟨ga,_,_,_,e1,_⟩:=NodeAt.kid n3 0 (by omega);exact⟨ga,e1⟩
 have hgn:=n2.lt;obtain⟨i0,hi0,hz0,hz1,hz2⟩:=info_parts Tryd.infoPart;obtain⟨w1,hr,hown,hg⟩:=run_make_full (P:=Tryd.prog) w w.heap.size 79 82 i0 _ 4 Tryd.underlying79 hi0 hz0 hz1 .i64 .i64 nk (by rw[hz2];omega) (by unfold maxLen;omega) (Nat.le_refl _);obtain⟨curp,hblk⟩:=hp.block;have hgw:=za0 hblk;have hb1:Below w.heap.size w w1:=(Below.refl _ _).grown hg (Nat.le_refl _) (fun j e=>by cases e);have c1:=za2 hc hb1;have c0:=za2 n1 hb1;have hfz:∀ j,w1.frozen? ⟨g,j,none⟩=false:=fun j=>by
   have hb:=(hb1.block g hgw).trans hblk;simp[World.frozen?,hb]
 have f1:=hfz (o+1);have c7:=za2 n7 hb1;have hne:g≠gn:=by
   rintro rfl;obtain⟨cn,hcn⟩:=n4;rw[hblk] at hcn;injection hcn with hcn
   injection hcn with _ hcn
   exact absurd hcn (by decide)
 have hsz:w.heap.size<w1.heap.size:=(World.ownsRow.lt hown _ rfl).2;have HOWN:=Zh hown;have HN3:=Zh n3;have HN2:=Zh n2;have HN4:=Zh n4;have HHH:=Zh h;have HE:=Zh e;have HNK:=Zh hnk;clear hfz hown h e hp n2 n3 n4 hnk hi0 hz0 hz1 hz2 hg;go_enter Tryd.func62,Tryd.ntmps62;go_wp2;have b12:w1.grownBy (w1.setCell ⟨g,o+1,none⟩ (.slice (some ⟨w.heap.size,0,none⟩) nk nk)) (some g):=⟨rfl,rfl,rfl,by simp[World.setCell],fun k _ hk=>Below.heap_setCell _ _ _ _ (fun e=>hk (by rw[e]))⟩;have own2:=World.ownsRow.kept HOWN.out b12 (.inr (by simp[Value.ownBlock];omega));rw[zl2 ga nk] at own2;have d0:(w1.setCell ⟨g,o+1,none⟩ (.slice (some ⟨w.heap.size,0,none⟩) nk nk)).cell? ⟨g,o,none⟩=some (.pointer (some ⟨gn,on,none⟩)):=(zag (by intro e;injection e with _ e;omega)).trans c0;have d7:(w1.setCell ⟨g,o+1,none⟩ (.slice (some ⟨w.heap.size,0,none⟩) nk nk)).cell? ⟨gn,on+7,none⟩=some (.slice (some ⟨ga,0,none⟩) nk ck):=(zag (by intro e;injection e with e _;exact hne e)).trans c7;have d1:(w1.setCell ⟨g,o+1,none⟩ (.slice (some ⟨w.heap.size,0,none⟩) nk nk)).cell? ⟨g,o+1,none⟩=some (.slice (some ⟨w.heap.size,0,none⟩) nk nk):=World.cell?_setCell_same _ _ _ c1;have dg:=zbs (i:=0) ((hb1.block g hgw).trans hblk) ⟨g,o+1,none⟩ (.slice (some ⟨w.heap.size,0,none⟩) nk nk);have dc:∀ q,q≠o+1->(w1.setCell ⟨g,o+1,none⟩ (.slice (some ⟨w.heap.size,0,none⟩) nk nk)).cell? ⟨g,q,none⟩=w.cell? ⟨g,q,none⟩:=fun q hq=>(zag (by intro e;injection e with _ e;omega)).trans (hb1.cell hgw)
 have HOWN2:=Zh own2;have HB12:=Zh b12;clear own2 b12;generalize hw2:w1.setCell ⟨g,o+1,none⟩ (.slice (some ⟨w.heap.size,0,none⟩) nk nk)=w2 at *;go_loopg [28] nk (fun m' i wr=>∃ j:Nat,i = .int .i64 (j:Int)∧j<=nk∧m'=nk-j∧wr.ownsRow w.heap.size 82 4 (.slice (some ⟨w.heap.size,0,none⟩) nk nk) nk (cellsK ga nk j)∧Below w.heap.size w2 wr)
 case atStart=>exact⟨0,rfl,Nat.zero_le _,rfl,HOWN2.out,Below.refl _ _⟩
 case round =>
   obtain⟨j,rfl,hj,hmj,hor,hbr⟩:=hrel;have e0:=(hbr.cell (p:=⟨g,o,none⟩) hgw).trans d0;have e1:=(hbr.cell (p:=⟨g,o+1,none⟩) hgw).trans d1;have e7:=(hbr.cell (p:=⟨gn,on+7,none⟩) hgn).trans d7;have hs2:=(World.ownsRow.lt hor _ rfl).2;have HOR:=Zh hor;have HBR:=Zh hbr;have HMJ:=Zh hmj;clear hor hbr hmj;have hnk2:nk<=202:=by have:=HNK.out;omega
   by_cases hlt:j<nk
   . have hcell:=HOR.out.cellAt (j*4) (by omega);rw[zcv _ _ _ _ (by omega),if_pos (by omega)] at hcell;have hf:=HOR.out.frozenAt (j*4);have hst:=HOR.out.stored (j*4) (.pointer (some ⟨ga,j*8,none⟩));rw[zo9 _ _ _ hlt] at hst;have HST:=Zh hst;clear hst;go_wp2;go_region
     all_goals
       go_wp2;go_roundg (nk-(j+1))
       case measure=>have:=HMJ.out;omega
       case rel =>
         refine⟨j+1,by go_num,by omega,rfl,?_,?_⟩
         . exact HST.out.1
         . exact (HBR.out.setCell (Nat.le_refl _) _).drew
   . have hjn:j=nk:=(by omega);have hin:(i:Int)<(nk:Int):=(by have:=HNK.out;omega);go_wp2;go_ret;subst hjn;have hblkr:∀ b,b<w.heap.size->b≠g->wr.heap[b]?=w.heap[b]?:=fun b h1 h2=>(HBR.out.block b h1).trans ((HB12.out.block b (Nat.lt_of_lt_of_le h1 hb1.size) (fun e=>h2 (by injection e))).trans (hb1.block b h1))
     have hst:∀ b,Still w b->wr.heap[b]?=w.heap[b]?:=fun b hs=>hblkr b hs.1 (fun e=>hs.2.1 curp (by rw[e];exact hblk))
     have hgr:wr.heap[g]?=w2.heap[g]?:=HBR.out.block g hgw;have hbe:Below B w wr:=((hb1.mono hB).trans (Below.grown (Below.refl _ _) HB12.out (Nat.le_trans hB (Nat.le_of_lt hsz)) (fun k e=>by injection e with e;rw[←e];exact (HHH.out.part g o t HE.out).1))).trans (HBR.out.mono hB);have hrow:∃ cur,wr.heap[w.heap.size]?=some (.cells cur 82 (0,0)):=by
       rcases HOR.out.2 with ⟨e,_⟩|⟨g',cap',cur,e,_,hg',_⟩
       . cases e
       . injection e with e
         injection e with e
         injection e with e
         exact⟨cur,by rw[e];exact hg'⟩
     have hcl:=fun k (hk:k<j*4)=>(HOR.out.cellAt k hk).trans (zcv ga j j k hk)
     obtain⟨curn,hgan⟩:=zsf HN3.out hn0;have hga:wr.heap[ga]?=w.heap[ga]?:=hst ga (zb2 hgan (by decide) (by decide));have hnk:=HNK.out;have hlay:=HHH.out.layKids HE.out w.heap.size (Nat.le_refl _) hB hblkr (by obtain⟨c,h⟩:=dg;exact⟨c,hgr.trans h⟩) (fun q hq=>(HBR.out.cell (p:=⟨g,q,none⟩) hgw).trans (dc q hq)) (by rw[←hnk];exact e1) hc (fun k hk=>?_) hbe
     . exact⟨w.heap.size,i*4,Γ.row w.heap.size t,rfl,zpd Γ w.heap.size i t hi,hlay.1,hlay.2,fun _ h=>h⟩
     . obtain⟨ga',Bk,mk,dk,ek,tk,nk'⟩:=NodeAt.kid HN3.out k hk;injection ek with ek
       injection ek with ek
       subst ek;refine⟨by omega,hrow,hwf.kid (List.getElem_mem hk),⟨ga,k*8,_,?_,nk'.block hga,zc3 tk hst,curn,hga.trans hgan⟩,.inl ?_,⟨0,?_,by omega⟩,.inl ?_⟩
       . rw[hcl (k*4) (by omega),if_pos (by omega),if_pos (by omega),show k*4 / 4=k by omega]
       . rw[hcl (k*4+1) (by omega),if_neg (by omega),if_neg (by omega)]
       . rw[hcl (k*4+2) (by omega),if_neg (by omega),if_pos (by omega)];rfl
       . rw[hcl (k*4+3) (by omega),if_neg (by omega),if_neg (by omega)]
theorem zvi {w:World} {B:Nat} {xs:List Int} {Γ:Ghost} {g o:Nat} {t:T} (h:Inv w B xs Γ) (hB:B<=w.heap.size) (e:Γ.F g o=some t) (i:Nat) (hi:i<t.kids.length):
   Calls Tryd.prog 62 #[.pointer (some ⟨g,o,none⟩),.int .i64 i] w (RetKid B w xs Γ (t.kids[i]'hi)):=by
 rcases (h.part g o t e).2.kids with hc|⟨gk,hc,hF⟩
 . exact zvj h hB e i hi hc
 . exact zvk h e i hi hc (hF i hi)
end
end Go.Proofs.YtgbdanddbgomhaaDoor
