import Derived.Test.YtipfgpfplakhiaaDoorTw12
import Derived.Test.YtipfgpfplakhiaaDoorTw13
set_option linter.unusedVariables false
set_option linter.unusedSimpArgs false
set_option maxRecDepth 20000
set_option maxHeartbeats 4000000
namespace Go.Proofs.YtipfgpfplakhiaaDoor
open Go Go.RowKit
section
attribute [local go_sem ↓] Go.wp_at_zero Go.wp_at_succ
structure Ghost where
 F:Nat->Nat->Option T
 G:Nat->Option T
 M:Nat->Prop
section
variable (w:World) (B:Nat) (xs:List Int) (Γ:Ghost)
structure PartOk (g o:Nat) (t:T):Prop where
 four:o % 4=0
 block:∃ cur,w.heap[g]?=some (.cells cur 101 (0,0))
 wf:WF t
 node:∃ gn on kn,w.cell? ⟨g,o,none⟩=some (.pointer (some ⟨gn,on,none⟩))∧NodeAt w gn on t kn∧Tree w (fun _=>True) t kn∧∃ cur,w.heap[gn]?=some (.cells cur 56 (0,0))
 kids:w.cell? ⟨g,o+1,none⟩=some (.slice none 0 0)∨∃ gk,w.cell? ⟨g,o+1,none⟩=some (.slice (some ⟨gk,0,none⟩) t.kids.length t.kids.length)∧∀ (i:Nat) (hi:i<t.kids.length),Γ.F gk (i*4)=some (t.kids[i]'hi)
 asked:∃ a:Nat,w.cell? ⟨g,o+2,none⟩=some (.int .i64 a)∧a<=xs.length+1
 starts:w.cell? ⟨g,o+3,none⟩=some (.slice none 0 0)∨∃ gf,w.cell? ⟨g,o+3,none⟩=some (.slice (some ⟨gf,0,none⟩) (xs.length+1) (xs.length+1))∧Γ.G gf=some t
structure FromOk (gf:Nat) (t:T):Prop where
 block:∃ cur,w.heap[gf]?=some (.cells cur 103 (0,0))
 cells:∀ i,i<=xs.length->∃ v,w.cell? ⟨gf,i,none⟩=some v∧(v = .slice none 0 0∨∃ q:Nat->Bool,Pl w B v (xs.length / 64+1) q∧(∀ g,v.ownBlock=some g->Γ.M g)∧∀ j,q j=true↔E xs t i j)
structure Inv:Prop where
 part:∀ g o t,Γ.F g o=some t->B<=g∧PartOk w xs Γ g o t
 starts:∀ gf t,Γ.G gf=some t->B<=gf∧FromOk w B xs Γ gf t
end
def Still (w:World) (b:Nat):Prop:=b<w.heap.size∧(∀ cur,w.heap[b]?≠some (.cells cur 101 (0,0)))∧∀ cur,w.heap[b]?≠some (.cells cur 103 (0,0))
theorem zc3 {w:World} {b:Nat} {cur:Array Value} {ty:TypeId} (h:w.heap[b]?=some (.cells cur ty (0,0))) (h1:ty≠101) (h2:ty≠103):Still w b:=
 ⟨za0 h,fun c e=>by rw[h] at e;injection e with e;injection e with _ e _;exact h1 e,fun c e=>by rw[h] at e;injection e with e;injection e with _ e _;exact h2 e⟩
structure Ext (B:Nat) (w w':World) (Γ Γ':Ghost):Prop where
 below:Below B w w'
 F:∀ g o t,Γ.F g o=some t->Γ'.F g o=some t
 G:∀ g t,Γ.G g=some t->Γ'.G g=some t
 M:∀ g,Γ.M g->Γ'.M g
 new:∀ g,Γ'.M g->Γ.M g∨w.heap.size<=g
 still:∀ b,Still w b->w'.heap[b]?=w.heap[b]?
 stay:∀ g o t,Γ.F g o=some t->∀ j,j=1∨j=3->∀ v,w.cell? ⟨g,o+j,none⟩=some v->v ≠ .slice none 0 0->w'.cell? ⟨g,o+j,none⟩=some v
 box:∀ (b:Nat) (cur:Array Value),w.heap[b]?=some (.cells cur 103 (0,0))->(∀ t,Γ.G b≠some t)->w'.heap[b]?=w.heap[b]?
 newG:∀ g t,Γ'.G g=some t->Γ.G g=some t∨w.heap.size<=g
theorem Ext.refl (B:Nat) (w:World) (Γ:Ghost):Ext B w w Γ Γ:=⟨yf6 _ _,fun _ _ _ h=>h,fun _ _ h=>h,fun _ h=>h,fun _ h => .inl h,fun _ _=>rfl,fun _ _ _ _ _ _ _ h _=>h,fun _ _ _ _=>rfl,fun _ _ e => .inl e⟩
theorem Still.ext {B:Nat} {w w':World} {Γ Γ':Ghost} {b:Nat} (h:Ext B w w' Γ Γ') (hs:Still w b):Still w' b:=by
 have e:=h.still b hs;exact⟨yff hs.1 h.below.size,fun c=>by rw[e];exact hs.2.1 c,fun c=>by rw[e];exact hs.2.2 c⟩
theorem Ext.trans {B:Nat} {w w' w'':World} {Γ Γ' Γ'':Ghost} (h:Ext B w w' Γ Γ') (k:Ext B w' w'' Γ' Γ''):Ext B w w'' Γ Γ'':=
 ⟨h.below.trans k.below,fun g o t e=>k.F g o t (h.F g o t e),fun g t e=>k.G g t (h.G g t e),fun g e=>k.M g (h.M g e),fun g e=>by
  rcases k.new g e with e|e
  .exact h.new g e
  .exact .inr (yfa h.below.size e),fun b hs=>(k.still b (hs.ext h)).trans (h.still b hs),fun g o t e j hj v hv hn=>k.stay g o t (h.F g o t e) j hj v (h.stay g o t e j hj v hv hn) hn,fun b cur e hG=>by
  have e1:=h.box b cur e hG;refine (k.box b cur (e1.trans e) fun t e2=>?_).trans e1;rcases h.newG b t e2 with e2|e2
  .exact hG t e2
  .have:=za0 e;omega,fun g t e=>by
  rcases k.newG g t e with e|e
  .exact h.newG g t e
  .exact .inr (yfa h.below.size e)⟩
theorem Tree.ext {B:Nat} {w w':World} {Γ Γ':Ghost} {t:T} {k:Value} (ht:Tree w (fun _=>True) t k) (h:Ext B w w' Γ Γ'):Tree w' (fun _=>True) t k:=
 ht.mono fun b _ _ ⟨cur,e⟩=>⟨h.still b (zc3 e yij yij),trivial⟩
theorem Pl.ext {B C m:Nat} {w w':World} {Γ Γ':Ghost} {v:Value} {q:Nat->Bool} (hp:Pl w C v m q) (h:Ext B w w' Γ Γ'):Pl w' C v m q:=by
 refine⟨hp.1,?_⟩;rcases hp.2 with hn|⟨g,cap,cur,rfl,hb,hg,rest⟩
 .exact .inl hn
 .exact .inr ⟨g,cap,cur,rfl,hb,(h.still g (zc3 hg yij yij)).trans hg,rest⟩
section
variable {w w':World} {B:Nat} {xs:List Int} {Γ Γ':Ghost} {g o:Nat} {t:T}
theorem zea {k:Value} (ht:Tree w (fun _=>True) t k) (hs:∀ b,Still w b->w'.heap[b]?=w.heap[b]?):Tree w' (fun _=>True) t k:=
 ht.mono fun b _ _ ⟨cur,e⟩=>⟨hs b (zc3 e yij yij),trivial⟩
theorem zgs {C m:Nat} {v:Value} {q:Nat->Bool} (hp:Pl w C v m q) (hs:∀ b,Still w b->w'.heap[b]?=w.heap[b]?):Pl w' C v m q:=by
 refine⟨hp.1,?_⟩;rcases hp.2 with hn|⟨g,cap,cur,rfl,hb,hg,rest⟩
 .exact .inl hn
 .exact .inr ⟨g,cap,cur,rfl,hb,(hs g (zc3 hg yij yij)).trans hg,rest⟩
theorem PartOk.kept (h:PartOk w xs Γ g o t) (hs:∀ b,Still w b->w'.heap[b]?=w.heap[b]?) (hF:∀ g o t,Γ.F g o=some t->Γ'.F g o=some t) (hG:∀ g t,Γ.G g=some t->Γ'.G g=some t)
 (hb:∃ cur,w'.heap[g]?=some (.cells cur 101 (0,0))) (hc:∀ j,j<4->w'.cell? ⟨g,o+j,none⟩=w.cell? ⟨g,o+j,none⟩):PartOk w' xs Γ' g o t:=by
 obtain⟨gn,on,kn,h1,h2,h3,cur,h4⟩:=h.node;have e:=hs gn (zc3 h4 yij yij);refine⟨h.four,hb,h.wf,⟨gn,on,kn,(hc 0 yie).trans h1,h2.block e,zea h3 hs,cur,e.trans h4⟩,?_,?_,?_⟩
 .rcases h.kids with k|⟨gk,k1,k2⟩
  .exact .inl ((hc 1 yie).trans k)
  .exact .inr ⟨gk,(hc 1 yie).trans k1,fun i hi=>hF _ _ _ (k2 i hi)⟩
 .obtain⟨a,a1,a2⟩:=h.asked;exact⟨a,(hc 2 yie).trans a1,a2⟩
 .rcases h.starts with k|⟨gf,k1,k2⟩
  .exact .inl ((hc 3 yie).trans k)
  .exact .inr ⟨gf,(hc 3 yie).trans k1,hG _ _ k2⟩
theorem FromOk.kept (h:FromOk w B xs Γ g t) (hs:∀ b,Still w b->w'.heap[b]?=w.heap[b]?) (hM:∀ g,Γ.M g->Γ'.M g)
 (hb:∃ cur,w'.heap[g]?=some (.cells cur 103 (0,0))) (hc:∀ i,i<=xs.length->w'.cell? ⟨g,i,none⟩=w.cell? ⟨g,i,none⟩):FromOk w' B xs Γ' g t:=by
 refine⟨hb,fun i hi=>?_⟩;obtain⟨v,h1,h2⟩:=h.cells i hi;refine⟨v,(hc i hi).trans h1,?_⟩;rcases h2 with h2|⟨q,h3,h4,h5⟩
 .exact .inl h2
 .exact .inr ⟨q,zgs h3 hs,fun g e=>hM g (h4 g e),h5⟩
theorem Inv.stays (h:Inv w B xs Γ) (hb:Below w.heap.size w w'):Inv w' B xs Γ:=by
 have hs:∀ b,Still w b->w'.heap[b]?=w.heap[b]?:=fun b hb'=>hb.block b hb'.1
 refine⟨fun g o t e=>?_,fun gf t e=>?_⟩
 .obtain⟨h1,h2⟩:=h.part g o t e;obtain⟨cur,hc⟩:=h2.block;have hg:=za0 hc;exact⟨h1,h2.kept hs (fun _ _ _ h=>h) (fun _ _ h=>h) ⟨cur,(hb.block g hg).trans hc⟩ fun j _=>hb.cell (p:=⟨g,o+j,none⟩) hg⟩
 .obtain⟨h1,h2⟩:=h.starts gf t e;obtain⟨cur,hc⟩:=h2.block;have hg:=za0 hc;exact⟨h1,h2.kept hs (fun _ h=>h) ⟨cur,(hb.block gf hg).trans hc⟩ fun i _=>hb.cell (p:=⟨gf,i,none⟩) hg⟩
theorem Ext.stays (Γ:Ghost) (hb:Below w.heap.size w w') (hB:B<=w.heap.size):Ext B w w' Γ Γ:=
 ⟨hb.mono hB,fun _ _ _ h=>h,fun _ _ h=>h,fun _ h=>h,fun _ h => .inl h,fun b hs=>hb.block b hs.1,fun g o t _ j _ v hv _=>za4 hv hb,fun b cur e _=>hb.block b (za0 e),fun _ _ e => .inl e⟩
theorem zr5 {g' o' j k:Nat} (h:o % 4=0) (h':o' % 4=0) (hj:j<4) (hk:k<4) (e:(⟨g,o+j,none⟩:Addr)=⟨g',o'+k,none⟩):g=g'∧o=o'∧j=k:=by
 injection e with e1 e2
 omega
theorem zbu {b c:Nat} {cur cur':Array Value} {ty ty':TypeId} (h:w.heap[b]?=some (.cells cur ty (0,0))) (h':w.heap[c]?=some (.cells cur' ty' (0,0))) (hne:ty≠ty'):b≠c:=by
 intro e;subst e;rw[h] at h';injection h' with h'
 injection h' with _ e _
 exact hne e
theorem zdj {b i:Nat} {cur:Array Value} {ty:TypeId} (h:w.heap[b]?=some (.cells cur ty (0,0))) (p:Addr) (v:Value):∃ cur',(w.setCell p v).heap[b]?=some (.cells cur' ty (0,0)):=by
 by_cases e:b=p.block
 .subst e;exact⟨_,by simp[World.setCell,yg2,h];rfl⟩
 .exact⟨cur,(yf9 w p v b e).trans h⟩
theorem zaz {a b:Addr} {v:Value} (h:a≠b):(w.setCell a v).cell? b=w.cell? b:=by
 rw[World.cell?_setCell_other];exact h
theorem zgp (h:Inv w B xs Γ) (e:Γ.F g o=some t) (j:Nat) (v:Value) (b:Nat) (hs:Still w b):(w.setCell ⟨g,j,none⟩ v).heap[b]?=w.heap[b]?:=by
 obtain⟨cur,hc⟩:=(h.part g o t e).2.block;exact yf9 w _ v b (fun e'=>hs.2.1 cur (by rw[e'];exact hc))
theorem zqy {gf:Nat} (h:Inv w B xs Γ) (e:Γ.G gf=some t) (j:Nat) (v:Value) (b:Nat) (hs:Still w b):(w.setCell ⟨gf,j,none⟩ v).heap[b]?=w.heap[b]?:=by
 obtain⟨cur,hc⟩:=(h.starts gf t e).2.block;exact yf9 w _ v b (fun e'=>hs.2.2 cur (by rw[e'];exact hc))
theorem zt7 {g' o' j:Nat} {t':T} (h:Inv w B xs Γ) (e:Γ.F g o=some t) (e':Γ.F g' o'=some t') (hne:¬ (g'=g∧o'=o)) (hj:j<4) (v:Value) (hF:∀ g o t,Γ.F g o=some t->Γ'.F g o=some t) (hG:∀ g t,Γ.G g=some t->Γ'.G g=some t):
 PartOk (w.setCell ⟨g,o+j,none⟩ v) xs Γ' g' o' t':=by
 have k:=(h.part g o t e).2;have k':=(h.part g' o' t' e').2;obtain⟨cur,hc⟩:=k'.block;refine k'.kept (zgp h e _ v) hF hG (zdj (i:=0) hc _ v) fun i hi=>zaz fun ea=>hne ?_
 have:=zr5 k.four k'.four hj hi ea;exact⟨this.1.symm,this.2.1.symm⟩
theorem zt8 {gf j:Nat} {t':T} (h:Inv w B xs Γ) (e:Γ.F g o=some t) (e':Γ.G gf=some t') (v:Value) (hM:∀ g,Γ.M g->Γ'.M g):FromOk (w.setCell ⟨g,j,none⟩ v) B xs Γ' gf t':=by
 have k:=(h.part g o t e).2;have k':=(h.starts gf t' e').2;obtain⟨cur,hc⟩:=k.block;obtain⟨cur',hc'⟩:=k'.block;have hne:=zbu hc hc' yij;exact k'.kept (zgp h e _ v) hM (zdj (i:=0) hc' _ v) fun i hi=>zaz fun ea=>hne (by injection ea)
theorem Inv.ask (h:Inv w B xs Γ) (e:Γ.F g o=some t) (a:Nat) (ha:a<=xs.length+1):Inv (w.setCell ⟨g,o+2,none⟩ (.int .i64 a)) B xs Γ∧Ext B w (w.setCell ⟨g,o+2,none⟩ (.int .i64 a)) Γ Γ:=by
 have k:=(h.part g o t e).2;have kB:=(h.part g o t e).1;have hid:∀ g o t,Γ.F g o=some t->Γ.F g o=some t:=fun _ _ _ h=>h
 have hid2:∀ g t,Γ.G g=some t->Γ.G g=some t:=fun _ _ h=>h
 refine⟨⟨fun g' o' t' e'=>?_,fun gf t' e'=>⟨(h.starts gf t' e').1,zt8 h e e' _ fun _ h=>h⟩⟩,?_⟩
 .refine⟨(h.part g' o' t' e').1,?_⟩
  by_cases hne:g'=g∧o'=o
  .obtain⟨rfl,rfl⟩:=hne;rw[e] at e';injection e' with e'
   subst e';obtain⟨cur,hc⟩:=k.block;have hs:=zgp h e (o'+2) (.int .i64 a);have hcell:∀ j,j<4->j≠2->(w.setCell ⟨g',o'+2,none⟩ (.int .i64 a)).cell? ⟨g',o'+j,none⟩=w.cell? ⟨g',o'+j,none⟩:=fun j hj hj2=>zaz fun ea=>by injection ea;omega
   obtain⟨gn,on,kn,h1,h2,h3,cur2,h4⟩:=k.node;have en:=hs gn (zc3 h4 yij yij);obtain⟨a0,h5,_⟩:=k.asked;refine⟨k.four,zdj (i:=0) hc _ _,k.wf,⟨gn,on,kn,(hcell 0 yie yie).trans h1,h2.block en,zea h3 hs,cur2,en.trans h4⟩,?_,⟨a,ygx _ _ _ h5,ha⟩,?_⟩
   .rcases k.kids with k1|⟨gk,k1,k2⟩
    .exact .inl ((hcell 1 yie yie).trans k1)
    .exact .inr ⟨gk,(hcell 1 yie yie).trans k1,k2⟩
   .rcases k.starts with k1|⟨gf,k1,k2⟩
    .exact .inl ((hcell 3 yie yie).trans k1)
    .exact .inr ⟨gf,(hcell 3 yie yie).trans k1,k2⟩
  .exact zt7 h e e' hne yie _ hid hid2
 .refine⟨(yf6 _ _).setCell (p:=⟨g,o+2,none⟩) kB _,hid,hid2,fun _ h=>h,fun _ h => .inl h,zgp h e _ _,fun g' o' t' e' j hj v hv hn=>?_,fun b cur eb _=>yf9 w _ _ b (zbu eb k.block.choose_spec yij),fun _ _ e => .inl e⟩;rw[zaz]
  .exact hv
  .intro ea;have:=zr5 k.four (h.part g' o' t' e').2.four yie (show j<4 by omega) ea;omega
def Ghost.row (Γ:Ghost) (gk:Nat) (t:T):Ghost:={Γ with F:=fun g o=>if g=gk then (if o % 4=0 then t.kids[o / 4]? else none) else Γ.F g o}
theorem zuw (Γ:Ghost) (gk i:Nat) (t:T) (hi:i<t.kids.length):(Γ.row gk t).F gk (i*4)=some (t.kids[i]'hi):=by
 simp[Ghost.row,hi]
theorem Inv.old (h:Inv w B xs Γ) (e:Γ.F g o=some t):g<w.heap.size:=by
 obtain⟨cur,hc⟩:=(h.part g o t e).2.block;exact za0 hc
theorem Inv.layKids (h:Inv w B xs Γ) (e:Γ.F g o=some t) (gk:Nat) (hgk:w.heap.size<=gk) (hB:B<=w.heap.size)
 (hblk:∀ b,b<w.heap.size->b≠g->w'.heap[b]?=w.heap[b]?) (hg:∃ cur,w'.heap[g]?=some (.cells cur 101 (0,0)))
 (hc:∀ j,j≠o+1->w'.cell? ⟨g,j,none⟩=w.cell? ⟨g,j,none⟩) (hc1:w'.cell? ⟨g,o+1,none⟩=some (.slice (some ⟨gk,0,none⟩) t.kids.length t.kids.length))
 (hold:w.cell? ⟨g,o+1,none⟩=some (.slice none 0 0)) (hk:∀ (i:Nat) (hi:i<t.kids.length),PartOk w' xs Γ gk (i*4) (t.kids[i]'hi)) (hb:Below B w w'):
 Inv w' B xs (Γ.row gk t)∧Ext B w w' Γ (Γ.row gk t):=by
 have k:=(h.part g o t e).2;obtain⟨curg,hcg⟩:=k.block;have hF:∀ g o t',Γ.F g o=some t'->(Γ.row gk t).F g o=some t':=fun g' o' t' e'=>by
  have:=h.old e';unfold Ghost.row;simp only;rw[if_neg yie];exact e'
 have hs:∀ b,Still w b->w'.heap[b]?=w.heap[b]?:=fun b hb'=>hblk b hb'.1 (fun e'=>hb'.2.1 curg (by rw[e'];exact hcg))
 have hcells:∀ g' o' t',Γ.F g' o'=some t'->¬ (g'=g∧o'=o)->∀ j,j<4->w'.cell? ⟨g',o'+j,none⟩=w.cell? ⟨g',o'+j,none⟩:=fun g' o' t' e' hne j hj=>by
  by_cases hgg:g'=g
  .subst hgg;refine hc _ ?_;have h1:=(h.part g' o' t' e').2.four;have h2:=k.four;intro e2;exact hne ⟨rfl,by omega⟩
  .exact yfp (w:=w) (a:=⟨g',o'+j,none⟩) (hblk g' (h.old e') hgg)
 refine⟨⟨fun g' o' t' e'=>?_,fun gf t' e'=>?_⟩,⟨hb,hF,fun _ _ h=>h,fun _ h=>h,fun _ h => .inl h,hs,fun g' o' t' e' j hj v hv hn=>?_,fun b cur eb _=>hblk b (za0 eb) (zbu eb hcg yij),fun _ _ e => .inl e⟩⟩
 .by_cases hgk':g'=gk
  .subst hgk';unfold Ghost.row at e';simp only[if_true] at e'
   by_cases h4:o' % 4=0
   .rw[if_pos h4] at e';obtain⟨hi,e2⟩:=yf4.1 e';have hp:=hk (o' / 4) hi;rw[e2,show o' / 4*4=o' by omega] at hp;obtain⟨cur,hcur⟩:=hp.block;exact⟨by omega,hp.kept (fun _ _=>rfl) hF (fun _ _ h=>h) ⟨cur,hcur⟩ fun _ _=>rfl⟩
   .rw[if_neg h4] at e';cases e'
  .have e2:Γ.F g' o'=some t':=by
    unfold Ghost.row at e';simp only at e'
    rwa [if_neg hgk'] at e'
   refine⟨(h.part g' o' t' e2).1,?_⟩;have hp:=(h.part g' o' t' e2).2
   by_cases hne:g'=g∧o'=o
   .obtain⟨rfl,rfl⟩:=hne;rw[e] at e2;injection e2 with e2
    subst e2;obtain⟨gn,on,kn,h1,h2,h3,cur2,h4⟩:=k.node;have en:=hs gn (zc3 h4 yij yij);obtain⟨a,a1,a2⟩:=k.asked;refine⟨k.four,hg,k.wf,⟨gn,on,kn,(hc _ yie).trans h1,h2.block en,zea h3 hs,cur2,en.trans h4⟩,.inr ⟨gk,hc1,fun i hi=>zuw Γ gk i t hi⟩,⟨a,(hc _ yie).trans a1,a2⟩,?_⟩;rcases k.starts with k1|⟨gf,k1,k2⟩
    .exact .inl ((hc _ yie).trans k1)
    .exact .inr ⟨gf,(hc _ yie).trans k1,k2⟩
   .refine hp.kept hs hF (fun _ _ h=>h) ?_ (hcells g' o' t' e2 hne);obtain⟨cur,hcur⟩:=hp.block
    by_cases hgg:g'=g
    .rw[hgg];exact hg
    .exact⟨cur,(hblk g' (h.old e2) hgg).trans hcur⟩
 .have hp:=h.starts gf t' e';obtain⟨cur,hcur⟩:=hp.2.block;have hne:=zbu hcur hcg yij;have heq:=hblk gf (za0 hcur) hne;exact⟨hp.1,hp.2.kept hs (fun _ h=>h) ⟨cur,heq.trans hcur⟩ fun i _=>yfp (w:=w) (a:=⟨gf,i,none⟩) heq⟩
 .by_cases hne:g'=g∧o'=o
  .obtain⟨rfl,rfl⟩:=hne;rcases hj with rfl|rfl
   .rw[hold] at hv;injection hv with hv
    exact absurd hv.symm hn
   .exact (hc _ yie).trans hv
  .exact (hcells g' o' t' e' hne j yie).trans hv
end
end
section
def Ghost.list (Γ:Ghost) (gf:Nat) (t:T):Ghost:={Γ with G:=fun g=>if g=gf then some t else Γ.G g}
section
variable {w w':World} {B:Nat} {xs:List Int} {Γ:Ghost} {g o:Nat} {t:T}
theorem Inv.oldG {gf:Nat} (h:Inv w B xs Γ) (e:Γ.G gf=some t):gf<w.heap.size:=by
 obtain⟨cur,hc⟩:=(h.starts gf t e).2.block;exact za0 hc
theorem Inv.layFrom (h:Inv w B xs Γ) (e:Γ.F g o=some t) (gf:Nat) (hgf:w.heap.size<=gf) (hB:B<=w.heap.size)
 (hblk:∀ b,b<w.heap.size->b≠g->w'.heap[b]?=w.heap[b]?) (hg:∃ cur,w'.heap[g]?=some (.cells cur 101 (0,0)))
 (hc:∀ j,j≠o+3->w'.cell? ⟨g,j,none⟩=w.cell? ⟨g,j,none⟩) (hc1:w'.cell? ⟨g,o+3,none⟩=some (.slice (some ⟨gf,0,none⟩) (xs.length+1) (xs.length+1)))
 (hold:w.cell? ⟨g,o+3,none⟩=some (.slice none 0 0)) (hk:FromOk w' B xs Γ gf t) (hb:Below B w w'):
 Inv w' B xs (Γ.list gf t)∧Ext B w w' Γ (Γ.list gf t):=by
 have k:=(h.part g o t e).2;obtain⟨curg,hcg⟩:=k.block;have hG:∀ g' t',Γ.G g'=some t'->(Γ.list gf t).G g'=some t':=fun g' t' e'=>by
  have:=h.oldG e';unfold Ghost.list;simp only;rw[if_neg yie];exact e'
 have hs:∀ b,Still w b->w'.heap[b]?=w.heap[b]?:=fun b hb'=>hblk b hb'.1 (fun e'=>hb'.2.1 curg (by rw[e'];exact hcg))
 have hcells:∀ g' o' t',Γ.F g' o'=some t'->¬ (g'=g∧o'=o)->∀ j,j<4->w'.cell? ⟨g',o'+j,none⟩=w.cell? ⟨g',o'+j,none⟩:=fun g' o' t' e' hne j hj=>by
  by_cases hgg:g'=g
  .subst hgg;refine hc _ ?_;have h1:=(h.part g' o' t' e').2.four;have h2:=k.four;intro e2;exact hne ⟨rfl,by omega⟩
  .exact yfp (w:=w) (a:=⟨g',o'+j,none⟩) (hblk g' (h.old e') hgg)
 refine⟨⟨fun g' o' t' e2=>?_,fun gf' t' e'=>?_⟩,⟨hb,fun _ _ _ h=>h,hG,fun _ h=>h,fun _ h => .inl h,hs,fun g' o' t' e' j hj v hv hn=>?_,fun b cur eb _=>hblk b (za0 eb) (zbu eb hcg yij),fun g' t' e'=>by
  by_cases hgg:g'=gf
  .exact .inr yie
  .exact .inl (by simpa [Ghost.list,hgg] using e')⟩⟩
 .refine⟨(h.part g' o' t' e2).1,?_⟩;have hp:=(h.part g' o' t' e2).2
  by_cases hne:g'=g∧o'=o
  .obtain⟨rfl,rfl⟩:=hne;have e3:t=t':=by
    have e4:Γ.F g' o'=some t':=e2;rw[e] at e4;injection e4
   subst e3;obtain⟨gn,on,kn,h1,h2,h3,cur2,h4⟩:=k.node;have en:=hs gn (zc3 h4 yij yij);obtain⟨a,a1,a2⟩:=k.asked;refine⟨k.four,hg,k.wf,⟨gn,on,kn,(hc _ yie).trans h1,h2.block en,zea h3 hs,cur2,en.trans h4⟩,?_,⟨a,(hc _ yie).trans a1,a2⟩,.inr ⟨gf,hc1,by simp[Ghost.list]⟩⟩;rcases k.kids with k1|⟨gk,k1,k2⟩
   .exact .inl ((hc _ yie).trans k1)
   .exact .inr ⟨gk,(hc _ yie).trans k1,k2⟩
  .refine hp.kept hs (fun _ _ _ h=>h) hG ?_ (hcells g' o' t' e2 hne);obtain⟨cur,hcur⟩:=hp.block
   by_cases hgg:g'=g
   .rw[hgg];exact hg
   .exact⟨cur,(hblk g' (h.old e2) hgg).trans hcur⟩
 .by_cases hgg:gf'=gf
  .subst hgg;simp only[Ghost.list,if_true] at e';injection e' with e'
   subst e';exact⟨by omega,hk.kept (fun _ _=>rfl) (fun _ h=>h) hk.block fun _ _=>rfl⟩
  .have e2:Γ.G gf'=some t':=by
    unfold Ghost.list at e';simp only at e'
    rwa [if_neg hgg] at e'
   have hp:=h.starts gf' t' e2;obtain⟨cur,hcur⟩:=hp.2.block;have hne:=zbu hcur hcg yij;have heq:=hblk gf' (za0 hcur) hne;exact⟨hp.1,hp.2.kept hs (fun _ h=>h) ⟨cur,heq.trans hcur⟩ fun i _=>yfp (w:=w) (a:=⟨gf',i,none⟩) heq⟩
 .by_cases hne:g'=g∧o'=o
  .obtain⟨rfl,rfl⟩:=hne;rcases hj with rfl|rfl
   .exact (hc _ yie).trans hv
   .rw[hold] at hv;injection hv with hv
    exact absurd hv.symm hn
  .exact (hcells g' o' t' e' hne j yie).trans hv
end
def Ghost.mark (Γ:Ghost) (v:Value):Ghost:={Γ with M:=fun g=>Γ.M g∨v.ownBlock=some g}
section
variable {w w0:World} {B:Nat} {xs:List Int} {Γ Γ0:Ghost} {gf i:Nat} {t:T} {v:Value} {q:Nat->Bool}
theorem Inv.putFrom (h:Inv w B xs Γ) (e:Γ.G gf=some t) (hi:i<=xs.length) (hv:Pl w B v (xs.length / 64+1) q) (hq:∀ j,q j=true↔E xs t i j):
 Inv (w.setCell ⟨gf,i,none⟩ v) B xs (Γ.mark v):=by
 have k:=(h.starts gf t e).2;obtain⟨curg,hcg⟩:=k.block;have hs:∀ b,Still w b->(w.setCell ⟨gf,i,none⟩ v).heap[b]?=w.heap[b]?:=fun b hb'=>yf9 w _ v b (fun e'=>hb'.2.2 curg (by rw[e'];exact hcg))
 refine⟨fun g' o' t' e'=>?_,fun gf' t' e'=>?_⟩
 .have hp:=h.part g' o' t' e';obtain⟨cur,hcur⟩:=hp.2.block;have hne:=zbu hcur hcg yij;refine⟨hp.1,hp.2.kept hs (fun _ _ _ h=>h) (fun _ _ h=>h) (zdj (i:=0) hcur _ v) fun j _=>zaz fun ea=>hne ?_⟩;injection ea with ea _
  exact ea.symm
 .have e2:Γ.G gf'=some t':=e';have hp:=h.starts gf' t' e2;obtain⟨cur,hcur⟩:=hp.2.block;refine⟨hp.1,zdj (i:=0) hcur _ v,fun j hj=>?_⟩
  by_cases hji:gf'=gf∧j=i
  .obtain⟨rfl,rfl⟩:=hji;rw[e] at e2;injection e2 with e2
   subst e2;obtain⟨v0,h0,_⟩:=k.cells j hj;exact⟨v,ygx _ _ _ h0,.inr ⟨q,zgs hv hs,fun g eg => .inr eg,hq⟩⟩
  .obtain⟨v0,h0,h1⟩:=hp.2.cells j hj;refine⟨v0,(zaz fun ea=>hji ?_).trans h0,?_⟩
   .injection ea with e3 e4
    exact⟨e3.symm,e4.symm⟩
   .rcases h1 with h1|⟨q0,h3,h4,h5⟩
    .exact .inl h1
    .exact .inr ⟨q0,zgs h3 hs,fun g eg => .inl (h4 g eg),h5⟩
theorem Ext.put (h:Inv w B xs Γ) (x:Ext B w0 w Γ0 Γ) (e:Γ.G gf=some t) (hn:∀ g,v.ownBlock=some g->w0.heap.size<=g):Ext B w0 (w.setCell ⟨gf,i,none⟩ v) Γ0 (Γ.mark v):=by
 have k:=h.starts gf t e;obtain⟨curg,hcg⟩:=k.2.block;refine⟨x.below.setCell (p:=⟨gf,i,none⟩) k.1 _,x.F,x.G,fun g hg => .inl (x.M g hg),fun g hg=>?_,fun b hs=>?_,fun g o t' e' j hj u hu hun=>?_,fun b cur eb hG=>?_,x.newG⟩
 .rcases hg with hg|hg
  .exact x.new g hg
  .exact .inr (hn g hg)
 .have hs':=hs.ext x;exact (yf9 w _ v b (fun e'=>hs'.2.2 curg (by rw[e'];exact hcg))).trans (x.still b hs)
 .have hp:=h.part g o t' (x.F g o t' e');obtain⟨cur,hcur⟩:=hp.2.block;have hne:=zbu hcur hcg yij;refine (zaz fun ea=>hne ?_).trans (x.stay g o t' e' j hj u hu hun);injection ea with ea _
  exact ea.symm
 .refine (yf9 w _ v b fun e'=>?_).trans (x.box b cur eb hG);have e2:b=gf:=e';subst e2;rcases x.newG _ _ e with e3|e3
  .exact hG _ e3
  .have:=za0 eb;omega
end
end
section
attribute [local go_sem ↓] Go.wp_at_zero Go.wp_at_succ
theorem Tryd.infoPart:(Tryd.prog.info? 101).map (fun i=>(i.zero,i.size,i.bytes))=some (some (.agg #[.pointer none,.slice none 0 0,.int .i64 0,.slice none 0 0]),4,64):=by kernel_rfl
def zhk (B:Nat) (w:World) (xs:List Int) (Γ:Ghost) (u:T) (e:Ending) (w':World):Prop:=
 ∃ g o Γ',e = .returned (.pointer (some ⟨g,o,none⟩))∧Γ'.F g o=some u∧Inv w' B xs Γ'∧Ext B w w' Γ Γ'∧∀ g,Γ'.M g->Γ.M g
theorem yc7 {w:World} {B:Nat} {xs:List Int} {Γ:Ghost} {g o gk:Nat} {t:T} (h:Inv w B xs Γ) (e:Γ.F g o=some t) (i:Nat) (hi:i<t.kids.length)
 (hc:w.cell? ⟨g,o+1,none⟩=some (.slice (some ⟨gk,0,none⟩) t.kids.length t.kids.length)) (hF:Γ.F gk (i*4)=some (t.kids[i]'hi)):
 Calls Tryd.prog 51 #[.pointer (some ⟨g,o,none⟩),.int .i64 i] w (zhk B w xs Γ (t.kids[i]'hi)):=by
 have hn:∀ W,(binOp .eql 98 (.slice (some ⟨gk,0,none⟩) t.kids.length t.kids.length) (.slice none 0 0)).run Tryd.prog W = .ok (.bool false) W:=fun W=>Lib.run_eql_slice_some_nil W _ _ _ Tryd.underlying98
 have HH:=Zh h;have HF:=Zh hF;have hlen:=(h.part g o t e).2.wf.len;clear h e hF;have i1:(i:Int)<(t.kids.length:Int):=yie;go_enter Tryd.func51,Tryd.ntmps51;go_wp2;go_ret;exact⟨gk,i*4,Γ,rfl,HF.o,HH.o,Ext.refl _ _ _,fun _ h=>h⟩
def zhc (ga n k:Nat):List Value:=(List.range (n*4)).map fun j=>if j % 4=0 then (if j / 4<k then Value.pointer (some ⟨ga,j / 4*8,none⟩) else Value.pointer none) else if j % 4=2 then Value.int .i64 0 else Value.slice none 0 0
theorem zg0 (ga n k:Nat):(zhc ga n k).length=n*4:=by simp[zhc]
theorem zfg (ga n k j:Nat) (h:j<n*4):(zhc ga n k)[j]?=some (if j % 4=0 then (if j / 4<k then Value.pointer (some ⟨ga,j / 4*8,none⟩) else Value.pointer none) else if j % 4=2 then Value.int .i64 0 else Value.slice none 0 0):=by simp[zhc,h]
theorem ztx (ga n k:Nat) (h:k<n):(zhc ga n k).set (k*4) (.pointer (some ⟨ga,k*8,none⟩))=zhc ga n (k+1):=by
 apply ygi;intro j;rw[ygu,zg0]
 by_cases hj:j<n*4
 .rw[zfg _ _ _ _ hj,zfg _ _ _ _ hj]
  by_cases hk:k*4=j
  .subst hk;rw[if_pos rfl,if_pos hj,if_pos yie,if_pos yie,show k*4 / 4=k by omega]
  .rw[if_neg hk]
   by_cases h4:j % 4=0
   .rw[if_pos h4,if_pos h4]
    by_cases hjk:j / 4<k
    .rw[if_pos hjk,if_pos yie]
    .rw[if_neg hjk,if_neg yie]
   .rw[if_neg h4,if_neg h4]
 .rw[yfj (by rw[zg0];omega),yfj (by rw[zg0];omega)]
  by_cases hk:k*4=j
  .omega
  .rw[if_neg hk]
theorem zqg (ga n:Nat):(madeCells (Value.agg #[.pointer none,.slice none 0 0,.int .i64 0,.slice none 0 0]).cells (n*4)).toList=zhc ga n 0:=by
 apply ygi;intro j
 by_cases hj:j<n*4
 .rw[zfg _ _ _ _ hj];have h4:j % 4=0∨j % 4=1∨j % 4=2∨j % 4=3:=yie;rcases h4 with h4|h4|h4|h4 <;> simp[madeCells,Value.cells,hj,h4]
 .rw[yfj (l:=zhc ga n 0) (by rw[zg0];omega)];simp[madeCells,hj]
theorem zy3 {w:World} {t:T} {ga n c:Nat} (h:Tree w (fun _=>True) t (.slice (some ⟨ga,0,none⟩) n c)) (hn:0<n):∃ cur,w.heap[ga]?=some (.cells cur 56 (0,0)):=by
 cases h with
 | row t g cap cur ks hg hok hn h0 hcap hmax hsize hc hk=>exact⟨cur,hg⟩
theorem yc6 {w:World} {B:Nat} {xs:List Int} {Γ:Ghost} {g o:Nat} {t:T} (h:Inv w B xs Γ) (hB:B<=w.heap.size) (e:Γ.F g o=some t) (i:Nat) (hi:i<t.kids.length)
 (hc:w.cell? ⟨g,o+1,none⟩=some (.slice none 0 0)):
 Calls Tryd.prog 51 #[.pointer (some ⟨g,o,none⟩),.int .i64 i] w (zhk B w xs Γ (t.kids[i]'hi)):=by
 have hn:∀ W,(binOp .eql 98 (.slice none 0 0) (.slice none 0 0)).run Tryd.prog W = .ok (.bool true) W:=fun W=>Lib.run_eql_slice_nil_nil W _ _ Tryd.underlying98
 have hp:=(h.part g o t e).2;have hlen:=hp.wf.len;have hwf:=hp.wf;obtain⟨gn,on,kn,n1,n2,n3,n4⟩:=hp.node;obtain⟨A,nk,ck,rfl⟩:=n3.form;obtain⟨hnk,_⟩:=n3.bound;have hn0:0<nk:=yie;have n7:=n2 7 _ rfl;obtain⟨ga,rfl⟩:∃ ga,A=some ⟨ga,0,none⟩:=by
  obtain⟨ga,_,_,_,e1,_⟩:=NodeAt.kid n3 0 yie;exact⟨ga,e1⟩
 have hgn:=n2.lt;obtain⟨i0,hi0,hz0,hz1,hz2⟩:=info_parts Tryd.infoPart;obtain⟨w1,hr,hown,hg⟩:=run_make_full (P:=Tryd.prog) w w.heap.size 98 101 i0 _ 4 Tryd.underlying98 hi0 hz0 hz1 .i64 .i64 nk (by rw[hz2];omega) yin (yez _);obtain⟨curp,hblk⟩:=hp.block;have hgw:=za0 hblk;have hb1:Below w.heap.size w w1:=(yf6 _ _).grown hg (yez _) (fun j e=>by cases e);have c1:=za4 hc hb1;have c0:=za4 n1 hb1;have hfz:∀ j,w1.frozen? ⟨g,j,none⟩=false:=fun j=>by
  have hb:=(hb1.block g hgw).trans hblk;simp[World.frozen?,hb]
 have f1:=hfz (o+1);have c7:=za4 n7 hb1;have hne:g≠gn:=by
  rintro rfl;obtain⟨cn,hcn⟩:=n4;rw[hblk] at hcn;injection hcn with hcn
  injection hcn with _ hcn
  exact absurd hcn yij
 have hsz:w.heap.size<w1.heap.size:=(yf5 hown _ rfl).2;have HOWN:=Zh hown;have HN3:=Zh n3;have HN2:=Zh n2;have HN4:=Zh n4;have HHH:=Zh h;have HE:=Zh e;have HNK:=Zh hnk;clear hfz hown h e hp n2 n3 n4 hnk hi0 hz0 hz1 hz2 hg;go_enter Tryd.func51,Tryd.ntmps51;go_wp2;have b12:w1.grownBy (w1.setCell ⟨g,o+1,none⟩ (.slice (some ⟨w.heap.size,0,none⟩) nk nk)) (some g):=⟨rfl,rfl,rfl,by simp[World.setCell],fun k _ hk=>yf9 _ _ _ _ (fun e=>hk yj3)⟩;have own2:=World.ownsRow.kept HOWN.o b12 (.inr (by simp[Value.ownBlock];omega));rw[zqg ga nk] at own2;have d0:(w1.setCell ⟨g,o+1,none⟩ (.slice (some ⟨w.heap.size,0,none⟩) nk nk)).cell? ⟨g,o,none⟩=some (.pointer (some ⟨gn,on,none⟩)):=(zaz (by intro e;injection e with _ e;omega)).trans c0;have d7:(w1.setCell ⟨g,o+1,none⟩ (.slice (some ⟨w.heap.size,0,none⟩) nk nk)).cell? ⟨gn,on+7,none⟩=some (.slice (some ⟨ga,0,none⟩) nk ck):=(zaz (by intro e;injection e with e _;exact hne e)).trans c7;have d1:(w1.setCell ⟨g,o+1,none⟩ (.slice (some ⟨w.heap.size,0,none⟩) nk nk)).cell? ⟨g,o+1,none⟩=some (.slice (some ⟨w.heap.size,0,none⟩) nk nk):=ygx _ _ _ c1;have dg:=zdj (i:=0) ((hb1.block g hgw).trans hblk) ⟨g,o+1,none⟩ (.slice (some ⟨w.heap.size,0,none⟩) nk nk);have dc:∀ q,q≠o+1->(w1.setCell ⟨g,o+1,none⟩ (.slice (some ⟨w.heap.size,0,none⟩) nk nk)).cell? ⟨g,q,none⟩=w.cell? ⟨g,q,none⟩:=fun q hq=>(zaz (by intro e;injection e with _ e;omega)).trans (hb1.cell hgw)
 have HOWN2:=Zh own2;have HB12:=Zh b12;clear own2 b12;generalize hw2:w1.setCell ⟨g,o+1,none⟩ (.slice (some ⟨w.heap.size,0,none⟩) nk nk)=w2 at *;go_loopg [28] nk (fun m' i wr=>∃ j:Nat,i = .int .i64 (j:Int)∧j<=nk∧m'=nk-j∧wr.ownsRow w.heap.size 101 4 (.slice (some ⟨w.heap.size,0,none⟩) nk nk) nk (zhc ga nk j)∧Below w.heap.size w2 wr)
 case atStart=>exact⟨0,rfl,yf8 _,rfl,HOWN2.o,yf6 _ _⟩
 case round =>
  obtain⟨j,rfl,hj,hmj,hor,hbr⟩:=hrel;have e0:=(hbr.cell (p:=⟨g,o,none⟩) hgw).trans d0;have e1:=(hbr.cell (p:=⟨g,o+1,none⟩) hgw).trans d1;have e7:=(hbr.cell (p:=⟨gn,on+7,none⟩) hgn).trans d7;have hs2:=(yf5 hor _ rfl).2;have HOR:=Zh hor;have HBR:=Zh hbr;have HMJ:=Zh hmj;clear hor hbr hmj;have hnk2:nk<=202:=by have:=HNK.o;omega
  by_cases hlt:j<nk
  .have hcell:=HOR.o.cellAt (j*4) yie;rw[zfg _ _ _ _ yie,if_pos yie] at hcell;have hf:=HOR.o.frozenAt (j*4);have hst:=HOR.o.stored (j*4) (.pointer (some ⟨ga,j*8,none⟩));rw[ztx _ _ _ hlt] at hst;have HST:=Zh hst;clear hst;go_wp2;go_region
   all_goals
    go_wp2;go_roundg (nk-(j+1))
    case measure=>have:=HMJ.o;omega
    case rel =>
     refine⟨j+1,by go_num,by omega,rfl,?_,?_⟩
     .exact HST.o.1
     .exact (HBR.o.setCell (yez _) _).drew
  .have hjn:j=nk:=yie;have hin:(i:Int)<(nk:Int):=(by have:=HNK.o;omega);go_wp2;go_ret;subst hjn;have hblkr:∀ b,b<w.heap.size->b≠g->wr.heap[b]?=w.heap[b]?:=fun b h1 h2=>(HBR.o.block b h1).trans ((HB12.o.block b (yff h1 hb1.size) (fun e=>h2 (by injection e))).trans (hb1.block b h1))
   have hst:∀ b,Still w b->wr.heap[b]?=w.heap[b]?:=fun b hs=>hblkr b hs.1 (fun e=>hs.2.1 curp (by rw[e];exact hblk))
   have hgr:wr.heap[g]?=w2.heap[g]?:=HBR.o.block g hgw;have hbe:Below B w wr:=((hb1.mono hB).trans (Below.grown (yf6 _ _) HB12.o (yfa hB (yhh hsz)) (fun k e=>by injection e with e;rw[←e];exact (HHH.o.part g o t HE.o).1))).trans (HBR.o.mono hB);have hrow:∃ cur,wr.heap[w.heap.size]?=some (.cells cur 101 (0,0)):=by
    rcases HOR.o.2 with ⟨e,_⟩|⟨g',cap',cur,e,_,hg',_⟩
    .cases e
    .injection e with e
     injection e with e
     injection e with e
     exact⟨cur,by rw[e];exact hg'⟩
   have hcl:=fun k (hk:k<j*4)=>(HOR.o.cellAt k hk).trans (zfg ga j j k hk)
   obtain⟨curn,hgan⟩:=zy3 HN3.o hn0;have hga:wr.heap[ga]?=w.heap[ga]?:=hst ga (zc3 hgan yij yij);have hnk:=HNK.o;have hlay:=HHH.o.layKids HE.o w.heap.size (yez _) hB hblkr (by obtain⟨c,h⟩:=dg;exact⟨c,hgr.trans h⟩) (fun q hq=>(HBR.o.cell (p:=⟨g,q,none⟩) hgw).trans (dc q hq)) (by rw[←hnk];exact e1) hc (fun k hk=>?_) hbe
   .exact⟨w.heap.size,i*4,Γ.row w.heap.size t,rfl,zuw Γ w.heap.size i t hi,hlay.1,hlay.2,fun _ h=>h⟩
   .obtain⟨ga',Bk,mk,dk,ek,tk,nk'⟩:=NodeAt.kid HN3.o k hk;injection ek with ek
    injection ek with ek
    subst ek;refine⟨by omega,hrow,hwf.kid (yfq hk),⟨ga,k*8,_,?_,nk'.block hga,zea tk hst,curn,hga.trans hgan⟩,.inl ?_,⟨0,?_,by omega⟩,.inl ?_⟩
    .rw[hcl (k*4) yie,if_pos yie,if_pos yie,show k*4 / 4=k by omega]
    .rw[hcl (k*4+1) yie,if_neg yie,if_neg yie]
    .rw[hcl (k*4+2) yie,if_neg yie,if_pos yie];rfl
    .rw[hcl (k*4+3) yie,if_neg yie,if_neg yie]
theorem yc5 {w:World} {B:Nat} {xs:List Int} {Γ:Ghost} {g o:Nat} {t:T} (h:Inv w B xs Γ) (hB:B<=w.heap.size) (e:Γ.F g o=some t) (i:Nat) (hi:i<t.kids.length):
 Calls Tryd.prog 51 #[.pointer (some ⟨g,o,none⟩),.int .i64 i] w (zhk B w xs Γ (t.kids[i]'hi)):=by
 rcases (h.part g o t e).2.kids with hc|⟨gk,hc,hF⟩
 .exact yc6 h hB e i hi hc
 .exact yc7 h e i hi hc (hF i hi)
end
end Go.Proofs.YtipfgpfplakhiaaDoor
