import Derived.Test.YtgbdanddbgomhaaGreatDoorMv19
import Derived.Test.YtgbdanddbgomhaaGreatDoorMv21
set_option linter.unusedVariables false
set_option linter.unusedSimpArgs false
namespace Go.Proofs.YtgbdanddbgomhaaGreatDoor
open Go Go.RowKit
section
attribute [local go_sem ↓] Go.wp_at_zero Go.wp_at_succ
structure Ghost where
 F:Nat->Nat->Option T
 G:Nat->Option T
 M:Nat->Prop
section
variable (w:World) (B:Nat) (xs:List Int) (Γ:Ghost)
structure PartOk (g o:Nat) (t:T):Prop where
 four:o % 4=0
 block:∃ cur,w.heap[g]?=some (.cells cur 80 (0,0))
 wf:WF t
 node:∃ gn on kn,w.cell? ⟨g,o,none⟩=some (.pointer (some ⟨gn,on,none⟩))∧NodeAt w gn on t kn∧Tree w (fun _=>True) t kn∧∃ cur,w.heap[gn]?=some (.cells cur 41 (0,0))
 kids:w.cell? ⟨g,o+1,none⟩=some (.slice none 0 0)∨∃ gk,w.cell? ⟨g,o+1,none⟩=some (.slice (some ⟨gk,0,none⟩) t.kids.length t.kids.length)∧∀ (i:Nat) (hi:i<t.kids.length),Γ.F gk (i*4)=some (t.kids[i]'hi)
 asked:∃ a:Nat,w.cell? ⟨g,o+2,none⟩=some (.int .i64 a)∧a<=xs.length+1
 starts:w.cell? ⟨g,o+3,none⟩=some (.slice none 0 0)∨∃ gf,w.cell? ⟨g,o+3,none⟩=some (.slice (some ⟨gf,0,none⟩) (xs.length+1) (xs.length+1))∧Γ.G gf=some t
structure FromOk (gf:Nat) (t:T):Prop where
 block:∃ cur,w.heap[gf]?=some (.cells cur 82 (0,0))
 cells:∀ i,i<=xs.length->∃ v,w.cell? ⟨gf,i,none⟩=some v∧(v = .slice none 0 0∨∃ q:Nat->Bool,Pl w B v (xs.length / 64+1) q∧(∀ g,v.ownBlock=some g->Γ.M g)∧∀ j,q j=true↔E xs t i j)
structure Inv:Prop where
 part:∀ g o t,Γ.F g o=some t->B<=g∧PartOk w xs Γ g o t
 starts:∀ gf t,Γ.G gf=some t->B<=gf∧FromOk w B xs Γ gf t
end
def Still (w:World) (b:Nat):Prop:=b<w.heap.size∧(∀ cur,w.heap[b]?≠some (.cells cur 80 (0,0)))∧∀ cur,w.heap[b]?≠some (.cells cur 82 (0,0))
theorem zav {w:World} {b:Nat} {cur:Array Value} {ty:TypeId} (h:w.heap[b]?=some (.cells cur ty (0,0))) (h1:ty≠80) (h2:ty≠82):Still w b:=
 ⟨za0 h,fun c e=>by rw[h] at e;injection e with e;injection e with _ e _;exact h1 e,fun c e=>by rw[h] at e;injection e with e;injection e with _ e _;exact h2 e⟩
structure Ext (B:Nat) (w w':World) (Γ Γ':Ghost):Prop where
 below:Below B w w'
 F:∀ g o t,Γ.F g o=some t->Γ'.F g o=some t
 G:∀ g t,Γ.G g=some t->Γ'.G g=some t
 M:∀ g,Γ.M g->Γ'.M g
 new:∀ g,Γ'.M g->Γ.M g∨w.heap.size<=g
 still:∀ b,Still w b->w'.heap[b]?=w.heap[b]?
 stay:∀ g o t,Γ.F g o=some t->∀ j,j=1∨j=3->∀ v,w.cell? ⟨g,o+j,none⟩=some v->v ≠ .slice none 0 0->w'.cell? ⟨g,o+j,none⟩=some v
 box:∀ (b:Nat) (cur:Array Value),w.heap[b]?=some (.cells cur 82 (0,0))->(∀ t,Γ.G b≠some t)->w'.heap[b]?=w.heap[b]?
 newG:∀ g t,Γ'.G g=some t->Γ.G g=some t∨w.heap.size<=g
theorem Ext.refl (B:Nat) (w:World) (Γ:Ghost):Ext B w w Γ Γ:=⟨Below.refl _ _,fun _ _ _ h=>h,fun _ _ h=>h,fun _ h=>h,fun _ h => .inl h,fun _ _=>rfl,fun _ _ _ _ _ _ _ h _=>h,fun _ _ _ _=>rfl,fun _ _ e => .inl e⟩
theorem Still.ext {B:Nat} {w w':World} {Γ Γ':Ghost} {b:Nat} (h:Ext B w w' Γ Γ') (hs:Still w b):Still w' b:=by
 have e:=h.still b hs;exact⟨Nat.lt_of_lt_of_le hs.1 h.below.size,fun c=>by rw[e];exact hs.2.1 c,fun c=>by rw[e];exact hs.2.2 c⟩
theorem Ext.trans {B:Nat} {w w' w'':World} {Γ Γ' Γ'':Ghost} (h:Ext B w w' Γ Γ') (k:Ext B w' w'' Γ' Γ''):Ext B w w'' Γ Γ'':=
 ⟨h.below.trans k.below,fun g o t e=>k.F g o t (h.F g o t e),fun g t e=>k.G g t (h.G g t e),fun g e=>k.M g (h.M g e),fun g e=>by
   rcases k.new g e with e|e
   . exact h.new g e
   . exact .inr (Nat.le_trans h.below.size e),fun b hs=>(k.still b (hs.ext h)).trans (h.still b hs),fun g o t e j hj v hv hn=>k.stay g o t (h.F g o t e) j hj v (h.stay g o t e j hj v hv hn) hn,fun b cur e hG=>by
   have e1:=h.box b cur e hG;refine (k.box b cur (e1.trans e) fun t e2=>?_).trans e1;rcases h.newG b t e2 with e2|e2
   . exact hG t e2
   . have:=za0 e;omega,fun g t e=>by
   rcases k.newG g t e with e|e
   . exact h.newG g t e
   . exact .inr (Nat.le_trans h.below.size e)⟩
theorem Tree.ext {B:Nat} {w w':World} {Γ Γ':Ghost} {t:T} {k:Value} (ht:Tree w (fun _=>True) t k) (h:Ext B w w' Γ Γ'):Tree w' (fun _=>True) t k:=
 ht.mono fun b _ _ ⟨cur,e⟩=>⟨h.still b (zav e (by decide) (by decide)),trivial⟩
theorem Pl.ext {B C m:Nat} {w w':World} {Γ Γ':Ghost} {v:Value} {q:Nat->Bool} (hp:Pl w C v m q) (h:Ext B w w' Γ Γ'):Pl w' C v m q:=by
 refine⟨hp.1,?_⟩;rcases hp.2 with hn|⟨g,cap,cur,rfl,hb,hg,rest⟩
 . exact .inl hn
 . exact .inr ⟨g,cap,cur,rfl,hb,(h.still g (zav hg (by decide) (by decide))).trans hg,rest⟩
section
variable {w w':World} {B:Nat} {xs:List Int} {Γ Γ':Ghost} {g o:Nat} {t:T}
theorem zbs {k:Value} (ht:Tree w (fun _=>True) t k) (hs:∀ b,Still w b->w'.heap[b]?=w.heap[b]?):Tree w' (fun _=>True) t k:=
 ht.mono fun b _ _ ⟨cur,e⟩=>⟨hs b (zav e (by decide) (by decide)),trivial⟩
theorem zd5 {C m:Nat} {v:Value} {q:Nat->Bool} (hp:Pl w C v m q) (hs:∀ b,Still w b->w'.heap[b]?=w.heap[b]?):Pl w' C v m q:=by
 refine⟨hp.1,?_⟩;rcases hp.2 with hn|⟨g,cap,cur,rfl,hb,hg,rest⟩
 . exact .inl hn
 . exact .inr ⟨g,cap,cur,rfl,hb,(hs g (zav hg (by decide) (by decide))).trans hg,rest⟩
theorem PartOk.kept (h:PartOk w xs Γ g o t) (hs:∀ b,Still w b->w'.heap[b]?=w.heap[b]?) (hF:∀ g o t,Γ.F g o=some t->Γ'.F g o=some t) (hG:∀ g t,Γ.G g=some t->Γ'.G g=some t)
   (hb:∃ cur,w'.heap[g]?=some (.cells cur 80 (0,0))) (hc:∀ j,j<4->w'.cell? ⟨g,o+j,none⟩=w.cell? ⟨g,o+j,none⟩):PartOk w' xs Γ' g o t:=by
 obtain⟨gn,on,kn,h1,h2,h3,cur,h4⟩:=h.node;have e:=hs gn (zav h4 (by decide) (by decide));refine⟨h.four,hb,h.wf,⟨gn,on,kn,(hc 0 (by omega)).trans h1,h2.block e,zbs h3 hs,cur,e.trans h4⟩,?_,?_,?_⟩
 . rcases h.kids with k|⟨gk,k1,k2⟩
   . exact .inl ((hc 1 (by omega)).trans k)
   . exact .inr ⟨gk,(hc 1 (by omega)).trans k1,fun i hi=>hF _ _ _ (k2 i hi)⟩
 . obtain⟨a,a1,a2⟩:=h.asked;exact⟨a,(hc 2 (by omega)).trans a1,a2⟩
 . rcases h.starts with k|⟨gf,k1,k2⟩
   . exact .inl ((hc 3 (by omega)).trans k)
   . exact .inr ⟨gf,(hc 3 (by omega)).trans k1,hG _ _ k2⟩
theorem FromOk.kept (h:FromOk w B xs Γ g t) (hs:∀ b,Still w b->w'.heap[b]?=w.heap[b]?) (hM:∀ g,Γ.M g->Γ'.M g)
   (hb:∃ cur,w'.heap[g]?=some (.cells cur 82 (0,0))) (hc:∀ i,i<=xs.length->w'.cell? ⟨g,i,none⟩=w.cell? ⟨g,i,none⟩):FromOk w' B xs Γ' g t:=by
 refine⟨hb,fun i hi=>?_⟩;obtain⟨v,h1,h2⟩:=h.cells i hi;refine⟨v,(hc i hi).trans h1,?_⟩;rcases h2 with h2|⟨q,h3,h4,h5⟩
 . exact .inl h2
 . exact .inr ⟨q,zd5 h3 hs,fun g e=>hM g (h4 g e),h5⟩
theorem Inv.stays (h:Inv w B xs Γ) (hb:Below w.heap.size w w'):Inv w' B xs Γ:=by
 have hs:∀ b,Still w b->w'.heap[b]?=w.heap[b]?:=fun b hb'=>hb.block b hb'.1
 refine⟨fun g o t e=>?_,fun gf t e=>?_⟩
 . obtain⟨h1,h2⟩:=h.part g o t e;obtain⟨cur,hc⟩:=h2.block;have hg:=za0 hc;exact⟨h1,h2.kept hs (fun _ _ _ h=>h) (fun _ _ h=>h) ⟨cur,(hb.block g hg).trans hc⟩ fun j _=>hb.cell (p:=⟨g,o+j,none⟩) hg⟩
 . obtain⟨h1,h2⟩:=h.starts gf t e;obtain⟨cur,hc⟩:=h2.block;have hg:=za0 hc;exact⟨h1,h2.kept hs (fun _ h=>h) ⟨cur,(hb.block gf hg).trans hc⟩ fun i _=>hb.cell (p:=⟨gf,i,none⟩) hg⟩
theorem Ext.stays (Γ:Ghost) (hb:Below w.heap.size w w') (hB:B<=w.heap.size):Ext B w w' Γ Γ:=
 ⟨hb.mono hB,fun _ _ _ h=>h,fun _ _ h=>h,fun _ h=>h,fun _ h => .inl h,fun b hs=>hb.block b hs.1,fun g o t _ j _ v hv _=>za4 hv hb,fun b cur e _=>hb.block b (za0 e),fun _ _ e => .inl e⟩
theorem zjd {g' o' j k:Nat} (h:o % 4=0) (h':o' % 4=0) (hj:j<4) (hk:k<4) (e:(⟨g,o+j,none⟩:Addr)=⟨g',o'+k,none⟩):g=g'∧o=o'∧j=k:=by
 injection e with e1 e2
 omega
theorem zat {b c:Nat} {cur cur':Array Value} {ty ty':TypeId} (h:w.heap[b]?=some (.cells cur ty (0,0))) (h':w.heap[c]?=some (.cells cur' ty' (0,0))) (hne:ty≠ty'):b≠c:=by
 intro e;subst e;rw[h] at h';injection h' with h'
 injection h' with _ e _
 exact hne e
theorem zbh {b i:Nat} {cur:Array Value} {ty:TypeId} (h:w.heap[b]?=some (.cells cur ty (0,0))) (p:Addr) (v:Value):∃ cur',(w.setCell p v).heap[b]?=some (.cells cur' ty (0,0)):=by
 by_cases e:b=p.block
 . subst e;exact⟨_,by simp[World.setCell,Array.getElem?_modify,h];rfl⟩
 . exact⟨cur,(Below.heap_setCell w p v b e).trans h⟩
theorem zad {a b:Addr} {v:Value} (h:a≠b):(w.setCell a v).cell? b=w.cell? b:=by
 rw[World.cell?_setCell_other];exact h
theorem zd3 (h:Inv w B xs Γ) (e:Γ.F g o=some t) (j:Nat) (v:Value) (b:Nat) (hs:Still w b):(w.setCell ⟨g,j,none⟩ v).heap[b]?=w.heap[b]?:=by
 obtain⟨cur,hc⟩:=(h.part g o t e).2.block;exact Below.heap_setCell w _ v b (fun e'=>hs.2.1 cur (by rw[e'];exact hc))
theorem zj3 {gf:Nat} (h:Inv w B xs Γ) (e:Γ.G gf=some t) (j:Nat) (v:Value) (b:Nat) (hs:Still w b):(w.setCell ⟨gf,j,none⟩ v).heap[b]?=w.heap[b]?:=by
 obtain⟨cur,hc⟩:=(h.starts gf t e).2.block;exact Below.heap_setCell w _ v b (fun e'=>hs.2.2 cur (by rw[e'];exact hc))
theorem zl1 {g' o' j:Nat} {t':T} (h:Inv w B xs Γ) (e:Γ.F g o=some t) (e':Γ.F g' o'=some t') (hne:¬ (g'=g∧o'=o)) (hj:j<4) (v:Value) (hF:∀ g o t,Γ.F g o=some t->Γ'.F g o=some t) (hG:∀ g t,Γ.G g=some t->Γ'.G g=some t):
   PartOk (w.setCell ⟨g,o+j,none⟩ v) xs Γ' g' o' t':=by
 have k:=(h.part g o t e).2;have k':=(h.part g' o' t' e').2;obtain⟨cur,hc⟩:=k'.block;refine k'.kept (zd3 h e _ v) hF hG (zbh (i:=0) hc _ v) fun i hi=>zad fun ea=>hne ?_
 have:=zjd k.four k'.four hj hi ea;exact⟨this.1.symm,this.2.1.symm⟩
theorem zl2 {gf j:Nat} {t':T} (h:Inv w B xs Γ) (e:Γ.F g o=some t) (e':Γ.G gf=some t') (v:Value) (hM:∀ g,Γ.M g->Γ'.M g):FromOk (w.setCell ⟨g,j,none⟩ v) B xs Γ' gf t':=by
 have k:=(h.part g o t e).2;have k':=(h.starts gf t' e').2;obtain⟨cur,hc⟩:=k.block;obtain⟨cur',hc'⟩:=k'.block;have hne:=zat hc hc' (by decide);exact k'.kept (zd3 h e _ v) hM (zbh (i:=0) hc' _ v) fun i hi=>zad fun ea=>hne (by injection ea)
theorem Inv.ask (h:Inv w B xs Γ) (e:Γ.F g o=some t) (a:Nat) (ha:a<=xs.length+1):Inv (w.setCell ⟨g,o+2,none⟩ (.int .i64 a)) B xs Γ∧Ext B w (w.setCell ⟨g,o+2,none⟩ (.int .i64 a)) Γ Γ:=by
 have k:=(h.part g o t e).2;have kB:=(h.part g o t e).1;have hid:∀ g o t,Γ.F g o=some t->Γ.F g o=some t:=fun _ _ _ h=>h
 have hid2:∀ g t,Γ.G g=some t->Γ.G g=some t:=fun _ _ h=>h
 refine⟨⟨fun g' o' t' e'=>?_,fun gf t' e'=>⟨(h.starts gf t' e').1,zl2 h e e' _ fun _ h=>h⟩⟩,?_⟩
 . refine⟨(h.part g' o' t' e').1,?_⟩
   by_cases hne:g'=g∧o'=o
   . obtain⟨rfl,rfl⟩:=hne;rw[e] at e';injection e' with e'
     subst e';obtain⟨cur,hc⟩:=k.block;have hs:=zd3 h e (o'+2) (.int .i64 a);have hcell:∀ j,j<4->j≠2->(w.setCell ⟨g',o'+2,none⟩ (.int .i64 a)).cell? ⟨g',o'+j,none⟩=w.cell? ⟨g',o'+j,none⟩:=fun j hj hj2=>zad fun ea=>by injection ea;omega
     obtain⟨gn,on,kn,h1,h2,h3,cur2,h4⟩:=k.node;have en:=hs gn (zav h4 (by decide) (by decide));obtain⟨a0,h5,_⟩:=k.asked;refine⟨k.four,zbh (i:=0) hc _ _,k.wf,⟨gn,on,kn,(hcell 0 (by omega) (by omega)).trans h1,h2.block en,zbs h3 hs,cur2,en.trans h4⟩,?_,⟨a,World.cell?_setCell_same _ _ _ h5,ha⟩,?_⟩
     . rcases k.kids with k1|⟨gk,k1,k2⟩
       . exact .inl ((hcell 1 (by omega) (by omega)).trans k1)
       . exact .inr ⟨gk,(hcell 1 (by omega) (by omega)).trans k1,k2⟩
     . rcases k.starts with k1|⟨gf,k1,k2⟩
       . exact .inl ((hcell 3 (by omega) (by omega)).trans k1)
       . exact .inr ⟨gf,(hcell 3 (by omega) (by omega)).trans k1,k2⟩
   . exact zl1 h e e' hne (by omega) _ hid hid2
 . refine⟨(Below.refl _ _).setCell (p:=⟨g,o+2,none⟩) kB _,hid,hid2,fun _ h=>h,fun _ h => .inl h,zd3 h e _ _,fun g' o' t' e' j hj v hv hn=>?_,fun b cur eb _=>Below.heap_setCell w _ _ b (zat eb k.block.choose_spec (by decide)),fun _ _ e => .inl e⟩;rw[zad]
   . exact hv
   . intro ea;have:=zjd k.four (h.part g' o' t' e').2.four (by omega) (show j<4 by omega) ea;omega
def Ghost.row (Γ:Ghost) (gk:Nat) (t:T):Ghost:={Γ with F:=fun g o=>if g=gk then (if o % 4=0 then t.kids[o / 4]? else none) else Γ.F g o}
theorem zmp (Γ:Ghost) (gk i:Nat) (t:T) (hi:i<t.kids.length):(Γ.row gk t).F gk (i*4)=some (t.kids[i]'hi):=by
 simp[Ghost.row,hi]
theorem Inv.old (h:Inv w B xs Γ) (e:Γ.F g o=some t):g<w.heap.size:=by
 obtain⟨cur,hc⟩:=(h.part g o t e).2.block;exact za0 hc
theorem Inv.layKids (h:Inv w B xs Γ) (e:Γ.F g o=some t) (gk:Nat) (hgk:w.heap.size<=gk) (hB:B<=w.heap.size)
   (hblk:∀ b,b<w.heap.size->b≠g->w'.heap[b]?=w.heap[b]?) (hg:∃ cur,w'.heap[g]?=some (.cells cur 80 (0,0)))
   (hc:∀ j,j≠o+1->w'.cell? ⟨g,j,none⟩=w.cell? ⟨g,j,none⟩) (hc1:w'.cell? ⟨g,o+1,none⟩=some (.slice (some ⟨gk,0,none⟩) t.kids.length t.kids.length))
   (hold:w.cell? ⟨g,o+1,none⟩=some (.slice none 0 0)) (hk:∀ (i:Nat) (hi:i<t.kids.length),PartOk w' xs Γ gk (i*4) (t.kids[i]'hi)) (hb:Below B w w'):
   Inv w' B xs (Γ.row gk t)∧Ext B w w' Γ (Γ.row gk t):=by
 have k:=(h.part g o t e).2;obtain⟨curg,hcg⟩:=k.block;have hF:∀ g o t',Γ.F g o=some t'->(Γ.row gk t).F g o=some t':=fun g' o' t' e'=>by
   have:=h.old e';unfold Ghost.row;simp only;rw[if_neg (by omega)];exact e'
 have hs:∀ b,Still w b->w'.heap[b]?=w.heap[b]?:=fun b hb'=>hblk b hb'.1 (fun e'=>hb'.2.1 curg (by rw[e'];exact hcg))
 have hcells:∀ g' o' t',Γ.F g' o'=some t'->¬ (g'=g∧o'=o)->∀ j,j<4->w'.cell? ⟨g',o'+j,none⟩=w.cell? ⟨g',o'+j,none⟩:=fun g' o' t' e' hne j hj=>by
   by_cases hgg:g'=g
   . subst hgg;refine hc _ ?_;have h1:=(h.part g' o' t' e').2.four;have h2:=k.four;intro e2;exact hne ⟨rfl,by omega⟩
   . exact World.cell?_of_block (w:=w) (a:=⟨g',o'+j,none⟩) (hblk g' (h.old e') hgg)
 refine⟨⟨fun g' o' t' e'=>?_,fun gf t' e'=>?_⟩,⟨hb,hF,fun _ _ h=>h,fun _ h=>h,fun _ h => .inl h,hs,fun g' o' t' e' j hj v hv hn=>?_,fun b cur eb _=>hblk b (za0 eb) (zat eb hcg (by decide)),fun _ _ e => .inl e⟩⟩
 . by_cases hgk':g'=gk
   . subst hgk';unfold Ghost.row at e';simp only[if_true] at e'
     by_cases h4:o' % 4=0
     . rw[if_pos h4] at e';obtain⟨hi,e2⟩:=List.getElem?_eq_some_iff.1 e';have hp:=hk (o' / 4) hi;rw[e2,show o' / 4*4=o' by omega] at hp;obtain⟨cur,hcur⟩:=hp.block;exact⟨by omega,hp.kept (fun _ _=>rfl) hF (fun _ _ h=>h) ⟨cur,hcur⟩ fun _ _=>rfl⟩
     . rw[if_neg h4] at e';cases e'
   . have e2:Γ.F g' o'=some t':=by
       unfold Ghost.row at e';simp only at e'
       rwa [if_neg hgk'] at e'
     refine⟨(h.part g' o' t' e2).1,?_⟩;have hp:=(h.part g' o' t' e2).2
     by_cases hne:g'=g∧o'=o
     . obtain⟨rfl,rfl⟩:=hne;rw[e] at e2;injection e2 with e2
       subst e2;obtain⟨gn,on,kn,h1,h2,h3,cur2,h4⟩:=k.node;have en:=hs gn (zav h4 (by decide) (by decide));obtain⟨a,a1,a2⟩:=k.asked;refine⟨k.four,hg,k.wf,⟨gn,on,kn,(hc _ (by omega)).trans h1,h2.block en,zbs h3 hs,cur2,en.trans h4⟩,.inr ⟨gk,hc1,fun i hi=>zmp Γ gk i t hi⟩,⟨a,(hc _ (by omega)).trans a1,a2⟩,?_⟩;rcases k.starts with k1|⟨gf,k1,k2⟩
       . exact .inl ((hc _ (by omega)).trans k1)
       . exact .inr ⟨gf,(hc _ (by omega)).trans k1,k2⟩
     . refine hp.kept hs hF (fun _ _ h=>h) ?_ (hcells g' o' t' e2 hne);obtain⟨cur,hcur⟩:=hp.block
       by_cases hgg:g'=g
       . rw[hgg];exact hg
       . exact⟨cur,(hblk g' (h.old e2) hgg).trans hcur⟩
 . have hp:=h.starts gf t' e';obtain⟨cur,hcur⟩:=hp.2.block;have hne:=zat hcur hcg (by decide);have heq:=hblk gf (za0 hcur) hne;exact⟨hp.1,hp.2.kept hs (fun _ h=>h) ⟨cur,heq.trans hcur⟩ fun i _=>World.cell?_of_block (w:=w) (a:=⟨gf,i,none⟩) heq⟩
 . by_cases hne:g'=g∧o'=o
   . obtain⟨rfl,rfl⟩:=hne;rcases hj with rfl|rfl
     . rw[hold] at hv;injection hv with hv
       exact absurd hv.symm hn
     . exact (hc _ (by omega)).trans hv
   . exact (hcells g' o' t' e' hne j (by omega)).trans hv
end
end
section
attribute [local go_sem ↓] Go.wp_at_zero Go.wp_at_succ
set_option maxHeartbeats 1000000 in
theorem least_p {t:T} {k:Value} {ok:Nat->Prop} (w:World) (hwf:WF t) (ht:Tree w ok t k):Calls Tryz.prog 12 #[nodeP t k] w (RetInt w (lenN false t)):=by
 obtain⟨A,n',c,rfl⟩:=ht.form;have hk:=(zmk (w.alloc (.cells #[.int .i64 t.op,.int .u64 (word t.set 0),.int .u64 (word t.set 1),.int .u64 (word t.set 2),.int .u64 (word t.set 3),.int .i64 t.lo,.int .i64 t.hi,.slice A n' c] 41)) 1000 (by omega) (by omega) w.heap.size 0 hwf (ht.alloc _) (Box8.new w t (.slice A n' c)).nodeAt);rw[show ((1000:Nat):Int)=1000 from rfl] at hk;have hK:=Zh hk;clear hk;rw[zim false hwf];unfold RetTwo at hK;unfold nodeP;clear ht hwf;go_enter Tryz.func12,Tryz.ntmps12;go_wp2_with (go_at_call 28;(with_reducible refine hK.out.mono ?_);rintro e w5 ⟨rfl,hb5⟩);go_ret;exact⟨rfl,gro1 (Below.refl _ _) hb5⟩
set_option maxHeartbeats 1000000 in
theorem zjj {t:T} {k:Value} {ok:Nat->Prop} (w:World) (hwf:WF t) (ht:Tree w ok t k):Calls Tryz.prog 11 #[nodeP t k] w (RetInt w (lenN true t)):=by
 obtain⟨A,n',c,rfl⟩:=ht.form;have hk:=(zmk (w.alloc (.cells #[.int .i64 t.op,.int .u64 (word t.set 0),.int .u64 (word t.set 1),.int .u64 (word t.set 2),.int .u64 (word t.set 3),.int .i64 t.lo,.int .i64 t.hi,.slice A n' c] 41)) 1000 (by omega) (by omega) w.heap.size 0 hwf (ht.alloc _) (Box8.new w t (.slice A n' c)).nodeAt);rw[show ((1000:Nat):Int)=1000 from rfl] at hk;have hK:=Zh hk;clear hk;rw[zim true hwf];unfold RetTwo at hK;unfold nodeP;clear ht hwf;go_enter Tryz.func11,Tryz.ntmps11;go_wp2_with (go_at_call 28;(with_reducible refine hK.out.mono ?_);rintro e w5 ⟨rfl,hb5⟩);go_ret;exact⟨rfl,gro1 (Below.refl _ _) hb5⟩
end
end Go.Proofs.YtgbdanddbgomhaaGreatDoor
