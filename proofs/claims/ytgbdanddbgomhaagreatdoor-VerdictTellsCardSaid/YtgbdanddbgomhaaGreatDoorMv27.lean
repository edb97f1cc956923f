import Derived.Test.YtgbdanddbgomhaaGreatDoorMv24
set_option linter.unusedVariables false
set_option linter.unusedSimpArgs false
namespace Go.Proofs.YtgbdanddbgomhaaGreatDoor
open Go Go.RowKit
section
def Ghost.list (Γ:Ghost) (gf:Nat) (t:T):Ghost:={Γ with G:=fun g=>if g=gf then some t else Γ.G g}
section
variable {w w':World} {B:Nat} {xs:List Int} {Γ:Ghost} {g o:Nat} {t:T}
theorem Inv.oldG {gf:Nat} (h:Inv w B xs Γ) (e:Γ.G gf=some t):gf<w.heap.size:=by
 obtain⟨cur,hc⟩:=(h.starts gf t e).2.block;exact za0 hc
theorem Inv.layFrom (h:Inv w B xs Γ) (e:Γ.F g o=some t) (gf:Nat) (hgf:w.heap.size<=gf) (hB:B<=w.heap.size)
   (hblk:∀ b,b<w.heap.size->b≠g->w'.heap[b]?=w.heap[b]?) (hg:∃ cur,w'.heap[g]?=some (.cells cur 80 (0,0)))
   (hc:∀ j,j≠o+3->w'.cell? ⟨g,j,none⟩=w.cell? ⟨g,j,none⟩) (hc1:w'.cell? ⟨g,o+3,none⟩=some (.slice (some ⟨gf,0,none⟩) (xs.length+1) (xs.length+1)))
   (hold:w.cell? ⟨g,o+3,none⟩=some (.slice none 0 0)) (hk:FromOk w' B xs Γ gf t) (hb:Below B w w'):
   Inv w' B xs (Γ.list gf t)∧Ext B w w' Γ (Γ.list gf t):=by
 have k:=(h.part g o t e).2;obtain⟨curg,hcg⟩:=k.block;have hG:∀ g' t',Γ.G g'=some t'->(Γ.list gf t).G g'=some t':=fun g' t' e'=>by
   have:=h.oldG e';unfold Ghost.list;simp only;rw[if_neg (by omega)];exact e'
 have hs:∀ b,Still w b->w'.heap[b]?=w.heap[b]?:=fun b hb'=>hblk b hb'.1 (fun e'=>hb'.2.1 curg (by rw[e'];exact hcg))
 have hcells:∀ g' o' t',Γ.F g' o'=some t'->¬ (g'=g∧o'=o)->∀ j,j<4->w'.cell? ⟨g',o'+j,none⟩=w.cell? ⟨g',o'+j,none⟩:=fun g' o' t' e' hne j hj=>by
   by_cases hgg:g'=g
   . subst hgg;refine hc _ ?_;have h1:=(h.part g' o' t' e').2.four;have h2:=k.four;intro e2;exact hne ⟨rfl,by omega⟩
   . exact World.cell?_of_block (w:=w) (a:=⟨g',o'+j,none⟩) (hblk g' (h.old e') hgg)
 refine⟨⟨fun g' o' t' e2=>?_,fun gf' t' e'=>?_⟩,⟨hb,fun _ _ _ h=>h,hG,fun _ h=>h,fun _ h => .inl h,hs,fun g' o' t' e' j hj v hv hn=>?_,fun b cur eb _=>hblk b (za0 eb) (zat eb hcg (by decide)),fun g' t' e'=>by
   by_cases hgg:g'=gf
   . exact .inr (by omega)
   . exact .inl (by simpa [Ghost.list,hgg] using e')⟩⟩
 . refine⟨(h.part g' o' t' e2).1,?_⟩;have hp:=(h.part g' o' t' e2).2
   by_cases hne:g'=g∧o'=o
   . obtain⟨rfl,rfl⟩:=hne;have e3:t=t':=by
       have e4:Γ.F g' o'=some t':=e2;rw[e] at e4;injection e4
     subst e3;obtain⟨gn,on,kn,h1,h2,h3,cur2,h4⟩:=k.node;have en:=hs gn (zav h4 (by decide) (by decide));obtain⟨a,a1,a2⟩:=k.asked;refine⟨k.four,hg,k.wf,⟨gn,on,kn,(hc _ (by omega)).trans h1,h2.block en,zbs h3 hs,cur2,en.trans h4⟩,?_,⟨a,(hc _ (by omega)).trans a1,a2⟩,.inr ⟨gf,hc1,by simp[Ghost.list]⟩⟩;rcases k.kids with k1|⟨gk,k1,k2⟩
     . exact .inl ((hc _ (by omega)).trans k1)
     . exact .inr ⟨gk,(hc _ (by omega)).trans k1,k2⟩
   . refine hp.kept hs (fun _ _ _ h=>h) hG ?_ (hcells g' o' t' e2 hne);obtain⟨cur,hcur⟩:=hp.block
     by_cases hgg:g'=g
     . rw[hgg];exact hg
     . exact⟨cur,(hblk g' (h.old e2) hgg).trans hcur⟩
 . by_cases hgg:gf'=gf
   . subst hgg;simp only[Ghost.list,if_true] at e';injection e' with e'
     subst e';exact⟨by omega,hk.kept (fun _ _=>rfl) (fun _ h=>h) hk.block fun _ _=>rfl⟩
   . have e2:Γ.G gf'=some t':=by
       unfold Ghost.list at e';simp only at e'
       rwa [if_neg hgg] at e'
     have hp:=h.starts gf' t' e2;obtain⟨cur,hcur⟩:=hp.2.block;have hne:=zat hcur hcg (by decide);have heq:=hblk gf' (za0 hcur) hne;exact⟨hp.1,hp.2.kept hs (fun _ h=>h) ⟨cur,heq.trans hcur⟩ fun i _=>World.cell?_of_block (w:=w) (a:=⟨gf',i,none⟩) heq⟩
 . by_cases hne:g'=g∧o'=o
   . obtain⟨rfl,rfl⟩:=hne;rcases hj with rfl|rfl
     . exact (hc _ (by omega)).trans hv
     . rw[hold] at hv;injection hv with hv
       exact absurd hv.symm hn
   . exact (hcells g' o' t' e' hne j (by omega)).trans hv
end
def Ghost.mark (Γ:Ghost) (v:Value):Ghost:={Γ with M:=fun g=>Γ.M g∨v.ownBlock=some g}
section
variable {w w0:World} {B:Nat} {xs:List Int} {Γ Γ0:Ghost} {gf i:Nat} {t:T} {v:Value} {q:Nat->Bool}
theorem Inv.putFrom (h:Inv w B xs Γ) (e:Γ.G gf=some t) (hi:i<=xs.length) (hv:Pl w B v (xs.length / 64+1) q) (hq:∀ j,q j=true↔E xs t i j):
   Inv (w.setCell ⟨gf,i,none⟩ v) B xs (Γ.mark v):=by
 have k:=(h.starts gf t e).2;obtain⟨curg,hcg⟩:=k.block;have hs:∀ b,Still w b->(w.setCell ⟨gf,i,none⟩ v).heap[b]?=w.heap[b]?:=fun b hb'=>Below.heap_setCell w _ v b (fun e'=>hb'.2.2 curg (by rw[e'];exact hcg))
 refine⟨fun g' o' t' e'=>?_,fun gf' t' e'=>?_⟩
 . have hp:=h.part g' o' t' e';obtain⟨cur,hcur⟩:=hp.2.block;have hne:=zat hcur hcg (by decide);refine⟨hp.1,hp.2.kept hs (fun _ _ _ h=>h) (fun _ _ h=>h) (zbh (i:=0) hcur _ v) fun j _=>zad fun ea=>hne ?_⟩;injection ea with ea _
   exact ea.symm
 . have e2:Γ.G gf'=some t':=e';have hp:=h.starts gf' t' e2;obtain⟨cur,hcur⟩:=hp.2.block;refine⟨hp.1,zbh (i:=0) hcur _ v,fun j hj=>?_⟩
   by_cases hji:gf'=gf∧j=i
   . obtain⟨rfl,rfl⟩:=hji;rw[e] at e2;injection e2 with e2
     subst e2;obtain⟨v0,h0,_⟩:=k.cells j hj;exact⟨v,World.cell?_setCell_same _ _ _ h0,.inr ⟨q,zd5 hv hs,fun g eg => .inr eg,hq⟩⟩
   . obtain⟨v0,h0,h1⟩:=hp.2.cells j hj;refine⟨v0,(zad fun ea=>hji ?_).trans h0,?_⟩
     . injection ea with e3 e4
       exact⟨e3.symm,e4.symm⟩
     . rcases h1 with h1|⟨q0,h3,h4,h5⟩
       . exact .inl h1
       . exact .inr ⟨q0,zd5 h3 hs,fun g eg => .inl (h4 g eg),h5⟩
theorem Ext.put (h:Inv w B xs Γ) (x:Ext B w0 w Γ0 Γ) (e:Γ.G gf=some t) (hn:∀ g,v.ownBlock=some g->w0.heap.size<=g):Ext B w0 (w.setCell ⟨gf,i,none⟩ v) Γ0 (Γ.mark v):=by
 have k:=h.starts gf t e;obtain⟨curg,hcg⟩:=k.2.block;refine⟨x.below.setCell (p:=⟨gf,i,none⟩) k.1 _,x.F,x.G,fun g hg => .inl (x.M g hg),fun g hg=>?_,fun b hs=>?_,fun g o t' e' j hj u hu hun=>?_,fun b cur eb hG=>?_,x.newG⟩
 . rcases hg with hg|hg
   . exact x.new g hg
   . exact .inr (hn g hg)
 . have hs':=hs.ext x;exact (Below.heap_setCell w _ v b (fun e'=>hs'.2.2 curg (by rw[e'];exact hcg))).trans (x.still b hs)
 . have hp:=h.part g o t' (x.F g o t' e');obtain⟨cur,hcur⟩:=hp.2.block;have hne:=zat hcur hcg (by decide);refine (zad fun ea=>hne ?_).trans (x.stay g o t' e' j hj u hu hun);injection ea with ea _
   exact ea.symm
 . refine (Below.heap_setCell w _ v b fun e'=>?_).trans (x.box b cur eb hG);have e2:b=gf:=e';subst e2;rcases x.newG _ _ e with e3|e3
   . exact hG _ e3
   . have:=za0 eb;omega
end
end
section
section
variable {w w':World} {B:Nat} {xs:List Int} {Γ:Ghost} {g o gr:Nat} {t:T} {curr:Array Value}
theorem PartOk.own (h:PartOk w xs Γ g o t) (hb:∀ b,b<w.heap.size->b≠gr->w'.heap[b]?=w.heap[b]?) (hc:w.heap[gr]?=some (.cells curr 22 (0,0))):PartOk w' xs Γ g o t:=by
 obtain⟨gn,on,kn,h1,h2,h3,curn,h4⟩:=h.node;obtain⟨curp,hp⟩:=h.block;have eg:=hb g (za0 hp) (zat hp hc (by decide));have en:=hb gn (za0 h4) (zat h4 hc (by decide));have hcell:∀ j,w'.cell? ⟨g,j,none⟩=w.cell? ⟨g,j,none⟩:=fun j=>World.cell?_of_block (w:=w) (a:=⟨g,j,none⟩) eg
 refine⟨h.four,⟨curp,eg.trans hp⟩,h.wf,⟨gn,on,kn,(hcell _).trans h1,h2.block en,h3.mono fun b _ _ ⟨cur,e⟩=>⟨hb b (za0 e) (zat e hc (by decide)),trivial⟩,curn,en.trans h4⟩,?_,?_,?_⟩
 . rcases h.kids with k|⟨gk,k1,k2⟩
   . exact .inl ((hcell _).trans k)
   . exact .inr ⟨gk,(hcell _).trans k1,k2⟩
 . obtain⟨a,a1,a2⟩:=h.asked;exact⟨a,(hcell _).trans a1,a2⟩
 . rcases h.starts with k|⟨gf,k1,k2⟩
   . exact .inl ((hcell _).trans k)
   . exact .inr ⟨gf,(hcell _).trans k1,k2⟩
theorem Pl.other {C m:Nat} {v:Value} {q:Nat->Bool} (hp:Pl w C v m q) (hb:∀ b,b<w.heap.size->b≠gr->w'.heap[b]?=w.heap[b]?) (hne:v.ownBlock≠some gr):Pl w' C v m q:=by
 refine⟨hp.1,?_⟩;rcases hp.2 with hn|⟨g,cap,cur,rfl,hB,hg,rest⟩
 . exact .inl hn
 . exact .inr ⟨g,cap,cur,rfl,hB,(hb g (za0 hg) (fun e=>hne (by rw[←e];rfl))).trans hg,rest⟩
theorem FromOk.own (h:FromOk w B xs Γ g t) (hb:∀ b,b<w.heap.size->b≠gr->w'.heap[b]?=w.heap[b]?) (hc:w.heap[gr]?=some (.cells curr 22 (0,0))) (hM:¬ Γ.M gr):FromOk w' B xs Γ g t:=by
 obtain⟨curp,hp⟩:=h.block;have eg:=hb g (za0 hp) (zat hp hc (by decide));refine⟨⟨curp,eg.trans hp⟩,fun i hi=>?_⟩;obtain⟨v,h1,h2⟩:=h.cells i hi;refine⟨v,(World.cell?_of_block (w:=w) (a:=⟨g,i,none⟩) eg).trans h1,?_⟩;rcases h2 with h2|⟨q,h3,h4,h5⟩
 . exact .inl h2
 . exact .inr ⟨q,h3.other hb (fun e=>hM (h4 _ e)),h4,h5⟩
theorem Inv.ownSet (h:Inv w B xs Γ) (hb:∀ b,b<w.heap.size->b≠gr->w'.heap[b]?=w.heap[b]?) (hc:w.heap[gr]?=some (.cells curr 22 (0,0))) (hM:¬ Γ.M gr):Inv w' B xs Γ:=
 ⟨fun g o t e=>⟨(h.part g o t e).1,(h.part g o t e).2.own hb hc⟩,fun gf t e=>⟨(h.starts gf t e).1,(h.starts gf t e).2.own hb hc hM⟩⟩
end
structure InvM (w:World) (B:Nat) (xs:List Int) (Γ:Ghost):Prop where
 inv:Inv w B xs Γ
 old:∀ g,Γ.M g->g<w.heap.size
section
variable {w w' w0:World} {B:Nat} {xs:List Int} {Γ Γ' Γ0:Ghost} {m:Nat} {v:Value} {q:Nat->Bool}
theorem InvM.stays (h:InvM w B xs Γ) (hb:Below w.heap.size w w'):InvM w' B xs Γ:=⟨h.inv.stays hb,fun g e=>Nat.lt_of_lt_of_le (h.old g e) hb.size⟩
structure Mine (w0 w:World) (B:Nat) (Γ:Ghost) (v:Value) (m:Nat) (q:Nat->Bool):Prop where
 pl:Pl w w0.heap.size v m q
 free:∀ g,v.ownBlock=some g->¬ Γ.M g
theorem Mine.new {w1:World} (h:InvM w1 B xs Γ) (hp:Pl w w1.heap.size v m q) (hs:w0.heap.size<=w1.heap.size):Mine w0 w B Γ v m q:=
 ⟨hp.lower hs,fun g e hg=>by have:=h.old g hg;have:=(World.ownsRow.lt hp g e).1;omega⟩
theorem Mine.ext (h:Mine w0 w B Γ v m q) (x:Ext B w w' Γ Γ'):Mine w0 w' B Γ' v m q:=⟨h.pl.ext x,fun g e hg=>by
 have:=(World.ownsRow.lt h.pl g e).2;rcases x.new g hg with hg|hg
 . exact h.free g e hg
 . omega⟩
theorem Mine.kept (h:Mine w0 w B Γ v m q) (hb:Below w.heap.size w w'):Mine w0 w' B Γ v m q:=⟨h.pl.stays hb,h.free⟩
theorem Mine.set {q':Nat->Bool} (h:Mine w0 w B Γ v m q) (hm:0<m) (hi:InvM w B xs Γ) (x:Ext B w0 w Γ0 Γ) (hp:Pl w' w0.heap.size v m q') (hg:w.grownBy w' v.ownBlock) (hB:B<=w0.heap.size):
   InvM w' B xs Γ∧Ext B w0 w' Γ0 Γ∧Mine w0 w' B Γ v m q':=by
 have hpl:=h.pl;rcases hpl.2 with ⟨rfl,h0⟩|⟨g,cap,cur,rfl,hB1,hg1,_⟩
 . omega
 have hb:∀ b,b<w.heap.size->b≠g->w'.heap[b]?=w.heap[b]?:=fun b h1 h2=>hg.block b h1 (fun e=>h2 (by cases e;rfl))
 have hM:¬ Γ.M g:=h.free g rfl;refine⟨⟨hi.inv.ownSet hb hg1 hM,fun g e=>Nat.lt_of_lt_of_le (hi.old g e) hg.size⟩,⟨x.below.grown hg (Nat.le_trans hB x.below.size) (fun k e=>by cases e;exact Nat.le_trans hB hB1),x.F,x.G,x.M,x.new,fun b hs=>?_,fun g' o t e j hj u hu hn=>?_,fun b cur2 eb hG=>?_,x.newG⟩,⟨hp,h.free⟩⟩
 . have:=hs.1;exact (hb b (Nat.lt_of_lt_of_le hs.1 x.below.size) (by omega)).trans (x.still b hs)
 . obtain⟨cur',hc'⟩:=(hi.inv.part g' o t (x.F g' o t e)).2.block;refine (World.cell?_of_block (w:=w) (a:=⟨g',o+j,none⟩) (hb g' (za0 hc') (zat hc' hg1 (by decide)))).trans (x.stay g' o t e j hj u hu hn)
 . have e1:=x.box b cur2 eb hG;exact (hb b (za0 (e1.trans eb)) (zat (e1.trans eb) hg1 (by decide))).trans e1
end
section
variable {w w' w0:World} {B:Nat} {xs:List Int} {Γ Γ' Γ0:Ghost} {g o m C:Nat} {t:T} {v:Value} {q:Nat->Bool}
theorem PartOk.turn (h:PartOk w xs Γ g o t) (hb:∀ (b:Nat) (cur:Array Value) (ty:TypeId),w.heap[b]?=some (.cells cur ty (0,0))->w'.heap[b]?=w.heap[b]?):PartOk w' xs Γ g o t:=by
 obtain⟨gn,on,kn,h1,h2,h3,curn,h4⟩:=h.node;obtain⟨curp,hp⟩:=h.block;have eg:=hb g _ _ hp;have en:=hb gn _ _ h4;have hcell:∀ j,w'.cell? ⟨g,j,none⟩=w.cell? ⟨g,j,none⟩:=fun j=>World.cell?_of_block (w:=w) (a:=⟨g,j,none⟩) eg
 refine⟨h.four,⟨curp,eg.trans hp⟩,h.wf,⟨gn,on,kn,(hcell _).trans h1,h2.block en,h3.mono fun b _ _ ⟨cur,e⟩=>⟨hb b _ _ e,trivial⟩,curn,en.trans h4⟩,?_,?_,?_⟩
 . rcases h.kids with k|⟨gk,k1,k2⟩
   . exact .inl ((hcell _).trans k)
   . exact .inr ⟨gk,(hcell _).trans k1,k2⟩
 . obtain⟨a,a1,a2⟩:=h.asked;exact⟨a,(hcell _).trans a1,a2⟩
 . rcases h.starts with k|⟨gf,k1,k2⟩
   . exact .inl ((hcell _).trans k)
   . exact .inr ⟨gf,(hcell _).trans k1,k2⟩
theorem Pl.turn (hp:Pl w C v m q) (hb:∀ (b:Nat) (cur:Array Value) (ty:TypeId),w.heap[b]?=some (.cells cur ty (0,0))->w'.heap[b]?=w.heap[b]?):Pl w' C v m q:=by
 refine⟨hp.1,?_⟩;rcases hp.2 with hn|⟨g,cap,cur,rfl,hB,hg,rest⟩
 . exact .inl hn
 . exact .inr ⟨g,cap,cur,rfl,hB,(hb g _ _ hg).trans hg,rest⟩
theorem FromOk.turn (h:FromOk w B xs Γ g t) (hb:∀ (b:Nat) (cur:Array Value) (ty:TypeId),w.heap[b]?=some (.cells cur ty (0,0))->w'.heap[b]?=w.heap[b]?):FromOk w' B xs Γ g t:=by
 obtain⟨curp,hp⟩:=h.block;have eg:=hb g _ _ hp;refine⟨⟨curp,eg.trans hp⟩,fun i hi=>?_⟩;obtain⟨v,h1,h2⟩:=h.cells i hi;refine⟨v,(World.cell?_of_block (w:=w) (a:=⟨g,i,none⟩) eg).trans h1,?_⟩;rcases h2 with h2|⟨q,h3,h4,h5⟩
 . exact .inl h2
 . exact .inr ⟨q,h3.turn hb,h4,h5⟩
theorem zb5 {row:Option Nat} (hg:w.grownBy w' row) (hr:∀ r,row=some r->∃ o:Obj,w.heap[r]?=some o∧o.isCells=false):∀ (b:Nat) (cur:Array Value) (ty:TypeId),w.heap[b]?=some (.cells cur ty (0,0))->w'.heap[b]?=w.heap[b]?:=fun b cur ty e=>hg.block b (za0 e) fun er=>by
 obtain⟨o,ho,hc⟩:=hr b er.symm;rw[e] at ho;injection ho with ho
 rw[←ho] at hc;cases hc
theorem InvM.turn {row:Option Nat} (h:InvM w B xs Γ) (hg:w.grownBy w' row) (hr:∀ r,row=some r->∃ o:Obj,w.heap[r]?=some o∧o.isCells=false):InvM w' B xs Γ:=
 ⟨⟨fun g o t e=>⟨(h.inv.part g o t e).1,(h.inv.part g o t e).2.turn (zb5 hg hr)⟩,fun gf t e=>⟨(h.inv.starts gf t e).1,(h.inv.starts gf t e).2.turn (zb5 hg hr)⟩⟩,fun g e=>Nat.lt_of_lt_of_le (h.old g e) hg.size⟩
theorem Ext.turn {row:Option Nat} (hi:InvM w B xs Γ) (x:Ext B w0 w Γ0 Γ) (hg:w.grownBy w' row) (hB:B<=w0.heap.size) (hr:∀ r,row=some r->w0.heap.size<=r∧∃ o:Obj,w.heap[r]?=some o∧o.isCells=false):Ext B w0 w' Γ0 Γ:=by
 refine⟨x.below.grown hg (Nat.le_trans hB x.below.size) (fun k e=>Nat.le_trans hB (hr k e).1),x.F,x.G,x.M,x.new,fun b hs=>?_,fun g' o t e j hj u hu hn=>?_,fun b cur2 eb hG=>?_,x.newG⟩
 . refine (hg.block b (Nat.lt_of_lt_of_le hs.1 x.below.size) fun er=>?_).trans (x.still b hs);have:=(hr b er.symm).1;have:=hs.1;omega
 . obtain⟨cur',hc'⟩:=(hi.inv.part g' o t (x.F g' o t e)).2.block;exact (World.cell?_of_block (w:=w) (a:=⟨g',o+j,none⟩) (zb5 hg (fun r er=>(hr r er).2) g' _ _ hc')).trans (x.stay g' o t e j hj u hu hn)
 . have e1:=x.box b cur2 eb hG;exact (zb5 hg (fun r er=>(hr r er).2) b _ _ (e1.trans eb)).trans e1
theorem Mine.turn {row:Option Nat} (h:Mine w0 w B Γ v m q) (hg:w.grownBy w' row) (hr:∀ r,row=some r->∃ o:Obj,w.heap[r]?=some o∧o.isCells=false):Mine w0 w' B Γ v m q:=⟨h.pl.turn (zb5 hg hr),h.free⟩
end
end
end Go.Proofs.YtgbdanddbgomhaaGreatDoor
