import Derived.Test.YtgbdanddbgomhaaGreatDoorMs19
set_option linter.unusedVariables false
set_option linter.unusedSimpArgs false
namespace Go.Proofs.YtgbdanddbgomhaaGreatDoor
open Go Go.RowKit
section
def Ghost.list (Γ:Ghost) (gf:Nat) (t:T):Ghost:={Γ with G:=fun g=>if g=gf then some t else Γ.G g}
section
variable {w w':World} {B:Nat} {xs:List Int} {Γ:Ghost} {g o:Nat} {t:T}
theorem Inv.oldG {gf:Nat} (h:Inv w B xs Γ) (e:Γ.G gf=some t):gf<w.heap.size:=by
 obtain⟨cur,hc⟩:=(h.starts gf t e).2.block;exact za0 hc
theorem Inv.layFrom (h:Inv w B xs Γ) (e:Γ.F g o=some t) (gf:Nat) (hgf:w.heap.size<=gf) (hB:B<=w.heap.size)
   (hblk:∀ b,b<w.heap.size->b≠g->w'.heap[b]?=w.heap[b]?) (hg:∃ cur,w'.heap[g]?=some (.cells cur 80 (0,0)))
   (hc:∀ j,j≠o+3->w'.cell? ⟨g,j,none⟩=w.cell? ⟨g,j,none⟩) (hc1:w'.cell? ⟨g,o+3,none⟩=some (.slice (some ⟨gf,0,none⟩) (xs.length+1) (xs.length+1)))
   (hold:w.cell? ⟨g,o+3,none⟩=some (.slice none 0 0)) (hk:FromOk w' B xs Γ gf t) (hb:Below B w w'):
   Inv w' B xs (Γ.list gf t)∧Ext B w w' Γ (Γ.list gf t):=by
 have k:=(h.part g o t e).2;obtain⟨curg,hcg⟩:=k.block;have hG:∀ g' t',Γ.G g'=some t'->(Γ.list gf t).G g'=some t':=fun g' t' e'=>by
   have:=h.oldG e';unfold Ghost.list;simp only;rw[if_neg (by omega)];exact e'
 have hs:∀ b,Still w b->w'.heap[b]?=w.heap[b]?:=fun b hb'=>hblk b hb'.1 (fun e'=>hb'.2.1 curg (by rw[e'];exact hcg))
 have hcells:∀ g' o' t',Γ.F g' o'=some t'->¬ (g'=g∧o'=o)->∀ j,j<4->w'.cell? ⟨g',o'+j,none⟩=w.cell? ⟨g',o'+j,none⟩:=fun g' o' t' e' hne j hj=>by
   by_cases hgg:g'=g
   . subst hgg;refine hc _ ?_;have h1:=(h.part g' o' t' e').2.four;have h2:=k.four;intro e2;exact hne ⟨rfl,by omega⟩
   . exact World.cell?_of_block (w:=w) (a:=⟨g',o'+j,none⟩) (hblk g' (h.old e') hgg)
 refine⟨⟨fun g' o' t' e2=>?_,fun gf' t' e'=>?_⟩,⟨hb,fun _ _ _ h=>h,hG,fun _ h=>h,fun _ h => .inl h,hs,fun g' o' t' e' j hj v hv hn=>?_,fun b cur eb _=>hblk b (za0 eb) (zaf eb hcg (by decide)),fun g' t' e'=>by
   by_cases hgg:g'=gf
   . exact .inr (by omega)
   . exact .inl (by simpa [Ghost.list,hgg] using e')⟩⟩
 . refine⟨(h.part g' o' t' e2).1,?_⟩;have hp:=(h.part g' o' t' e2).2
   by_cases hne:g'=g∧o'=o
   . obtain⟨rfl,rfl⟩:=hne;have e3:t=t':=by
       have e4:Γ.F g' o'=some t':=e2;rw[e] at e4;injection e4
     subst e3;obtain⟨gn,on,kn,h1,h2,h3,cur2,h4⟩:=k.node;have en:=hs gn (zai h4 (by decide) (by decide));obtain⟨a,a1,a2⟩:=k.asked;refine⟨k.four,hg,k.wf,⟨gn,on,kn,(hc _ (by omega)).trans h1,h2.block en,zb4 h3 hs,cur2,en.trans h4⟩,?_,⟨a,(hc _ (by omega)).trans a1,a2⟩,.inr ⟨gf,hc1,by simp[Ghost.list]⟩⟩;rcases k.kids with k1|⟨gk,k1,k2⟩
     . exact .inl ((hc _ (by omega)).trans k1)
     . exact .inr ⟨gk,(hc _ (by omega)).trans k1,k2⟩
   . refine hp.kept hs (fun _ _ _ h=>h) hG ?_ (hcells g' o' t' e2 hne);obtain⟨cur,hcur⟩:=hp.block
     by_cases hgg:g'=g
     . rw[hgg];exact hg
     . exact⟨cur,(hblk g' (h.old e2) hgg).trans hcur⟩
 . by_cases hgg:gf'=gf
   . subst hgg;simp only[Ghost.list,if_true] at e';injection e' with e'
     subst e';exact⟨by omega,hk.kept (fun _ _=>rfl) (fun _ h=>h) hk.block fun _ _=>rfl⟩
   . have e2:Γ.G gf'=some t':=by
       unfold Ghost.list at e';simp only at e'
       rwa [if_neg hgg] at e'
     have hp:=h.starts gf' t' e2;obtain⟨cur,hcur⟩:=hp.2.block;have hne:=zaf hcur hcg (by decide);have heq:=hblk gf' (za0 hcur) hne;exact⟨hp.1,hp.2.kept hs (fun _ h=>h) ⟨cur,heq.trans hcur⟩ fun i _=>World.cell?_of_block (w:=w) (a:=⟨gf',i,none⟩) heq⟩
 . by_cases hne:g'=g∧o'=o
   . obtain⟨rfl,rfl⟩:=hne;rcases hj with rfl|rfl
     . exact (hc _ (by omega)).trans hv
     . rw[hold] at hv;injection hv with hv
       exact absurd hv.symm hn
   . exact (hcells g' o' t' e' hne j (by omega)).trans hv
end
def Ghost.mark (Γ:Ghost) (v:Value):Ghost:={Γ with M:=fun g=>Γ.M g∨v.ownBlock=some g}
section
variable {w w0:World} {B:Nat} {xs:List Int} {Γ Γ0:Ghost} {gf i:Nat} {t:T} {v:Value} {q:Nat->Bool}
theorem Inv.putFrom (h:Inv w B xs Γ) (e:Γ.G gf=some t) (hi:i<=xs.length) (hv:Pl w B v (xs.length / 64+1) q) (hq:∀ j,q j=true↔E xs t i j):
   Inv (w.setCell ⟨gf,i,none⟩ v) B xs (Γ.mark v):=by
 have k:=(h.starts gf t e).2;obtain⟨curg,hcg⟩:=k.block;have hs:∀ b,Still w b->(w.setCell ⟨gf,i,none⟩ v).heap[b]?=w.heap[b]?:=fun b hb'=>Below.heap_setCell w _ v b (fun e'=>hb'.2.2 curg (by rw[e'];exact hcg))
 refine⟨fun g' o' t' e'=>?_,fun gf' t' e'=>?_⟩
 . have hp:=h.part g' o' t' e';obtain⟨cur,hcur⟩:=hp.2.block;have hne:=zaf hcur hcg (by decide);refine⟨hp.1,hp.2.kept hs (fun _ _ _ h=>h) (fun _ _ h=>h) (zaz (i:=0) hcur _ v) fun j _=>za8 fun ea=>hne ?_⟩;injection ea with ea _
   exact ea.symm
 . have e2:Γ.G gf'=some t':=e';have hp:=h.starts gf' t' e2;obtain⟨cur,hcur⟩:=hp.2.block;refine⟨hp.1,zaz (i:=0) hcur _ v,fun j hj=>?_⟩
   by_cases hji:gf'=gf∧j=i
   . obtain⟨rfl,rfl⟩:=hji;rw[e] at e2;injection e2 with e2
     subst e2;obtain⟨v0,h0,_⟩:=k.cells j hj;exact⟨v,World.cell?_setCell_same _ _ _ h0,.inr ⟨q,zc2 hv hs,fun g eg => .inr eg,hq⟩⟩
   . obtain⟨v0,h0,h1⟩:=hp.2.cells j hj;refine⟨v0,(za8 fun ea=>hji ?_).trans h0,?_⟩
     . injection ea with e3 e4
       exact⟨e3.symm,e4.symm⟩
     . rcases h1 with h1|⟨q0,h3,h4,h5⟩
       . exact .inl h1
       . exact .inr ⟨q0,zc2 h3 hs,fun g eg => .inl (h4 g eg),h5⟩
theorem Ext.put (h:Inv w B xs Γ) (x:Ext B w0 w Γ0 Γ) (e:Γ.G gf=some t) (hn:∀ g,v.ownBlock=some g->w0.heap.size<=g):Ext B w0 (w.setCell ⟨gf,i,none⟩ v) Γ0 (Γ.mark v):=by
 have k:=h.starts gf t e;obtain⟨curg,hcg⟩:=k.2.block;refine⟨x.below.setCell (p:=⟨gf,i,none⟩) k.1 _,x.F,x.G,fun g hg => .inl (x.M g hg),fun g hg=>?_,fun b hs=>?_,fun g o t' e' j hj u hu hun=>?_,fun b cur eb hG=>?_,x.newG⟩
 . rcases hg with hg|hg
   . exact x.new g hg
   . exact .inr (hn g hg)
 . have hs':=hs.ext x;exact (Below.heap_setCell w _ v b (fun e'=>hs'.2.2 curg (by rw[e'];exact hcg))).trans (x.still b hs)
 . have hp:=h.part g o t' (x.F g o t' e');obtain⟨cur,hcur⟩:=hp.2.block;have hne:=zaf hcur hcg (by decide);refine (za8 fun ea=>hne ?_).trans (x.stay g o t' e' j hj u hu hun);injection ea with ea _
   exact ea.symm
 . refine (Below.heap_setCell w _ v b fun e'=>?_).trans (x.box b cur eb hG);have e2:b=gf:=e';subst e2;rcases x.newG _ _ e with e3|e3
   . exact hG _ e3
   . have:=za0 eb;omega
end
end
end Go.Proofs.YtgbdanddbgomhaaGreatDoor
