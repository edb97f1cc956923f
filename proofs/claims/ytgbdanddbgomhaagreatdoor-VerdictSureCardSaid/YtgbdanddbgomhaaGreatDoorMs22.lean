import Derived.Test.YtgbdanddbgomhaaGreatDoorMs20
set_option linter.unusedVariables false
set_option linter.unusedSimpArgs false
namespace Go.Proofs.YtgbdanddbgomhaaGreatDoor
open Go Go.RowKit
section
section
variable {w w':World} {B:Nat} {xs:List Int} {Γ:Ghost} {g o gr:Nat} {t:T} {curr:Array Value}
theorem PartOk.own (h:PartOk w xs Γ g o t) (hb:∀ b,b<w.heap.size->b≠gr->w'.heap[b]?=w.heap[b]?) (hc:w.heap[gr]?=some (.cells curr 22 (0,0))):PartOk w' xs Γ g o t:=by
 obtain⟨gn,on,kn,h1,h2,h3,curn,h4⟩:=h.node;obtain⟨curp,hp⟩:=h.block;have eg:=hb g (za0 hp) (zaf hp hc (by decide));have en:=hb gn (za0 h4) (zaf h4 hc (by decide));have hcell:∀ j,w'.cell? ⟨g,j,none⟩=w.cell? ⟨g,j,none⟩:=fun j=>World.cell?_of_block (w:=w) (a:=⟨g,j,none⟩) eg
 refine⟨h.four,⟨curp,eg.trans hp⟩,h.wf,⟨gn,on,kn,(hcell _).trans h1,h2.block en,h3.mono fun b _ _ ⟨cur,e⟩=>⟨hb b (za0 e) (zaf e hc (by decide)),trivial⟩,curn,en.trans h4⟩,?_,?_,?_⟩
 . rcases h.kids with k|⟨gk,k1,k2⟩
   . exact .inl ((hcell _).trans k)
   . exact .inr ⟨gk,(hcell _).trans k1,k2⟩
 . obtain⟨a,a1,a2⟩:=h.asked;exact⟨a,(hcell _).trans a1,a2⟩
 . rcases h.starts with k|⟨gf,k1,k2⟩
   . exact .inl ((hcell _).trans k)
   . exact .inr ⟨gf,(hcell _).trans k1,k2⟩
theorem Pl.other {C m:Nat} {v:Value} {q:Nat->Bool} (hp:Pl w C v m q) (hb:∀ b,b<w.heap.size->b≠gr->w'.heap[b]?=w.heap[b]?) (hne:v.ownBlock≠some gr):Pl w' C v m q:=by
 refine⟨hp.1,?_⟩;rcases hp.2 with hn|⟨g,cap,cur,rfl,hB,hg,rest⟩
 . exact .inl hn
 . exact .inr ⟨g,cap,cur,rfl,hB,(hb g (za0 hg) (fun e=>hne (by rw[←e];rfl))).trans hg,rest⟩
theorem FromOk.own (h:FromOk w B xs Γ g t) (hb:∀ b,b<w.heap.size->b≠gr->w'.heap[b]?=w.heap[b]?) (hc:w.heap[gr]?=some (.cells curr 22 (0,0))) (hM:¬ Γ.M gr):FromOk w' B xs Γ g t:=by
 obtain⟨curp,hp⟩:=h.block;have eg:=hb g (za0 hp) (zaf hp hc (by decide));refine⟨⟨curp,eg.trans hp⟩,fun i hi=>?_⟩;obtain⟨v,h1,h2⟩:=h.cells i hi;refine⟨v,(World.cell?_of_block (w:=w) (a:=⟨g,i,none⟩) eg).trans h1,?_⟩;rcases h2 with h2|⟨q,h3,h4,h5⟩
 . exact .inl h2
 . exact .inr ⟨q,h3.other hb (fun e=>hM (h4 _ e)),h4,h5⟩
theorem Inv.ownSet (h:Inv w B xs Γ) (hb:∀ b,b<w.heap.size->b≠gr->w'.heap[b]?=w.heap[b]?) (hc:w.heap[gr]?=some (.cells curr 22 (0,0))) (hM:¬ Γ.M gr):Inv w' B xs Γ:=
 ⟨fun g o t e=>⟨(h.part g o t e).1,(h.part g o t e).2.own hb hc⟩,fun gf t e=>⟨(h.starts gf t e).1,(h.starts gf t e).2.own hb hc hM⟩⟩
end
structure InvM (w:World) (B:Nat) (xs:List Int) (Γ:Ghost):Prop where
 inv:Inv w B xs Γ
 old:∀ g,Γ.M g->g<w.heap.size
section
variable {w w' w0:World} {B:Nat} {xs:List Int} {Γ Γ' Γ0:Ghost} {m:Nat} {v:Value} {q:Nat->Bool}
theorem InvM.stays (h:InvM w B xs Γ) (hb:Below w.heap.size w w'):InvM w' B xs Γ:=⟨h.inv.stays hb,fun g e=>Nat.lt_of_lt_of_le (h.old g e) hb.size⟩
structure Mine (w0 w:World) (B:Nat) (Γ:Ghost) (v:Value) (m:Nat) (q:Nat->Bool):Prop where
 pl:Pl w w0.heap.size v m q
 free:∀ g,v.ownBlock=some g->¬ Γ.M g
theorem Mine.new {w1:World} (h:InvM w1 B xs Γ) (hp:Pl w w1.heap.size v m q) (hs:w0.heap.size<=w1.heap.size):Mine w0 w B Γ v m q:=
 ⟨hp.lower hs,fun g e hg=>by have:=h.old g hg;have:=(World.ownsRow.lt hp g e).1;omega⟩
theorem Mine.ext (h:Mine w0 w B Γ v m q) (x:Ext B w w' Γ Γ'):Mine w0 w' B Γ' v m q:=⟨h.pl.ext x,fun g e hg=>by
 have:=(World.ownsRow.lt h.pl g e).2;rcases x.new g hg with hg|hg
 . exact h.free g e hg
 . omega⟩
theorem Mine.kept (h:Mine w0 w B Γ v m q) (hb:Below w.heap.size w w'):Mine w0 w' B Γ v m q:=⟨h.pl.stays hb,h.free⟩
theorem Mine.set {q':Nat->Bool} (h:Mine w0 w B Γ v m q) (hm:0<m) (hi:InvM w B xs Γ) (x:Ext B w0 w Γ0 Γ) (hp:Pl w' w0.heap.size v m q') (hg:w.grownBy w' v.ownBlock) (hB:B<=w0.heap.size):
   InvM w' B xs Γ∧Ext B w0 w' Γ0 Γ∧Mine w0 w' B Γ v m q':=by
 have hpl:=h.pl;rcases hpl.2 with ⟨rfl,h0⟩|⟨g,cap,cur,rfl,hB1,hg1,_⟩
 . omega
 have hb:∀ b,b<w.heap.size->b≠g->w'.heap[b]?=w.heap[b]?:=fun b h1 h2=>hg.block b h1 (fun e=>h2 (by cases e;rfl))
 have hM:¬ Γ.M g:=h.free g rfl;refine⟨⟨hi.inv.ownSet hb hg1 hM,fun g e=>Nat.lt_of_lt_of_le (hi.old g e) hg.size⟩,⟨x.below.grown hg (Nat.le_trans hB x.below.size) (fun k e=>by cases e;exact Nat.le_trans hB hB1),x.F,x.G,x.M,x.new,fun b hs=>?_,fun g' o t e j hj u hu hn=>?_,fun b cur2 eb hG=>?_,x.newG⟩,⟨hp,h.free⟩⟩
 . have:=hs.1;exact (hb b (Nat.lt_of_lt_of_le hs.1 x.below.size) (by omega)).trans (x.still b hs)
 . obtain⟨cur',hc'⟩:=(hi.inv.part g' o t (x.F g' o t e)).2.block;refine (World.cell?_of_block (w:=w) (a:=⟨g',o+j,none⟩) (hb g' (za0 hc') (zaf hc' hg1 (by decide)))).trans (x.stay g' o t e j hj u hu hn)
 . have e1:=x.box b cur2 eb hG;exact (hb b (za0 (e1.trans eb)) (zaf (e1.trans eb) hg1 (by decide))).trans e1
end
section
variable {w w' w0:World} {B:Nat} {xs:List Int} {Γ Γ' Γ0:Ghost} {g o m C:Nat} {t:T} {v:Value} {q:Nat->Bool}
theorem PartOk.turn (h:PartOk w xs Γ g o t) (hb:∀ (b:Nat) (cur:Array Value) (ty:TypeId),w.heap[b]?=some (.cells cur ty (0,0))->w'.heap[b]?=w.heap[b]?):PartOk w' xs Γ g o t:=by
 obtain⟨gn,on,kn,h1,h2,h3,curn,h4⟩:=h.node;obtain⟨curp,hp⟩:=h.block;have eg:=hb g _ _ hp;have en:=hb gn _ _ h4;have hcell:∀ j,w'.cell? ⟨g,j,none⟩=w.cell? ⟨g,j,none⟩:=fun j=>World.cell?_of_block (w:=w) (a:=⟨g,j,none⟩) eg
 refine⟨h.four,⟨curp,eg.trans hp⟩,h.wf,⟨gn,on,kn,(hcell _).trans h1,h2.block en,h3.mono fun b _ _ ⟨cur,e⟩=>⟨hb b _ _ e,trivial⟩,curn,en.trans h4⟩,?_,?_,?_⟩
 . rcases h.kids with k|⟨gk,k1,k2⟩
   . exact .inl ((hcell _).trans k)
   . exact .inr ⟨gk,(hcell _).trans k1,k2⟩
 . obtain⟨a,a1,a2⟩:=h.asked;exact⟨a,(hcell _).trans a1,a2⟩
 . rcases h.starts with k|⟨gf,k1,k2⟩
   . exact .inl ((hcell _).trans k)
   . exact .inr ⟨gf,(hcell _).trans k1,k2⟩
theorem Pl.turn (hp:Pl w C v m q) (hb:∀ (b:Nat) (cur:Array Value) (ty:TypeId),w.heap[b]?=some (.cells cur ty (0,0))->w'.heap[b]?=w.heap[b]?):Pl w' C v m q:=by
 refine⟨hp.1,?_⟩;rcases hp.2 with hn|⟨g,cap,cur,rfl,hB,hg,rest⟩
 . exact .inl hn
 . exact .inr ⟨g,cap,cur,rfl,hB,(hb g _ _ hg).trans hg,rest⟩
theorem FromOk.turn (h:FromOk w B xs Γ g t) (hb:∀ (b:Nat) (cur:Array Value) (ty:TypeId),w.heap[b]?=some (.cells cur ty (0,0))->w'.heap[b]?=w.heap[b]?):FromOk w' B xs Γ g t:=by
 obtain⟨curp,hp⟩:=h.block;have eg:=hb g _ _ hp;refine⟨⟨curp,eg.trans hp⟩,fun i hi=>?_⟩;obtain⟨v,h1,h2⟩:=h.cells i hi;refine⟨v,(World.cell?_of_block (w:=w) (a:=⟨g,i,none⟩) eg).trans h1,?_⟩;rcases h2 with h2|⟨q,h3,h4,h5⟩
 . exact .inl h2
 . exact .inr ⟨q,h3.turn hb,h4,h5⟩
theorem zap {row:Option Nat} (hg:w.grownBy w' row) (hr:∀ r,row=some r->∃ o:Obj,w.heap[r]?=some o∧o.isCells=false):∀ (b:Nat) (cur:Array Value) (ty:TypeId),w.heap[b]?=some (.cells cur ty (0,0))->w'.heap[b]?=w.heap[b]?:=fun b cur ty e=>hg.block b (za0 e) fun er=>by
 obtain⟨o,ho,hc⟩:=hr b er.symm;rw[e] at ho;injection ho with ho
 rw[←ho] at hc;cases hc
theorem InvM.turn {row:Option Nat} (h:InvM w B xs Γ) (hg:w.grownBy w' row) (hr:∀ r,row=some r->∃ o:Obj,w.heap[r]?=some o∧o.isCells=false):InvM w' B xs Γ:=
 ⟨⟨fun g o t e=>⟨(h.inv.part g o t e).1,(h.inv.part g o t e).2.turn (zap hg hr)⟩,fun gf t e=>⟨(h.inv.starts gf t e).1,(h.inv.starts gf t e).2.turn (zap hg hr)⟩⟩,fun g e=>Nat.lt_of_lt_of_le (h.old g e) hg.size⟩
theorem Ext.turn {row:Option Nat} (hi:InvM w B xs Γ) (x:Ext B w0 w Γ0 Γ) (hg:w.grownBy w' row) (hB:B<=w0.heap.size) (hr:∀ r,row=some r->w0.heap.size<=r∧∃ o:Obj,w.heap[r]?=some o∧o.isCells=false):Ext B w0 w' Γ0 Γ:=by
 refine⟨x.below.grown hg (Nat.le_trans hB x.below.size) (fun k e=>Nat.le_trans hB (hr k e).1),x.F,x.G,x.M,x.new,fun b hs=>?_,fun g' o t e j hj u hu hn=>?_,fun b cur2 eb hG=>?_,x.newG⟩
 . refine (hg.block b (Nat.lt_of_lt_of_le hs.1 x.below.size) fun er=>?_).trans (x.still b hs);have:=(hr b er.symm).1;have:=hs.1;omega
 . obtain⟨cur',hc'⟩:=(hi.inv.part g' o t (x.F g' o t e)).2.block;exact (World.cell?_of_block (w:=w) (a:=⟨g',o+j,none⟩) (zap hg (fun r er=>(hr r er).2) g' _ _ hc')).trans (x.stay g' o t e j hj u hu hn)
 . have e1:=x.box b cur2 eb hG;exact (zap hg (fun r er=>(hr r er).2) b _ _ (e1.trans eb)).trans e1
theorem Mine.turn {row:Option Nat} (h:Mine w0 w B Γ v m q) (hg:w.grownBy w' row) (hr:∀ r,row=some r->∃ o:Obj,w.heap[r]?=some o∧o.isCells=false):Mine w0 w' B Γ v m q:=⟨h.pl.turn (zap hg hr),h.free⟩
end
end
section
structure Ask (w:World) (B:Nat) (xs:List Int) (A:Option Addr) (Γ:Ghost):Prop where
 inv:InvM w B xs Γ
 rd:RdB w B A xs
 byte:∀ k,k<xs.length->0<=xs.getD k 0∧xs.getD k 0<=255
 len:xs.length<=100000
 tab:Tab w
 tabB:3<B
 le:B<=w.heap.size
structure InW (w:World) (xs:List Int) (v:Value) (q:Nat->Bool):Prop where
 pl:Pl w 0 v (xs.length / 64+1) q
 le:∀ x,q x=true->x<=xs.length
section
variable {w w':World} {B:Nat} {xs:List Int} {A:Option Addr} {Γ Γ':Ghost} {v:Value} {q:Nat->Bool} {P:Nat->Prop}
theorem Ask.ext (h:Ask w B xs A Γ) (x:Ext B w w' Γ Γ') (hi:InvM w' B xs Γ'):Ask w' B xs A Γ':=
 ⟨hi,h.rd.below x.below,h.byte,h.len,h.tab.below x.below h.tabB,h.tabB,Nat.le_trans h.le x.below.size⟩
theorem Ask.stays (h:Ask w B xs A Γ) (hb:Below w.heap.size w w'):Ask w' B xs A Γ:=h.ext (Ext.stays Γ hb h.le) (h.inv.stays hb)
theorem InW.ext (h:InW w xs v q) (x:Ext B w w' Γ Γ'):InW w' xs v q:=⟨h.pl.ext x,h.le⟩
theorem InW.stays (h:InW w xs v q) (hb:Below w.heap.size w w'):InW w' xs v q:=⟨h.pl.stays hb,h.le⟩
end
def RetEndsP (B:Nat) (w:World) (xs:List Int) (Γ:Ghost) (P:Nat->Prop) (e:Ending) (w':World):Prop:=
 ∃ v q Γ',e = .returned v∧InvM w' B xs Γ'∧Ext B w w' Γ Γ'∧InW w' xs v q∧∀ j,q j=true↔P j
def RetMine (B:Nat) (w:World) (xs:List Int) (Γ:Ghost) (P:Nat->Prop) (e:Ending) (w':World):Prop:=
 ∃ v q Γ',e = .returned v∧InvM w' B xs Γ'∧Ext B w w' Γ Γ'∧Mine w w' B Γ' v (xs.length / 64+1) q∧(∀ x,q x=true->x<=xs.length)∧∀ j,q j=true↔P j
theorem RetMine.plain {B:Nat} {w w':World} {xs:List Int} {Γ:Ghost} {P:Nat->Prop} {e:Ending} (h:RetMine B w xs Γ P e w'):RetEndsP B w xs Γ P e w':=by
 obtain⟨v,q,Γ',h1,h2,h3,h4,h5,h6⟩:=h;exact⟨v,q,Γ',h1,h2,h3,⟨h4.pl.lower (Nat.zero_le _),h5⟩,h6⟩
def foldP {α:Type} (f:α->Nat->Bool) (pre:List α):Nat->Bool:=fun x=>pre.any fun y=>f y x
theorem zii {α:Type} (f:α->Nat->Bool) (pre:List α) (y:α) (x:Nat):foldP f (pre++[y]) x=(foldP f pre x||f y x):=by simp[foldP]
theorem Pl.same {w:World} {B m:Nat} {v:Value} {q r:Nat->Bool} (h:Pl w B v m q) (e:∀ x,q x=r x):Pl w B v m r:=by
 have:q=r:=funext e
 rwa [←this]
theorem zh7 {q:Nat->Bool} {M:Nat} {f:Nat->Nat->Bool} (ys:List (UpAt q M)) (h:ys.map (·.1)=upP q M) (j:Nat):foldP (fun y:UpAt q M=>f y.1) ys j=true↔∃ i,i<M∧q i=true∧f i j=true:=by
 unfold foldP;rw[List.any_eq_true];constructor
 . rintro⟨y,hy,hf⟩;exact⟨y.1,y.2.1,y.2.2,hf⟩
 . rintro⟨i,h1,h2,h3⟩;have hi:i∈ys.map (·.1):=(by rw[h];exact upP_mem.2 ⟨h1,h2⟩);obtain⟨y,hy,rfl⟩:=List.mem_map.1 hi;exact⟨y,hy,h3⟩
theorem zd0 {B:Nat} {W W':World} (h:Below W.heap.size W W'):KeepsFrom B W W':=⟨h.size,fun k o _ hk _=>(h.block k (za0 hk)).trans hk⟩
end
end Go.Proofs.YtgbdanddbgomhaaGreatDoor
