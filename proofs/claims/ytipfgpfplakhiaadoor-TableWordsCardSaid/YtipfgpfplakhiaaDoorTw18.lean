import Derived.Test.YtipfgpfplakhiaaDoorTw15
set_option linter.unusedVariables false
set_option linter.unusedSimpArgs false
set_option maxRecDepth 20000
set_option maxHeartbeats 4000000
namespace Go.Proofs.YtipfgpfplakhiaaDoor
open Go Go.RowKit
section
section
variable {w w':World} {B:Nat} {xs:List Int} {Γ:Ghost} {g o gr:Nat} {t:T} {curr:Array Value}
theorem PartOk.own (h:PartOk w xs Γ g o t) (hb:∀ b,b<w.heap.size->b≠gr->w'.heap[b]?=w.heap[b]?) (hc:w.heap[gr]?=some (.cells curr 47 (0,0))):PartOk w' xs Γ g o t:=by
 obtain⟨gn,on,kn,h1,h2,h3,curn,h4⟩:=h.node;obtain⟨curp,hp⟩:=h.block;have eg:=hb g (za0 hp) (zbu hp hc yij);have en:=hb gn (za0 h4) (zbu h4 hc yij);have hcell:∀ j,w'.cell? ⟨g,j,none⟩=w.cell? ⟨g,j,none⟩:=fun j=>yfp (w:=w) (a:=⟨g,j,none⟩) eg
 refine⟨h.four,⟨curp,eg.trans hp⟩,h.wf,⟨gn,on,kn,(hcell _).trans h1,h2.block en,h3.mono fun b _ _ ⟨cur,e⟩=>⟨hb b (za0 e) (zbu e hc yij),trivial⟩,curn,en.trans h4⟩,?_,?_,?_⟩
 .rcases h.kids with k|⟨gk,k1,k2⟩
  .exact .inl ((hcell _).trans k)
  .exact .inr ⟨gk,(hcell _).trans k1,k2⟩
 .obtain⟨a,a1,a2⟩:=h.asked;exact⟨a,(hcell _).trans a1,a2⟩
 .rcases h.starts with k|⟨gf,k1,k2⟩
  .exact .inl ((hcell _).trans k)
  .exact .inr ⟨gf,(hcell _).trans k1,k2⟩
theorem Pl.other {C m:Nat} {v:Value} {q:Nat->Bool} (hp:Pl w C v m q) (hb:∀ b,b<w.heap.size->b≠gr->w'.heap[b]?=w.heap[b]?) (hne:v.ownBlock≠some gr):Pl w' C v m q:=by
 refine⟨hp.1,?_⟩;rcases hp.2 with hn|⟨g,cap,cur,rfl,hB,hg,rest⟩
 .exact .inl hn
 .exact .inr ⟨g,cap,cur,rfl,hB,(hb g (za0 hg) (fun e=>hne (by rw[←e];rfl))).trans hg,rest⟩
theorem FromOk.own (h:FromOk w B xs Γ g t) (hb:∀ b,b<w.heap.size->b≠gr->w'.heap[b]?=w.heap[b]?) (hc:w.heap[gr]?=some (.cells curr 47 (0,0))) (hM:¬ Γ.M gr):FromOk w' B xs Γ g t:=by
 obtain⟨curp,hp⟩:=h.block;have eg:=hb g (za0 hp) (zbu hp hc yij);refine⟨⟨curp,eg.trans hp⟩,fun i hi=>?_⟩;obtain⟨v,h1,h2⟩:=h.cells i hi;refine⟨v,(yfp (w:=w) (a:=⟨g,i,none⟩) eg).trans h1,?_⟩;rcases h2 with h2|⟨q,h3,h4,h5⟩
 .exact .inl h2
 .exact .inr ⟨q,h3.other hb (fun e=>hM (h4 _ e)),h4,h5⟩
theorem Inv.ownSet (h:Inv w B xs Γ) (hb:∀ b,b<w.heap.size->b≠gr->w'.heap[b]?=w.heap[b]?) (hc:w.heap[gr]?=some (.cells curr 47 (0,0))) (hM:¬ Γ.M gr):Inv w' B xs Γ:=
 ⟨fun g o t e=>⟨(h.part g o t e).1,(h.part g o t e).2.own hb hc⟩,fun gf t e=>⟨(h.starts gf t e).1,(h.starts gf t e).2.own hb hc hM⟩⟩
end
structure InvM (w:World) (B:Nat) (xs:List Int) (Γ:Ghost):Prop where
 inv:Inv w B xs Γ
 old:∀ g,Γ.M g->g<w.heap.size
section
variable {w w' w0:World} {B:Nat} {xs:List Int} {Γ Γ' Γ0:Ghost} {m:Nat} {v:Value} {q:Nat->Bool}
theorem InvM.stays (h:InvM w B xs Γ) (hb:Below w.heap.size w w'):InvM w' B xs Γ:=⟨h.inv.stays hb,fun g e=>yff (h.old g e) hb.size⟩
structure Mine (w0 w:World) (B:Nat) (Γ:Ghost) (v:Value) (m:Nat) (q:Nat->Bool):Prop where
 pl:Pl w w0.heap.size v m q
 free:∀ g,v.ownBlock=some g->¬ Γ.M g
theorem Mine.new {w1:World} (h:InvM w1 B xs Γ) (hp:Pl w w1.heap.size v m q) (hs:w0.heap.size<=w1.heap.size):Mine w0 w B Γ v m q:=
 ⟨hp.lower hs,fun g e hg=>by have:=h.old g hg;have:=(yf5 hp g e).1;omega⟩
theorem Mine.ext (h:Mine w0 w B Γ v m q) (x:Ext B w w' Γ Γ'):Mine w0 w' B Γ' v m q:=⟨h.pl.ext x,fun g e hg=>by
 have:=(yf5 h.pl g e).2;rcases x.new g hg with hg|hg
 .exact h.free g e hg
 .omega⟩
theorem Mine.kept (h:Mine w0 w B Γ v m q) (hb:Below w.heap.size w w'):Mine w0 w' B Γ v m q:=⟨h.pl.stays hb,h.free⟩
theorem Mine.set {q':Nat->Bool} (h:Mine w0 w B Γ v m q) (hm:0<m) (hi:InvM w B xs Γ) (x:Ext B w0 w Γ0 Γ) (hp:Pl w' w0.heap.size v m q') (hg:w.grownBy w' v.ownBlock) (hB:B<=w0.heap.size):
 InvM w' B xs Γ∧Ext B w0 w' Γ0 Γ∧Mine w0 w' B Γ v m q':=by
 have hpl:=h.pl;rcases hpl.2 with ⟨rfl,h0⟩|⟨g,cap,cur,rfl,hB1,hg1,_⟩
 .omega
 have hb:∀ b,b<w.heap.size->b≠g->w'.heap[b]?=w.heap[b]?:=fun b h1 h2=>hg.block b h1 (fun e=>h2 (by cases e;rfl))
 have hM:¬ Γ.M g:=h.free g rfl;refine⟨⟨hi.inv.ownSet hb hg1 hM,fun g e=>yff (hi.old g e) hg.size⟩,⟨x.below.grown hg (yfa hB x.below.size) (fun k e=>by cases e;exact yfa hB hB1),x.F,x.G,x.M,x.new,fun b hs=>?_,fun g' o t e j hj u hu hn=>?_,fun b cur2 eb hG=>?_,x.newG⟩,⟨hp,h.free⟩⟩
 .have:=hs.1;exact (hb b (yff hs.1 x.below.size) yie).trans (x.still b hs)
 .obtain⟨cur',hc'⟩:=(hi.inv.part g' o t (x.F g' o t e)).2.block;refine (yfp (w:=w) (a:=⟨g',o+j,none⟩) (hb g' (za0 hc') (zbu hc' hg1 yij))).trans (x.stay g' o t e j hj u hu hn)
 .have e1:=x.box b cur2 eb hG;exact (hb b (za0 (e1.trans eb)) (zbu (e1.trans eb) hg1 yij)).trans e1
end
section
variable {w w' w0:World} {B:Nat} {xs:List Int} {Γ Γ' Γ0:Ghost} {g o m C:Nat} {t:T} {v:Value} {q:Nat->Bool}
theorem PartOk.turn (h:PartOk w xs Γ g o t) (hb:∀ (b:Nat) (cur:Array Value) (ty:TypeId),w.heap[b]?=some (.cells cur ty (0,0))->w'.heap[b]?=w.heap[b]?):PartOk w' xs Γ g o t:=by
 obtain⟨gn,on,kn,h1,h2,h3,curn,h4⟩:=h.node;obtain⟨curp,hp⟩:=h.block;have eg:=hb g _ _ hp;have en:=hb gn _ _ h4;have hcell:∀ j,w'.cell? ⟨g,j,none⟩=w.cell? ⟨g,j,none⟩:=fun j=>yfp (w:=w) (a:=⟨g,j,none⟩) eg
 refine⟨h.four,⟨curp,eg.trans hp⟩,h.wf,⟨gn,on,kn,(hcell _).trans h1,h2.block en,h3.mono fun b _ _ ⟨cur,e⟩=>⟨hb b _ _ e,trivial⟩,curn,en.trans h4⟩,?_,?_,?_⟩
 .rcases h.kids with k|⟨gk,k1,k2⟩
  .exact .inl ((hcell _).trans k)
  .exact .inr ⟨gk,(hcell _).trans k1,k2⟩
 .obtain⟨a,a1,a2⟩:=h.asked;exact⟨a,(hcell _).trans a1,a2⟩
 .rcases h.starts with k|⟨gf,k1,k2⟩
  .exact .inl ((hcell _).trans k)
  .exact .inr ⟨gf,(hcell _).trans k1,k2⟩
theorem Pl.turn (hp:Pl w C v m q) (hb:∀ (b:Nat) (cur:Array Value) (ty:TypeId),w.heap[b]?=some (.cells cur ty (0,0))->w'.heap[b]?=w.heap[b]?):Pl w' C v m q:=by
 refine⟨hp.1,?_⟩;rcases hp.2 with hn|⟨g,cap,cur,rfl,hB,hg,rest⟩
 .exact .inl hn
 .exact .inr ⟨g,cap,cur,rfl,hB,(hb g _ _ hg).trans hg,rest⟩
theorem FromOk.turn (h:FromOk w B xs Γ g t) (hb:∀ (b:Nat) (cur:Array Value) (ty:TypeId),w.heap[b]?=some (.cells cur ty (0,0))->w'.heap[b]?=w.heap[b]?):FromOk w' B xs Γ g t:=by
 obtain⟨curp,hp⟩:=h.block;have eg:=hb g _ _ hp;refine⟨⟨curp,eg.trans hp⟩,fun i hi=>?_⟩;obtain⟨v,h1,h2⟩:=h.cells i hi;refine⟨v,(yfp (w:=w) (a:=⟨g,i,none⟩) eg).trans h1,?_⟩;rcases h2 with h2|⟨q,h3,h4,h5⟩
 .exact .inl h2
 .exact .inr ⟨q,h3.turn hb,h4,h5⟩
theorem zco {row:Option Nat} (hg:w.grownBy w' row) (hr:∀ r,row=some r->∃ o:Obj,w.heap[r]?=some o∧o.isCells=false):∀ (b:Nat) (cur:Array Value) (ty:TypeId),w.heap[b]?=some (.cells cur ty (0,0))->w'.heap[b]?=w.heap[b]?:=fun b cur ty e=>hg.block b (za0 e) fun er=>by
 obtain⟨o,ho,hc⟩:=hr b er.symm;rw[e] at ho;injection ho with ho
 rw[←ho] at hc;cases hc
theorem InvM.turn {row:Option Nat} (h:InvM w B xs Γ) (hg:w.grownBy w' row) (hr:∀ r,row=some r->∃ o:Obj,w.heap[r]?=some o∧o.isCells=false):InvM w' B xs Γ:=
 ⟨⟨fun g o t e=>⟨(h.inv.part g o t e).1,(h.inv.part g o t e).2.turn (zco hg hr)⟩,fun gf t e=>⟨(h.inv.starts gf t e).1,(h.inv.starts gf t e).2.turn (zco hg hr)⟩⟩,fun g e=>yff (h.old g e) hg.size⟩
theorem Ext.turn {row:Option Nat} (hi:InvM w B xs Γ) (x:Ext B w0 w Γ0 Γ) (hg:w.grownBy w' row) (hB:B<=w0.heap.size) (hr:∀ r,row=some r->w0.heap.size<=r∧∃ o:Obj,w.heap[r]?=some o∧o.isCells=false):Ext B w0 w' Γ0 Γ:=by
 refine⟨x.below.grown hg (yfa hB x.below.size) (fun k e=>yfa hB (hr k e).1),x.F,x.G,x.M,x.new,fun b hs=>?_,fun g' o t e j hj u hu hn=>?_,fun b cur2 eb hG=>?_,x.newG⟩
 .refine (hg.block b (yff hs.1 x.below.size) fun er=>?_).trans (x.still b hs);have:=(hr b er.symm).1;have:=hs.1;omega
 .obtain⟨cur',hc'⟩:=(hi.inv.part g' o t (x.F g' o t e)).2.block;exact (yfp (w:=w) (a:=⟨g',o+j,none⟩) (zco hg (fun r er=>(hr r er).2) g' _ _ hc')).trans (x.stay g' o t e j hj u hu hn)
 .have e1:=x.box b cur2 eb hG;exact (zco hg (fun r er=>(hr r er).2) b _ _ (e1.trans eb)).trans e1
theorem Mine.turn {row:Option Nat} (h:Mine w0 w B Γ v m q) (hg:w.grownBy w' row) (hr:∀ r,row=some r->∃ o:Obj,w.heap[r]?=some o∧o.isCells=false):Mine w0 w' B Γ v m q:=⟨h.pl.turn (zco hg hr),h.free⟩
end
end
section
structure Ask (w:World) (B:Nat) (xs:List Int) (A:Option Addr) (Γ:Ghost):Prop where
 inv:InvM w B xs Γ
 rd:RdB w B A xs
 byte:∀ k,k<xs.length->0<=xs.getD k 0∧xs.getD k 0<=255
 len:xs.length<=100000
 tab:Tab w
 tabB:0<B
 le:B<=w.heap.size
structure InW (w:World) (xs:List Int) (v:Value) (q:Nat->Bool):Prop where
 pl:Pl w 0 v (xs.length / 64+1) q
 le:∀ x,q x=true->x<=xs.length
section
variable {w w':World} {B:Nat} {xs:List Int} {A:Option Addr} {Γ Γ':Ghost} {v:Value} {q:Nat->Bool} {P:Nat->Prop}
theorem Ask.ext (h:Ask w B xs A Γ) (x:Ext B w w' Γ Γ') (hi:InvM w' B xs Γ'):Ask w' B xs A Γ':=
 ⟨hi,h.rd.below x.below,h.byte,h.len,h.tab.below x.below h.tabB,h.tabB,yfa h.le x.below.size⟩
theorem Ask.stays (h:Ask w B xs A Γ) (hb:Below w.heap.size w w'):Ask w' B xs A Γ:=h.ext (Ext.stays Γ hb h.le) (h.inv.stays hb)
theorem InW.ext (h:InW w xs v q) (x:Ext B w w' Γ Γ'):InW w' xs v q:=⟨h.pl.ext x,h.le⟩
theorem InW.stays (h:InW w xs v q) (hb:Below w.heap.size w w'):InW w' xs v q:=⟨h.pl.stays hb,h.le⟩
end
def RetEndsP (B:Nat) (w:World) (xs:List Int) (Γ:Ghost) (P:Nat->Prop) (e:Ending) (w':World):Prop:=
 ∃ v q Γ',e = .returned v∧InvM w' B xs Γ'∧Ext B w w' Γ Γ'∧InW w' xs v q∧∀ j,q j=true↔P j
def RetMine (B:Nat) (w:World) (xs:List Int) (Γ:Ghost) (P:Nat->Prop) (e:Ending) (w':World):Prop:=
 ∃ v q Γ',e = .returned v∧InvM w' B xs Γ'∧Ext B w w' Γ Γ'∧Mine w w' B Γ' v (xs.length / 64+1) q∧(∀ x,q x=true->x<=xs.length)∧∀ j,q j=true↔P j
theorem RetMine.plain {B:Nat} {w w':World} {xs:List Int} {Γ:Ghost} {P:Nat->Prop} {e:Ending} (h:RetMine B w xs Γ P e w'):RetEndsP B w xs Γ P e w':=by
 obtain⟨v,q,Γ',h1,h2,h3,h4,h5,h6⟩:=h;exact⟨v,q,Γ',h1,h2,h3,⟨h4.pl.lower (yf8 _),h5⟩,h6⟩
def zn0 {α:Type} (f:α->Nat->Bool) (pre:List α):Nat->Bool:=fun x=>pre.any fun y=>f y x
theorem ztt {α:Type} (f:α->Nat->Bool) (pre:List α) (y:α) (x:Nat):zn0 f (pre++[y]) x=(zn0 f pre x||f y x):=by simp[zn0]
theorem Pl.same {w:World} {B m:Nat} {v:Value} {q r:Nat->Bool} (h:Pl w B v m q) (e:∀ x,q x=r x):Pl w B v m r:=by
 have:q=r:=funext e
 rwa [←this]
theorem zs2 {q:Nat->Bool} {M:Nat} {f:Nat->Nat->Bool} (ys:List (UpAt q M)) (h:ys.map (·.1)=upP q M) (j:Nat):zn0 (fun y:UpAt q M=>f y.1) ys j=true↔∃ i,i<M∧q i=true∧f i j=true:=by
 unfold zn0;rw[yi6];constructor
 .rintro⟨y,hy,hf⟩;exact⟨y.1,y.2.1,y.2.2,hf⟩
 .rintro⟨i,h1,h2,h3⟩;have hi:i∈ys.map (·.1):=(by rw[h];exact upP_mem.2 ⟨h1,h2⟩);obtain⟨y,hy,rfl⟩:=yg6.1 hi;exact⟨y,hy,h3⟩
theorem zjq {B:Nat} {W W':World} (h:Below W.heap.size W W'):KeepsFrom B W W':=⟨h.size,fun k o _ hk _=>(h.block k (za0 hk)).trans hk⟩
end
section
attribute [local go_sem ↓] Go.wp_at_zero Go.wp_at_succ
def zne (u:T):Prop:=∀ (w:World) (B c:Nat) (xs:List Int) (A:Option Addr) (Γ:Ghost) (g o:Nat) (v:Value) (q:Nat->Bool),Ask w B xs A Γ->Γ.F g o=some u->InW w xs v q->
 Calls Tryd.prog 30 #[.pointer (some ⟨g,o,none⟩),.slice A xs.length c,v] w (RetEndsP B w xs Γ (img (E xs u) fun i=>q i=true))
theorem zk9 {w w':World} {B:Nat} {xs:List Int} {A:Option Addr} {Γ Γ':Ghost} (h:Ask w B xs A Γ) (hi:Inv w' B xs Γ') (x:Ext B w w' Γ Γ') (hM:∀ g,Γ'.M g->Γ.M g):Ask w' B xs A Γ':=
 h.ext x ⟨hi,fun g e=>yff (h.inv.old g (hM g e)) x.below.size⟩
theorem yaw {m:Nat} {q r:Nat->Bool} (h:∀ i,i<m->word q i=word r i) (x:Nat) (hx:x<64*m):q x=r x:=by
 have e:=h (x / 64) yie;have e2:zbl q (x / 64)=zbl r (x / 64):=(by unfold word at e;omega);have t1:=zau q (x / 64) (x % 64);have t2:=zau r (x / 64) (x % 64);rw[e2] at t1;rw[t1] at t2;have h64:x % 64<64:=Nat.mod_lt _ yie;rw[show 64*(x / 64)+x % 64=x by omega] at t2
 simpa [h64] using t2
theorem zud {w w2:World} {xs:List Int} {v v2:Value} {q r:Nat->Bool} (h1:InW w xs v q) (h2:InW w2 xs v2 r) (h:∀ i,i<xs.length / 64+1->word q i=word r i) (x:Nat):q x=true↔r x=true:=by
 by_cases hx:x<64*(xs.length / 64+1)
 .rw[yaw h x hx]
 .constructor
  .intro e;have:=h1.le x e;omega
  .intro e;have:=h2.le x e;omega
theorem Pl.apart {w2 w5 w6:World} {C D m m':Nat} {v5 v:Value} {q5 q:Nat->Bool} (h5:Pl w5 C v5 m' q5) (hv:Pl w2 D v m q) (hC:w2.heap.size<=C) (hg:w5.grownBy w6 v.ownBlock):Pl w6 C v5 m' q5:=by
 refine⟨h5.1,?_⟩;rcases h5.2 with hn|⟨g,cap,cur,rfl,hB,hg1,rest⟩
 .exact .inl hn
 .refine .inr ⟨g,cap,cur,rfl,hB,(hg.block g (za0 hg1) fun er=>?_).trans hg1,rest⟩;have:=(yf5 hv g er.symm).2;omega
theorem zm7 {w:World} {B c:Nat} {xs:List Int} {A:Option Addr} {Γ:Ghost} {g o ln hn:Nat} {u:T} {v:Value} {q:Nat->Bool} (ih:zne u) (h:Ask w B xs A Γ) (e:Γ.F g o=some (.mk 4 za9 ln hn [u])) (hv:InW w xs v q):
 Calls Tryd.prog 70 #[.pointer (some ⟨g,o,none⟩),.slice A xs.length c,v] w (RetMine B w xs Γ (img (E xs (.mk 4 za9 ln hn [u])) fun i=>q i=true)):=by
 obtain⟨hb1,hb2⟩:ln<=hn∧hn<=32:=by
  have hwf:=(h.inv.inv.part g o _ e).2.wf;cases hwf with
  | rep _ _ _ h0 h1 h2 h3 _=>exact⟨by omega,by omega⟩
 have hm:xs.length / 64+1<=1000000:=(by have:=h.len;omega);have hm0:0<xs.length / 64+1:=yie;have hkid:∀ W Γ',Ask W B xs A Γ'->Γ'.F g o=some (.mk 4 za9 ln hn [u])->Calls Tryd.prog 51 #[.pointer (some ⟨g,o,none⟩),.int .i64 0] W (zhk B W xs Γ' u):=fun W Γ' ha he=>yc5 ha.inv.inv ha.le he 0 (by simp[T.kids])
 unfold zhk at hkid;have hend:∀ W Γ' g' o' v' q',Ask W B xs A Γ'->Γ'.F g' o'=some u->InW W xs v' q'->Calls Tryd.prog 30 #[.pointer (some ⟨g',o',none⟩),.slice A xs.length c,v'] W (RetEndsP B W xs Γ' (img (E xs u) fun i=>q' i=true)):=fun W Γ' g' o' v' q' ha he hv=>ih W B c xs A Γ' g' o' v' q' ha he hv
 unfold RetEndsP at hend;have HKID:=Zh hkid;have HEND:=Zh hend;have HH:=Zh h;have HE:=Zh e;have HV:=Zh hv;obtain⟨gn,on,kn,n1,n2,n3,curn,n4⟩:=(h.inv.inv.part g o _ e).2.node;have n5:w.cell? ⟨gn,on+5,none⟩=some (.int .i64 (ln:Int)):=n2 5 _ rfl;generalize hM:xs.length / 64+1=m at *;have HM:=Zh (fun _:Unit=>hM);clear hkid hend h e hv n2 n3 n4 hM ih;go_enter Tryd.func70,Tryd.ntmps70;go_wp2;go_loopg [7,19] ln (fun m' now i wr=>∃ (j:Nat) (q':Nat->Bool) (Γ':Ghost),i = .int .i64 (j:Int)∧j<=ln∧m'=ln-j∧Ask wr B xs A Γ'∧Ext B w wr Γ Γ'∧InW wr xs now q'∧∀ x,q' x=true↔imgN (E xs u) (fun i=>q i=true) j x)
 case atStart=>exact⟨0,q,Γ,rfl,yf8 _,rfl,HH.o,Ext.refl _ _ _,HV.o,fun _=>Iff.rfl⟩
 case round =>
  obtain⟨j,q1,Γ1,rfl,hj,hmj,ha1,hx1,hv1,hq1⟩:=hrel;have HMJ:=Zh hmj;have HA1:=Zh ha1;have HX1:=Zh hx1;have HV1:=Zh hv1;have HQ1:=Zh hq1;clear hmj ha1 hx1 hv1 hq1
  by_cases hlt:j<ln
  .have hji:(j:Int)<(ln:Int):=yie;go_wp2_with (first
    | (go_at_call 51;(with_reducible refine (HKID.o _ _ HA1.o (HX1.o.F _ _ _ HE.o)).mono ?_);rintro e1 w1 ⟨g1,o1,Γ2,rfl,hf1,hi1,hx2,hM2⟩;have HA2:=Zh (zk9 HA1.o hi1 hx2 hM2);have HX2:=Zh hx2;have HF1:=Zh hf1;clear hf1 hi1 hx2 hM2)
    | (go_at_call 30;(with_reducible refine (HEND.o _ _ _ _ _ _ HA2.o HF1.o (HV1.o.ext HX2.o)).mono ?_);rintro e2 w2 ⟨v2,q2,Γ3,rfl,hi3,hx3,hv3,hq3⟩;have HA3:=Zh (HA2.o.ext hx3 hi3);have HX3:=Zh hx3;have HV3:=Zh hv3;have HQ3:=Zh hq3;clear hi3 hx3 hv3 hq3))
   have HEQ:=Zh (ycj w2 0 0 m v2 u7 q2 q1 (by have h1:=HV3.o.pl;rwa [HM.o ()] at h1) (by have h1:=((HV1.o.ext HX2.o).ext HX3.o).pl;rwa [HM.o ()] at h1) hm0 hm);go_at_call 86
   with_reducible refine HEQ.o.mono ?_
   rintro e3 w3 ⟨b,rfl,hb,hbl⟩;have HB:=Zh hb;have HA4:=Zh (HA3.o.stays hbl);have HX4:=Zh (((HX1.o.trans HX2.o).trans HX3.o).trans (Ext.stays Γ3 hbl HA3.o.le));have HV4:=Zh (HV3.o.stays hbl);have HV5:=Zh (((HV1.o.ext HX2.o).ext HX3.o).stays hbl);clear hb hbl HEQ;have hstep:∀ x,q2 x=true↔imgN (E xs u) (fun i=>q i=true) (j+1) x:=fun x=>(HQ3.o x).trans (zjr HQ1.o x)
   have HST:=Zh hstep;clear hstep;cases b
   .go_wp2;go_roundg (ln-(j+1))
    case measure=>have:=HMJ.o;omega
    case rel=>exact⟨j+1,q2,Γ3,by go_num,by omega,rfl,HA4.o,HX4.o,HV4.o,HST.o⟩
   .have hfix:∀ x,q1 x=true↔imgN (E xs u) (fun i=>q i=true) ln x:=by
     have hsame:∀ x,q2 x=true↔q1 x=true:=fun x=>zud HV4.o HV5.o (fun i hi=>HB.o.1 rfl i (by have:=HM.o ();omega)) x
     have hf:∀ x,img (E xs u) (imgN (E xs u) (fun i=>q i=true) j) x↔imgN (E xs u) (fun i=>q i=true) j x:=fun x=>((HST.o x).symm.trans (hsame x)).trans (HQ1.o x)
     intro x;rw[HQ1.o x,show ln=j+(ln-j) by omega,←zh7];exact (zmv hf (ln-j) x).symm
    have HAT:=HA4;have HXT:=HX4;have HVT:=HV5;have HQT:=Zh hfix;clear hfix HB HST;obtain⟨gn2,on2,kn2,m1,m2,m3,curm,m4⟩:=(HAT.o.inv.inv.part g o _ (HXT.o.F _ _ _ HE.o)).2.node;have m5:=m2 5 _ rfl;have m6:=m2 6 _ rfl;rw[show (T.mk 4 za9 (ln:Int) hn [u]).lo=(ln:Int) from rfl] at m5;rw[show (T.mk 4 za9 (ln:Int) hn [u]).hi=(hn:Int) from rfl] at m6;have HCL:=Zh (zqe _ 0 m _ _ (by have h1:=HVT.o.pl;rwa [HM.o ()] at h1) hm0 hm);unfold zf2 at HCL;have M1:=Zh m1;have M5:=Zh m5;have M6:=Zh m6;have HL1:=Zh (HAT.o.inv.inv.old (HXT.o.F _ _ _ HE.o));have HL2:=Zh (za0 m4);clear m1 m2 m3 m4 m5 m6;go_wp2_with (go_at_call 87;(with_reducible refine HCL.o.mono ?_);rintro e4 w4 ⟨vg,rfl,hvg,hb4⟩;have k1:=(hb4.cell (p:=⟨g,o,none⟩) HL1.o).trans M1.o;have k5:=(hb4.cell (p:=⟨gn2,on2+5,none⟩) HL2.o).trans M5.o;have k6:=(hb4.cell (p:=⟨gn2,on2+6,none⟩) HL2.o).trans M6.o;have HVG:=Zh hvg;have HB4:=Zh hb4;clear hvg hb4);go_quiet (fail);go_wp2;have hbq:=below_drewN HB4.o nq;have HA6:=Zh (HAT.o.stays hbq);have HX6:=Zh (HXT.o.trans (Ext.stays _ hbq HAT.o.le));have HV6:=Zh (HVT.o.stays hbq);have HG6:=Zh (Mine.new (w0:=w) HAT.o.inv (HVG.o.stays (below_drewN (yf6 _ _) nq)) HXT.o.below.size);have HD:=Zh (fun _:Unit=>hb1);obtain⟨d,hd⟩:∃ d:Nat,d=hn-ln:=⟨_,rfl⟩;rw[show (hn:Int)-(ln:Int)=(d:Int) by omega];have HDD:=Zh (fun _:Unit=>hd);have hd32:d<=32:=yie;clear hbq k1 k5 k6 hd;generalize w4.drewN nq=w9 at *;go_loopg [10,49] d (fun m' fr i wr2=>∃ (j2:Nat) (qf qg:Nat->Bool) (Γ2:Ghost),i = .int .i64 (j2:Int)∧j2<=d∧m'=d-j2∧Ask wr2 B xs A Γ2∧Ext B w wr2 Γ Γ2∧InW wr2 xs fr qf∧Mine w wr2 B Γ2 vg m qg∧(∀ x,qg x=true->x<=xs.length)∧Found (E xs u) (imgN (E xs u) (fun i=>q i=true) ln) j2 (fun x=>qg x=true) (fun x=>qf x=true))
    case atStart =>
     refine⟨0,_,_,_,rfl,yf8 _,rfl,HA6.o,HX6.o,HV6.o,HG6.o,HV6.o.le,?_⟩;have hs:=Found.start (E xs u) (imgN (E xs u) (fun i=>q i=true) ln);have hfe:=funext fun x=>propext (HQT.o x)
     rw[←hfe] at hs;rw[←hfe];exact hs
    case round =>
     obtain⟨j2,qf,qg,Γ7,rfl,hj2,hmj2,ha7,hx7,hv7,hg7,hle7,hf7⟩:=hrel;have HMJ2:=Zh hmj2;have HA7:=Zh ha7;have HX7:=Zh hx7;have HV7:=Zh hv7;have HG7:=Zh hg7;have HLE7:=Zh hle7;have HF7:=Zh hf7;clear hmj2 ha7 hx7 hv7 hg7 hle7 hf7
     by_cases hlt2:j2<d
     .have hji2:(j2:Int)<(d:Int):=yie;go_wp2_with (first
       | (go_at_call 51;(with_reducible refine (HKID.o _ _ HA7.o (HX7.o.F _ _ _ HE.o)).mono ?_);rintro e1 w1 ⟨g1,o1,Γ8,rfl,hf1,hi1,hx2,hM2⟩;have HA8:=Zh (zk9 HA7.o hi1 hx2 hM2);have HX8:=Zh hx2;have HF1:=Zh hf1;clear hf1 hi1 hx2 hM2)
       | (go_at_call 30;(with_reducible refine (HEND.o _ _ _ _ _ _ HA8.o HF1.o (HV7.o.ext HX8.o)).mono ?_);rintro e2 w2 ⟨v2,q2,Γ9,rfl,hi3,hx3,hv3,hq3⟩;have HA9:=Zh (HA8.o.ext hx3 hi3);have HX9:=Zh hx3;have HV9:=Zh hv3;have HQ9:=Zh hq3;have HG9:=Zh ((HG7.o.ext HX8.o).ext HX9.o);have hwi:=znj w2 0 w.heap.size m v2 vg q2 qg (by have h1:=HV9.o.pl;rwa [HM.o ()] at h1) HG9.o.pl hm0 hm;unfold zf2 at hwi;have HWI:=Zh hwi;clear hi3 hx3 hv3 hq3 hwi)
       | (go_at_call 88;(with_reducible refine HWI.o.mono ?_);rintro e5 w5 ⟨v5,rfl,hv5,hb5⟩;have HV5:=Zh hv5;have HB5:=Zh hb5;clear hv5 hb5))
      have hno:=zvk w5 w2.heap.size m v5 (zbi q2 qg) HV5.o hm0 hm;have HNO:=Zh hno;clear hno;go_at_call 50
      with_reducible refine HNO.o.mono ?_
      rintro e6 w6 ⟨b6,rfl,hb6,rfl⟩;have HB6:=Zh hb6;have HA10:=Zh (HA9.o.stays HB5.o);have HX10:=Zh (((HX7.o.trans HX8.o).trans HX9.o).trans (Ext.stays _ HB5.o HA9.o.le));have HG10:=Zh (HG9.o.kept HB5.o);have hq9:=HQ9.o;have hle9:∀ x,q2 x=true->x<=xs.length:=HV9.o.le;have HLE9:=Zh hle9;clear hb6 hq9 hle9 HNO HWI;cases b6
      .have hjo:=zim w5 w.heap.size w2.heap.size m vg v5 qg (zbi q2 qg) HG10.o.pl HV5.o HX10.o.below.size hm0 hm;unfold zhj at hjo;have HJO:=Zh hjo;clear hjo;go_wp2_with (go_at_call 53;(with_reducible refine HJO.o.mono ?_);rintro e7 w7 ⟨rfl,hv7,hg7⟩;have HV7':=Zh hv7;have HG7':=Zh hg7;clear hv7 hg7);go_roundg (d-(j2+1))
       case measure=>have:=HMJ2.o;omega
       case rel =>
        obtain⟨z1,z2,z3⟩:=HG10.o.set hm0 HA10.o.inv HX10.o HV7'.o HG7'.o HH.o.le;have hleo:∀ x,orP qg (zbi q2 qg) x=true->x<=xs.length:=fun x hx=>by
         simp only[orP,zbi,yh6,yh2] at hx;rcases hx with hx|hx
         .exact HLE7.o x hx
         .exact HLE9.o x hx.1
        refine⟨j2+1,zbi q2 qg,orP qg (zbi q2 qg),_,by go_num,by omega,rfl,HH.o.ext z2 z1,z2,⟨?_,fun x hx=>?_⟩,z3,hleo,HF7.o.step (fun x=>?_) (fun x=>?_)⟩
        .have:=Pl.apart HV5.o HG9.o.pl (yez _) HG7'.o;rw[HM.o ()];exact this.lower (yf8 _)
        .simp only[zbi,yh2] at hx;exact HLE9.o x hx.1
        .rw[←HQ9.o x];simp[zbi]
        .simp[orP]
      .go_wp2;go_ret;have hz:∀ x,img (E xs u) (fun i=>qf i=true) x->qg x=true:=fun x hx=>by
        have h1:=(HQ9.o x).2 hx;have h2:=HLE9.o x h1;have h3:=HB6.o.1 (by trivial) x (by have:=HM.o ();omega);simp only[zbi,h1,yhx] at h3
        simpa using h3
       refine⟨vg,qg,_,rfl,HA10.o.inv,HX10.o,by rw[HM.o ()];exact HG10.o,HLE7.o,fun x=>?_⟩;rw[zhm yie (by have:=HD.o ();omega)];have:=HF7.o.stop hz (d-j2) x;rw[show j2+(d-j2)=d by omega] at this;rw[this,show (ln:Int).toNat=ln by omega,show ((hn:Int)-(ln:Int)).toNat=d by have:=HDD.o ();omega]
     .have hjd:j2=d:=yie;have hji2:¬ ((j2:Int)<(d:Int)):=yie;have HJD:=Zh (fun _:Unit=>hjd);clear hlt2 hjd;go_wp2;go_ret;refine⟨vg,qg,_,rfl,HA7.o.inv,HX7.o,by rw[HM.o ()];exact HG7.o,HLE7.o,fun x=>?_⟩;rw[zhm yie (by have:=HD.o ();omega)];have:=HF7.o.all x;rw[HJD.o ()] at this;rw[this,show (ln:Int).toNat=ln by omega,show ((hn:Int)-(ln:Int)).toNat=d by have:=HDD.o ();omega]
  ·
   have hjn:j=ln:=yie;have HAT:=HA1;have HXT:=HX1;have HVT:=HV1;have HQT:=Zh (fun x=>(HQ1.o x).trans (by rw[hjn]));have hji:¬ ((j:Int)<(ln:Int)):=yie;clear hlt hjn;obtain⟨gn2,on2,kn2,m1,m2,m3,curm,m4⟩:=(HAT.o.inv.inv.part g o _ (HXT.o.F _ _ _ HE.o)).2.node;have m5:=m2 5 _ rfl;have m6:=m2 6 _ rfl;rw[show (T.mk 4 za9 (ln:Int) hn [u]).lo=(ln:Int) from rfl] at m5;rw[show (T.mk 4 za9 (ln:Int) hn [u]).hi=(hn:Int) from rfl] at m6;have HCL:=Zh (zqe _ 0 m _ _ (by have h1:=HVT.o.pl;rwa [HM.o ()] at h1) hm0 hm);unfold zf2 at HCL;have M1:=Zh m1;have M5:=Zh m5;have M6:=Zh m6;have HL1:=Zh (HAT.o.inv.inv.old (HXT.o.F _ _ _ HE.o));have HL2:=Zh (za0 m4);clear m1 m2 m3 m4 m5 m6;go_wp2_with (go_at_call 87;(with_reducible refine HCL.o.mono ?_);rintro e4 w4 ⟨vg,rfl,hvg,hb4⟩;have k1:=(hb4.cell (p:=⟨g,o,none⟩) HL1.o).trans M1.o;have k5:=(hb4.cell (p:=⟨gn2,on2+5,none⟩) HL2.o).trans M5.o;have k6:=(hb4.cell (p:=⟨gn2,on2+6,none⟩) HL2.o).trans M6.o;have HVG:=Zh hvg;have HB4:=Zh hb4;clear hvg hb4);go_quiet (fail);go_wp2;have hbq:=below_drewN HB4.o nq;have HA6:=Zh (HAT.o.stays hbq);have HX6:=Zh (HXT.o.trans (Ext.stays _ hbq HAT.o.le));have HV6:=Zh (HVT.o.stays hbq);have HG6:=Zh (Mine.new (w0:=w) HAT.o.inv (HVG.o.stays (below_drewN (yf6 _ _) nq)) HXT.o.below.size);have HD:=Zh (fun _:Unit=>hb1);obtain⟨d,hd⟩:∃ d:Nat,d=hn-ln:=⟨_,rfl⟩;rw[show (hn:Int)-(ln:Int)=(d:Int) by omega];have HDD:=Zh (fun _:Unit=>hd);have hd32:d<=32:=yie;clear hbq k1 k5 k6 hd;generalize w4.drewN nq=w9 at *;go_loopg [10,49] d (fun m' fr i wr2=>∃ (j2:Nat) (qf qg:Nat->Bool) (Γ2:Ghost),i = .int .i64 (j2:Int)∧j2<=d∧m'=d-j2∧Ask wr2 B xs A Γ2∧Ext B w wr2 Γ Γ2∧InW wr2 xs fr qf∧Mine w wr2 B Γ2 vg m qg∧(∀ x,qg x=true->x<=xs.length)∧Found (E xs u) (imgN (E xs u) (fun i=>q i=true) ln) j2 (fun x=>qg x=true) (fun x=>qf x=true))
   case atStart =>
    refine⟨0,_,_,_,rfl,yf8 _,rfl,HA6.o,HX6.o,HV6.o,HG6.o,HV6.o.le,?_⟩;have hs:=Found.start (E xs u) (imgN (E xs u) (fun i=>q i=true) ln);have hfe:=funext fun x=>propext (HQT.o x)
    rw[←hfe] at hs;rw[←hfe];exact hs
   case round =>
    obtain⟨j2,qf,qg,Γ7,rfl,hj2,hmj2,ha7,hx7,hv7,hg7,hle7,hf7⟩:=hrel;have HMJ2:=Zh hmj2;have HA7:=Zh ha7;have HX7:=Zh hx7;have HV7:=Zh hv7;have HG7:=Zh hg7;have HLE7:=Zh hle7;have HF7:=Zh hf7;clear hmj2 ha7 hx7 hv7 hg7 hle7 hf7
    by_cases hlt2:j2<d
    .have hji2:(j2:Int)<(d:Int):=yie;go_wp2_with (first
      | (go_at_call 51;(with_reducible refine (HKID.o _ _ HA7.o (HX7.o.F _ _ _ HE.o)).mono ?_);rintro e1 w1 ⟨g1,o1,Γ8,rfl,hf1,hi1,hx2,hM2⟩;have HA8:=Zh (zk9 HA7.o hi1 hx2 hM2);have HX8:=Zh hx2;have HF1:=Zh hf1;clear hf1 hi1 hx2 hM2)
      | (go_at_call 30;(with_reducible refine (HEND.o _ _ _ _ _ _ HA8.o HF1.o (HV7.o.ext HX8.o)).mono ?_);rintro e2 w2 ⟨v2,q2,Γ9,rfl,hi3,hx3,hv3,hq3⟩;have HA9:=Zh (HA8.o.ext hx3 hi3);have HX9:=Zh hx3;have HV9:=Zh hv3;have HQ9:=Zh hq3;have HG9:=Zh ((HG7.o.ext HX8.o).ext HX9.o);have hwi:=znj w2 0 w.heap.size m v2 vg q2 qg (by have h1:=HV9.o.pl;rwa [HM.o ()] at h1) HG9.o.pl hm0 hm;unfold zf2 at hwi;have HWI:=Zh hwi;clear hi3 hx3 hv3 hq3 hwi)
      | (go_at_call 88;(with_reducible refine HWI.o.mono ?_);rintro e5 w5 ⟨v5,rfl,hv5,hb5⟩;have HV5:=Zh hv5;have HB5:=Zh hb5;clear hv5 hb5))
     have hno:=zvk w5 w2.heap.size m v5 (zbi q2 qg) HV5.o hm0 hm;have HNO:=Zh hno;clear hno;go_at_call 50
     with_reducible refine HNO.o.mono ?_
     rintro e6 w6 ⟨b6,rfl,hb6,rfl⟩;have HB6:=Zh hb6;have HA10:=Zh (HA9.o.stays HB5.o);have HX10:=Zh (((HX7.o.trans HX8.o).trans HX9.o).trans (Ext.stays _ HB5.o HA9.o.le));have HG10:=Zh (HG9.o.kept HB5.o);have hq9:=HQ9.o;have hle9:∀ x,q2 x=true->x<=xs.length:=HV9.o.le;have HLE9:=Zh hle9;clear hb6 hq9 hle9 HNO HWI;cases b6
     .have hjo:=zim w5 w.heap.size w2.heap.size m vg v5 qg (zbi q2 qg) HG10.o.pl HV5.o HX10.o.below.size hm0 hm;unfold zhj at hjo;have HJO:=Zh hjo;clear hjo;go_wp2_with (go_at_call 53;(with_reducible refine HJO.o.mono ?_);rintro e7 w7 ⟨rfl,hv7,hg7⟩;have HV7':=Zh hv7;have HG7':=Zh hg7;clear hv7 hg7);go_roundg (d-(j2+1))
      case measure=>have:=HMJ2.o;omega
      case rel =>
       obtain⟨z1,z2,z3⟩:=HG10.o.set hm0 HA10.o.inv HX10.o HV7'.o HG7'.o HH.o.le;have hleo:∀ x,orP qg (zbi q2 qg) x=true->x<=xs.length:=fun x hx=>by
        simp only[orP,zbi,yh6,yh2] at hx;rcases hx with hx|hx
        .exact HLE7.o x hx
        .exact HLE9.o x hx.1
       refine⟨j2+1,zbi q2 qg,orP qg (zbi q2 qg),_,by go_num,by omega,rfl,HH.o.ext z2 z1,z2,⟨?_,fun x hx=>?_⟩,z3,hleo,HF7.o.step (fun x=>?_) (fun x=>?_)⟩
       .have:=Pl.apart HV5.o HG9.o.pl (yez _) HG7'.o;rw[HM.o ()];exact this.lower (yf8 _)
       .simp only[zbi,yh2] at hx;exact HLE9.o x hx.1
       .rw[←HQ9.o x];simp[zbi]
       .simp[orP]
     .go_wp2;go_ret;have hz:∀ x,img (E xs u) (fun i=>qf i=true) x->qg x=true:=fun x hx=>by
       have h1:=(HQ9.o x).2 hx;have h2:=HLE9.o x h1;have h3:=HB6.o.1 (by trivial) x (by have:=HM.o ();omega);simp only[zbi,h1,yhx] at h3
       simpa using h3
      refine⟨vg,qg,_,rfl,HA10.o.inv,HX10.o,by rw[HM.o ()];exact HG10.o,HLE7.o,fun x=>?_⟩;rw[zhm yie (by have:=HD.o ();omega)];have:=HF7.o.stop hz (d-j2) x;rw[show j2+(d-j2)=d by omega] at this;rw[this,show (ln:Int).toNat=ln by omega,show ((hn:Int)-(ln:Int)).toNat=d by have:=HDD.o ();omega]
    .have hjd:j2=d:=yie;have hji2:¬ ((j2:Int)<(d:Int)):=yie;have HJD:=Zh (fun _:Unit=>hjd);clear hlt2 hjd;go_wp2;go_ret;refine⟨vg,qg,_,rfl,HA7.o.inv,HX7.o,by rw[HM.o ()];exact HG7.o,HLE7.o,fun x=>?_⟩;rw[zhm yie (by have:=HD.o ();omega)];have:=HF7.o.all x;rw[HJD.o ()] at this;rw[this,show (ln:Int).toNat=ln by omega,show ((hn:Int)-(ln:Int)).toNat=d by have:=HDD.o ();omega]
end
section
open Go Go.RowKit Go.Shelf
attribute [local go_sem] Oper.semAt_some
def hitP (p:Nat->Bool) (xs:List Int) (y x:Nat):Bool:=decide (y<xs.length)&&p (xs.getD y 0).toNat&&x==y+1
theorem ya9 {w:World} {B c:Nat} {xs:List Int} {A:Option Addr} {Γ:Ghost} {g o:Nat} {t:T} {v:Value} {q:Nat->Bool} (h:Ask w B xs A Γ) (e:Γ.F g o=some t) (h1:t.op=1) (hv:InW w xs v q):
 Calls Tryd.prog 49 #[.pointer (some ⟨g,o,none⟩),.slice A xs.length c,v] w (RetMine B w xs Γ (img (E xs t) fun i=>q i=true)):=by
 have hm:xs.length / 64+1<=1000000:=(by have:=h.len;omega);obtain⟨gs,cs,rfl,_,hgs⟩:=hv.pl.form yie;have hp:=(h.inv.inv.part g o t e).2;obtain⟨gn,on,kn,n1,n2,n3,curn,n4⟩:=hp.node;obtain⟨curp,hpb⟩:=hp.block;have hlen:=h.len;have HH:=Zh h;have HV:=Zh hv;have HN2:=Zh n2;have HNW:=Zh (fun w=>zf8 w xs.length yie);unfold zf2 at HNW;generalize hM:xs.length / 64+1=m at *;have HM:=Zh (fun _:Unit=>hM);have hm0:0<m:=yie;refine (callsIn_wide (n:=3)).1 ?_;refine callsIn_of_wp_marks Tryd.func49 rfl trivial ?_ rfl;simp only[Tryd.ntmps49,yic,yg7,yh5,Nat.reduceAdd,Nat.reduceSub,yi1,yi2,yid,yi7,yhc,ygg];clear h hv n2 n3 hp hM
 gi_wp2_with (refine⟨trivial,?_⟩;first
  | (gi_at_call 52;refine (callsIn_wide.2 (HNW.o _)).mono ?_;rintro e1 w2 ⟨v2,rfl,hv2,hb2⟩;obtain⟨gf,cf,rfl,hgf1,hgf2⟩:=hv2.form hm0;have HV2:=Zh hv2;clear hv2)
  | (gi_at_call 69;refine (yar _ _ _ _ _).mono ?_;rintro e1 w3 ⟨rfl,rfl⟩))
 have s0:(w.alloc (.cells #[.pointer (some ⟨g,o,none⟩)] 139)).heap.size=w.heap.size+1:=yii;have s1:((w.alloc (.cells #[.pointer (some ⟨g,o,none⟩)] 139)).alloc (.cells #[.slice A xs.length c] 24)).heap.size=w.heap.size+2:=yii;have p0:w2.cell? ⟨w.heap.size,0,none⟩=some (.pointer (some ⟨g,o,none⟩)):=by
  rw[hb2.cell (p:=⟨w.heap.size,0,none⟩) (by rw[s1];show w.heap.size<_;omega)];simp[yhk]
 have p1:w2.cell? ⟨w.heap.size+1,0,none⟩=some (.slice A xs.length c):=by
  rw[hb2.cell (p:=⟨w.heap.size+1,0,none⟩) (by rw[s1];show w.heap.size+1<_;omega)];have:=yhk (w.alloc (.cells #[.pointer (some ⟨g,o,none⟩)] 139)) #[.slice A xs.length c] 24 0;rw[yfe] at this;exact this
 have hB2:Below w.heap.size w w2:=((((yf6 _ _).alloc (yez _) _).alloc yii _)).trans (hb2.mono (by rw[s1];omega));have hs2:=hb2.size;rw[s1] at hs2 hgf1;obtain⟨W5,hW5⟩:∃ W5,W5=((w2.alloc (.cells #[.slice (some ⟨gf,0,none⟩) m cf] 103)).alloc (.cells #[.slice (some ⟨gs,0,none⟩) m cs] 103)):=⟨_,rfl⟩;rw[←hW5];have s5:W5.heap.size=w2.heap.size+2:=(by rw[hW5];simp);have b25:Below w2.heap.size w2 W5:=(by rw[hW5];exact ((yf6 _ _).alloc (yez _) _).alloc yii _);have hB5:Below w.heap.size w W5:=hB2.trans (b25.mono yie);have q0:W5.cell? ⟨w.heap.size,0,none⟩=some (.pointer (some ⟨g,o,none⟩)):=(b25.cell (p:=⟨w.heap.size,0,none⟩) (by show w.heap.size<_;omega)).trans p0;have q1:W5.cell? ⟨w.heap.size+1,0,none⟩=some (.slice A xs.length c):=(b25.cell (p:=⟨w.heap.size+1,0,none⟩) (by show w.heap.size+1<_;omega)).trans p1;have q2:W5.cell? ⟨w2.heap.size,0,none⟩=some (.slice (some ⟨gf,0,none⟩) m cf):=(by rw[hW5];simp);have q3:W5.cell? ⟨w2.heap.size+1,0,none⟩=some (.slice (some ⟨gs,0,none⟩) m cs):=by
  rw[hW5];have:=yhk (w2.alloc (.cells #[.slice (some ⟨gf,0,none⟩) m cf] 103)) #[.slice (some ⟨gs,0,none⟩) m cs] 103 0;rw[yfe] at this;exact this
 have hpl5:Pl W5 w.heap.size (.slice (some ⟨gf,0,none⟩) m cf) m za9:=(HV2.o.stays b25).lower (by rw[s1];omega);have hask5:=HH.o.stays hB5;have hv5:=HV.o.stays hB5;have HP5:=Zh hpl5;have HA5:=Zh hask5;have HB5:=Zh hB5;have hpv5:Pl W5 0 (.slice (some ⟨gs,0,none⟩) m cs) m q:=(by have h5:=hv5.pl;rwa [HM.o ()] at h5);clear hW5 p0 p1 hpl5 hask5 hv5 b25 hB2 hb2 s0 s1;have hq:=zp7 2 yie (w2.heap.size+1) gs m cs 0 q hm W5 yie q3 hpv5 yie HA5.o.tab;have e1:=enters_of Tryd.func84 yih rfl;have hkb:=ydw (w:=W5) (g:=gs) yie HA5.o.tab.1;obtain⟨I,hI⟩:∃ I:List (UpAt q (64*m))->World->Prop,I=(fun pre W=>(∀ b,b<W5.heap.size->b≠gf->W.heap[b]?=W5.heap[b]?)∧Below w.heap.size w W∧W5.heap.size<=W.heap.size∧Pl W w.heap.size (.slice (some ⟨gf,0,none⟩) m cf) m (zn0 (fun y=>hitP t.set xs y.1) pre)):=⟨_,rfl⟩;have hI1:OwnFrom W5.heap.size I:=by
  rw[hI];exact fun pre W W' row hs hg hr=>⟨fun b hb hne=>(hg.block b (yff hb hs.2.2.1) (fun er=>by have:=(hr b er.symm).1;omega)).trans (hs.1 b hb hne),hs.2.1.grown hg hs.2.1.size (fun k e=>yfa HB5.o.size (hr k e).1),yfa hs.2.2.1 hg.size,hs.2.2.2.turn (zco hg (fun r er=>(hr r er).2))⟩
 have hI0:I [] W5:=by
  rw[hI];exact⟨fun _ _ _=>rfl,HB5.o,yez _,HP5.o⟩
 have HI:=Zh (fun _:Unit=>hI);clear hI;refine wpIn_rangeFunc_ownG (F:=Fence.wide) (n:=3) rfl yij (gf:=84) (lb:=#[.pointer (some ⟨w2.heap.size+1,0,none⟩)]) rfl trivial e1 hq KpW.trans hkb (yf6 _ _) (fun _=>rfl)
  I (fun _ _ _=>False) hI1 (fun _ _ _ _ _ hs _ _=>hs) hI0
  (fun x=>{tmps:=#[.pointer (some ⟨g,o,none⟩),.slice A xs.length c,.slice (some ⟨gs,0,none⟩) m cs,.pointer (some ⟨w.heap.size,0,none⟩),.pointer (some ⟨w.heap.size+1,0,none⟩),undef,.slice none 0 0,.pointer (some ⟨w2.heap.size,0,none⟩),.int .i64 (x.1:Int),.slice A xs.length c,.int .i64 xs.length,.slice (some ⟨gf,0,none⟩) m cf,.slice (some ⟨gs,0,none⟩) m cs,.func (.func 84) #[] #[.pointer (some ⟨w2.heap.size+1,0,none⟩)],.int .i64 (x.1:Int),undef,undef,undef,undef,undef,undef,undef,undef,undef,undef,undef,undef,undef,undef,undef,undef,undef,undef,undef,undef,undef,undef,undef],defers:=[]}) ?assign ?body ?done ?stop
 case assign =>
  clear hI0 hI1 hq hkb e1;intro l x W K hK
  gi_wp2
  exact hK
 case body =>
  clear hI0 hI1 hq hkb e1;intro l pre x W hi hlt;rw[HI.o ()] at hi;obtain⟨hI1,hIB,hI2,hI3⟩:=hi;have old:∀ b o',b<W5.heap.size->b≠gf->W.cell? ⟨b,o',none⟩=W5.cell? ⟨b,o',none⟩:=fun b o' h1 h2=>yfp (w:=W5) (a:=⟨b,o',none⟩) (hI1 b h1 h2)
  have c3:=(old w.heap.size 0 yie yie).trans q0;have c4:=(old (w.heap.size+1) 0 yie yie).trans q1;have c7:=(old w2.heap.size 0 yie yie).trans q2;have HI1:=Zh hI1;have HIB:=Zh hIB;have HI3:=Zh hI3;have HLT:=Zh hlt;obtain⟨y,hy⟩:∃ y:Nat,y=x.1:=⟨_,rfl⟩;rw[←hy];have HY:=Zh (fun _:Unit=>hy);have hx1:y<64*m:=(by rw[hy];exact x.2.1);have hle:y<=xs.length:=HV.o.le y (by rw[hy];exact x.2.2);have hsn:∀ z,zn0 (fun y:UpAt q (64*m)=>hitP t.set xs y.1) (pre++[x]) z=(zn0 (fun y:UpAt q (64*m)=>hitP t.set xs y.1) pre z||hitP t.set xs y z):=fun z=>by rw[hy];exact ztt _ _ _ _
  have HSN:=Zh hsn;have HOLD:=Zh old;clear old;clear hI1 hIB hI3 hlt hy hsn q0 q1 q2 q3 hpv5;have hd:1<=3-1-1:=yij;have hmx:Tryd.prog.follows .mixedOrders=true:=yih;obtain⟨L,hL⟩:∃ L:Nat,L=xs.length:=⟨_,rfl⟩;rw[←hL] at hle c4 ⊢;have HL:=Zh (fun _:Unit=>hL);have HLE:=Zh hle;have HX1:=Zh hx1;clear hlen hL hle hx1
  by_cases hyl:y<L
  .have hyi:(y:Int)<(L:Int):=yie;have hyi0:(0:Int)<=(y:Int):=yie;have hrd:=HH.o.rd.below (HIB.o.mono HH.o.le);have hl:=HL.o ();obtain⟨b,off,hA,hbB,hcb⟩:=hrd.at (k:=y) yie;obtain⟨y0,y1⟩:=HH.o.byte y yie;have hby:=hcb y yie;have hHK:=fun W'=>ycb t.set (xs.getD y 0) W' y0 y1
   have hadd:∀ W' q',Pl W' w.heap.size (.slice (some ⟨gf,0,none⟩) m cf) m q'->Calls Tryd.prog 55 #[.slice (some ⟨gf,0,none⟩) m cf,.int .i64 ((y:Int)+1)] W' (zhj W' w.heap.size m (.slice (some ⟨gf,0,none⟩) m cf) (add1 q' (y+1))):=fun W' q' hq'=>by
    have:=zv4 W' w.heap.size m (y+1) _ q' hq' (by have h1:=HM.o ();omega) hm
    rwa [show ((y+1:Nat):Int)=(y:Int)+1 by omega] at this
   unfold zhj at hadd;have HADD:=Zh hadd;generalize hby0:xs.getD y 0=x0 at *;have HBY:=Zh (fun _:Unit=>hby0);have hgw:=za0 hpb;have hgnw:=za0 n4;have d0:=(HIB.o.cell (p:=⟨g,o,none⟩) hgw).trans n1;have hnb:=HN2.o.block (HIB.o.block gn hgnw);have d1:=hnb 1 _ rfl;have d2:=hnb 2 _ rfl;have d3:=hnb 3 _ rfl;have d4:=hnb 4 _ rfl;have HHK:=Zh hHK;subst hA;have HHR:=Zh HH;clear hrd hcb hHK hadd hby0 hnb HN2 n1 hl hpb n4 HA5 HB5;cases hs:t.set x0.toNat
   .have HS:=Zh hs;have HHK2:Hid (∀ W',Calls Tryd.prog 58 #[.agg #[.int .u64 (word t.set 0),.int .u64 (word t.set 1),.int .u64 (word t.set 2),.int .u64 (word t.set 3)],.int .u8 x0] W' fun e w'=>e = .returned (.bool false)∧Below W'.heap.size W' w'):=fun W'=>(HHK.o W').mono fun e w' k=>by rw[HS.o] at k;exact k
    clear hs HHK
    gi_wp2
    refine zde 16 hmx yih yih (by rintro⟨_,_,h⟩;exact h) ?_;simp only[yi8,yhs,List.drop_succ_cons,List.drop_zero]
    iterate 16
     with_reducible refine wpStill_step (fun K hK=>?_)
     have HK:=Zh hK;clear hK;go_simp
     with_reducible refine HK.o _ ?_
     clear HK K
    with_reducible refine wpStill_nil ?_
    go_wp2_with (go_at_call 58;(with_reducible refine (HHK2.o _).mono ?_);rintro e w5 ⟨rfl,hb5⟩;have hb6:=zez hb5;have HB6:=Zh hb6;clear hb5 hb6)
    gi_wp2
    have hb6:=HB6.o;refine⟨zjq hb6,⟨hb6.size,hb6.block gs yie,hb6.block _ (yff HH.o.tab.1 HIB.o.size)⟩,?_⟩;rw[HI.o ()];refine⟨fun b hb hne=>(hb6.block b yie).trans (HI1.o b hb hne),HIB.o.trans (hb6.mono HIB.o.size),yfa hI2 hb6.size,(HI3.o.stays hb6).same fun z=>?_⟩;rw[HSN.o,show hitP t.set xs y z=false by unfold hitP;rw[HBY.o (),HS.o];simp,Bool.or_false]
   .have HS:=Zh hs;have HHK2:Hid (∀ W',Calls Tryd.prog 58 #[.agg #[.int .u64 (word t.set 0),.int .u64 (word t.set 1),.int .u64 (word t.set 2),.int .u64 (word t.set 3)],.int .u8 x0] W' fun e w'=>e = .returned (.bool true)∧Below W'.heap.size W' w'):=fun W'=>(HHK.o W').mono fun e w' k=>by rw[HS.o] at k;exact k
    clear hs HHK
    gi_wp2
    refine zde 16 hmx yih yih (by rintro⟨_,_,h⟩;exact h) ?_;simp only[yi8,yhs,List.drop_succ_cons,List.drop_zero]
    iterate 16
     with_reducible refine wpStill_step (fun K hK=>?_)
     have HK:=Zh hK;clear hK;go_simp
     with_reducible refine HK.o _ ?_
     clear HK K
    with_reducible refine wpStill_nil ?_
    go_wp2_with (go_at_call 58;(with_reducible refine (HHK2.o _).mono ?_);rintro e w5 ⟨rfl,hb5⟩;have hb6:=zez hb5;have c7':=(hb6.cell (p:=⟨w2.heap.size,0,none⟩) (by show w2.heap.size<_;omega)).trans c7;have HB6:=Zh hb6;clear hb5 hb6);have hL1:L<=100000:=(by have h1:=HH.o.len;have h2:=HL.o ();omega);have HADD2:=Zh (fun N=>CallsIn.inRound l ((callsIn_wide (n:=N)).2 (HADD.o w5 _ (HI3.o.stays HB6.o))))
    gi_wp2_with (refine⟨trivial,?_⟩;gi_at_call 55;(with_reducible refine (HADD2.o _).mono ?_);rintro e w6 ⟨rfl,hv6,hg6⟩;have HV6:=Zh hv6;have HG6:=Zh hg6;clear hv6 hg6)
    have hb6:=HB6.o;have hg6:=HG6.o;have hrow:∀ j,(Value.slice (some ⟨gf,0,none⟩) m cf).ownBlock=some j->j=gf:=fun j e=>by cases e;rfl
    have hblk:∀ b,b<W.heap.size->b≠gf->w6.heap[b]?=W.heap[b]?:=fun b h1 h2=>(hg6.block b (yff h1 hb6.size) (fun e=>h2 (hrow b e.symm))).trans (hb6.block b h1)
    have htab:=HH.o.tab.1;refine⟨(zjq hb6).trans (KeepsFrom.of_grownBy hg6 fun j e=>by have:=hrow j e;omega),⟨yfa hb6.size hg6.size,hblk gs yie yie,hblk _ (yff htab HIB.o.size) yie⟩,?_⟩;rw[HI.o ()];refine⟨fun b hb hne=>(hblk b yie hne).trans (HI1.o b hb hne),(HIB.o.trans (hb6.mono HIB.o.size)).grown hg6 (yfa HIB.o.size hb6.size) (fun k e=>by have:=hrow k e;omega),yfa hI2 (yfa hb6.size hg6.size),HV6.o.same fun z=>?_⟩;have hl:=HL.o ();rw[HSN.o,show hitP t.set xs y z=(z==y+1) by unfold hitP;rw[HBY.o (),HS.o,←hl];simp[hyl]];rfl
  .have hyi:¬ ((y:Int)<(L:Int)):=yie;have HYL:=Zh hyl;clear hyl
   gi_wp2
   refine zde 16 hmx yih yih (by rintro⟨_,_,h⟩;exact h) ?_;simp only[yi8,yhs,List.drop_succ_cons,List.drop_zero];have hyn:¬ y<L:=HYL.o;clear hyi
   iterate 16
    with_reducible refine wpStill_step (fun K hK=>?_)
    have HK:=Zh hK;clear hK;go_simp
    with_reducible refine HK.o _ ?_
    clear HK K
   with_reducible refine wpStill_nil ?_
   go_wp2
   gi_wp2
   refine⟨(KeepsOthers.drew W).from _,⟨yez _,rfl,rfl⟩,?_⟩;rw[HI.o ()];refine⟨HI1.o,HIB.o.drew,hI2,HI3.o.same fun z=>?_⟩;have hl:=HL.o ();rw[HSN.o,show hitP t.set xs y z=false by unfold hitP;rw[←hl];simp[hyn],Bool.or_false]
 case done =>
  clear hI0 hI1 hq hkb e1;intro D ys W hD hys hi hK;rw[HI.o ()] at hi;obtain⟨hI1,hIB,hI2,hI3⟩:=hi;have r2:W.cell? ⟨w2.heap.size,0,none⟩=some (.slice (some ⟨gf,0,none⟩) m cf):=(yfp (w:=W5) (a:=⟨w2.heap.size,0,none⟩) (hI1 w2.heap.size yie yie)).trans q2;have HK:=Zh hK;have HI1:=Zh hI1;have HIB:=Zh hIB;have HI3:=Zh hI3;have HYS:=Zh (fun _:Unit=>hys);clear hK hI1 hI3 hys hIB
  gi_wp2
  refine⟨by simp,.inl ⟨_,_,rfl,run_takeDeferred HK.o,?_⟩⟩;have hgo:=grownBy_putObj' W D (.deferred none);have hrow:∀ r,some D=some r->∃ o:Obj,W.heap[r]?=some o∧o.isCells=false:=fun r e=>by cases e;exact⟨_,HK.o,rfl⟩
  have hBw:=HIB.o.grown hgo HIB.o.size (fun k e=>by cases e;have:=HB5.o.size;omega);refine⟨_,results_tmp rfl _ _ _,.slice (some ⟨gf,0,none⟩) m cf,zn0 (fun y:UpAt q (64*m)=>hitP t.set xs y.1) ys,Γ,rfl,HH.o.inv.stays hBw,Ext.stays Γ hBw HH.o.le,?_,?_,?_⟩
  .rw[HM.o ()];exact Mine.new HH.o.inv (HI3.o.turn (zco hgo hrow)) (yez _)
  .intro z hz;rw[zs2 ys (HYS.o ())] at hz;obtain⟨i,_,_,hi⟩:=hz;simp[hitP] at hi;omega
  .intro z;rw[zs2 ys (HYS.o ())];have hM:=HM.o ();cases t with
   | mk op p lo hi l =>
    have eo:op=1:=h1;subst eo;simp only[img,E_one,hitP,T.set];constructor
    .rintro⟨i,h1,h2,h3⟩;simp at h3;exact⟨i,h2,h3.1.1,h3.1.2,h3.2⟩
    .rintro⟨i,h2,h3,h4,h5⟩;refine⟨i,by omega,h2,?_⟩;simp;exact⟨⟨h3,h4⟩,h5⟩
 case stop =>
  rintro D c pre W _ _ h _;exact h.elim
end
end Go.Proofs.YtipfgpfplakhiaaDoor
