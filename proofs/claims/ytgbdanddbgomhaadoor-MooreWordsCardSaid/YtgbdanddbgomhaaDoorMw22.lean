import Derived.Test.YtgbdanddbgomhaaDoorMw21
import Derived.Test.YtgbdanddbgomhaaDoorMw20
set_option linter.unusedVariables false
set_option linter.unusedSimpArgs false
namespace Go.Proofs.YtgbdanddbgomhaaDoor
open Go Go.RowKit
mutual
def anyP:T->Nat->Bool
 | .mk op p lo hi l=>fun x=>p x||anyL l x
def anyL:List T->Nat->Bool
 | []=>fun _=>false
 | t::ts=>fun x=>anyP t x||anyL ts x
end
def RetSetOf (w:World) (p:Nat->Bool) (e:Ending) (w':World):Prop:=e = .returned (setV p)∧Below w.heap.size w w'
section
open Go
def Shift (a n:Nat) (R R':Nat->Nat->Prop):Prop:=∀ i j,i<=n->j<=n->(R (a+i) (a+j)↔R' i j)
def Onw (R:Nat->Nat->Prop) (N:Nat):Prop:=∀ i j,i<=N->R i j->i<=j∧j<=N
theorem zgd {a n N:Nat} {R R' S S':Nat->Nat->Prop} (hN:a+n<=N) (hR:Shift a n R R') (hS:Shift a n S S') (fR:Onw R N) (fS:Onw S N) (fR':Onw R' n):
   Shift a n (fun i j=>∃ k,R i k∧S k j) (fun i j=>∃ k,R' i k∧S' k j):=by
 intro i j hi hj;constructor
 . rintro⟨k,h1,h2⟩;have b1:=fR (a+i) k (by omega) h1;have b2:=fS k (a+j) b1.2 h2;refine⟨k-a,?_,?_⟩
   . have:=(hR i (k-a) hi (by omega)).1;rw[show a+(k-a)=k by omega] at this;exact this h1
   . have:=(hS (k-a) j (by omega) hj).1;rw[show a+(k-a)=k by omega] at this;exact this h2
 . rintro⟨k,h1,h2⟩;have b1:=fR' i k hi h1;exact⟨a+k,(hR i k hi b1.2).2 h1,(hS k j b1.2 hj).2 h2⟩
theorem zlg (a n:Nat):Shift a n (fun i j=>i=j) (fun i j=>i=j):=by
 intro i j _ _;constructor
 . intro h;omega
 . intro h;omega
theorem zmh {R:Nat->Nat->Prop} {N:Nat} (h:Onw R N) (m:Nat):Onw (iter R m) N:=fun i j hi hE=>zi5 h m i j hi hE
theorem ze3 {a n N:Nat} {R R':Nat->Nat->Prop} (hN:a+n<=N) (hR:Shift a n R R') (fR:Onw R N) (fR':Onw R' n):∀ m,Shift a n (iter R m) (iter R' m)
 | 0=>zlg a n
 | m+1=>zgd hN (ze3 hN hR fR fR' m) hR (zmh fR m) fR (zmh fR' m)
theorem zmg (us xs bs:List Int) (i:Nat) (h:i<xs.length):(us++xs++bs).getD (us.length+i) 0=xs.getD i 0:=by
 rw[List.getD_eq_getElem?_getD,List.getD_eq_getElem?_getD,List.append_assoc,List.getElem?_append_right (by omega),show us.length+i-us.length=i by omega,List.getElem?_append_left h]
theorem zks {xs:List Int} {t:T} (h:WF t):Onw (E xs t) xs.length:=fun i j hi hE=>E_bd h i j hi hE
theorem zmi {xs:List Int}:∀ {l:List T},(∀ x∈l,WF x)->Onw (ECat xs l) xs.length
 | [],_,i,j,hi,h=>by have e:i=j:=h;omega
 | t::ts,hw,i,j,hi,h=>by
   obtain⟨k,h1,h2⟩:=h;have a:=zks (hw t (by simp)) i k hi h1;have b:=zmi (fun x hx=>hw x (by simp[hx])) k j a.2 h2;omega
theorem zw7 (us xs bs:List Int) {t:T} (h:WF t):Shift us.length xs.length (E (us++xs++bs) t) (E xs t):=by
 have hlen:us.length+xs.length<=(us++xs++bs).length:=(by simp);induction h with
 | one p =>
   intro i j hi hj;rw[E_one,E_one];constructor
   . rintro⟨h1,h2,h3⟩;have hl:i<xs.length:=(by omega);rw[zmg us xs bs i hl] at h2;exact⟨hl,h2,by omega⟩
   . rintro⟨h1,h2,h3⟩;refine⟨by omega,?_,by omega⟩;rw[zmg us xs bs i h1];exact h2
 | cat l h2 hN h ih =>
   have key:∀ (l:List T),(∀ x∈l,WF x)->(∀ x∈l,Shift us.length xs.length (E (us++xs++bs) x) (E xs x))->Shift us.length xs.length (ECat (us++xs++bs) l) (ECat xs l):=by
     intro l;induction l with
     | nil=>exact fun _ _=>zlg _ _
     | cons t ts ihl=>exact fun hw hs=>zgd hlen (hs t (by simp)) (ihl (fun x hx=>hw x (by simp[hx])) (fun x hx=>hs x (by simp[hx]))) (zks (hw t (by simp))) (zmi (fun x hx=>hw x (by simp[hx]))) (zks (hw t (by simp)))
   intro i j hi hj;rw[zom,zom];exact key l h ih i j hi hj
 | alt l h2 hN h ih =>
   intro i j hi hj;rw[zon,zon,zd8,zd8];constructor
   . rintro⟨t,ht,hE⟩;exact⟨t,ht,(ih t ht i j hi hj).1 hE⟩
   . rintro⟨t,ht,hE⟩;exact⟨t,ht,(ih t ht i j hi hj).2 hE⟩
 | rep m n t h0 h1 h2 h3 h ih =>
   intro i j hi hj;rw[zl4,zl4];constructor
   . rintro⟨k,ha,hb,hE⟩;rw[zbi] at hE;exact⟨k,ha,hb,by rw[zbi];exact (ze3 hlen ih (zks h) (zks h) k i j hi hj).1 hE⟩
   . rintro⟨k,ha,hb,hE⟩;rw[zbi] at hE;exact⟨k,ha,hb,by rw[zbi];exact (ze3 hlen ih (zks h) (zks h) k i j hi hj).2 hE⟩
theorem zw8 (xs ys:List Int) {t:T} (h:WF t):E (xs++ys) t xs.length (xs.length+ys.length)↔E ys t 0 ys.length:=by
 have:=zw7 xs ys [] h 0 ys.length (Nat.zero_le _) (Nat.le_refl _)
 simpa using this
end
section
attribute [local go_sem ↓] Go.wp_at_zero Go.wp_at_succ
structure Ghost where
 F:Nat->Nat->Option T
 G:Nat->Option T
 M:Nat->Prop
section
variable (w:World) (B:Nat) (xs:List Int) (Γ:Ghost)
structure PartOk (g o:Nat) (t:T):Prop where
 four:o % 4=0
 block:∃ cur,w.heap[g]?=some (.cells cur 82 (0,0))
 wf:WF t
 node:∃ gn on kn,w.cell? ⟨g,o,none⟩=some (.pointer (some ⟨gn,on,none⟩))∧NodeAt w gn on t kn∧Tree w (fun _=>True) t kn∧∃ cur,w.heap[gn]?=some (.cells cur 29 (0,0))
 kids:w.cell? ⟨g,o+1,none⟩=some (.slice none 0 0)∨∃ gk,w.cell? ⟨g,o+1,none⟩=some (.slice (some ⟨gk,0,none⟩) t.kids.length t.kids.length)∧∀ (i:Nat) (hi:i<t.kids.length),Γ.F gk (i*4)=some (t.kids[i]'hi)
 asked:∃ a:Nat,w.cell? ⟨g,o+2,none⟩=some (.int .i64 a)∧a<=xs.length+1
 starts:w.cell? ⟨g,o+3,none⟩=some (.slice none 0 0)∨∃ gf,w.cell? ⟨g,o+3,none⟩=some (.slice (some ⟨gf,0,none⟩) (xs.length+1) (xs.length+1))∧Γ.G gf=some t
structure FromOk (gf:Nat) (t:T):Prop where
 block:∃ cur,w.heap[gf]?=some (.cells cur 84 (0,0))
 cells:∀ i,i<=xs.length->∃ v,w.cell? ⟨gf,i,none⟩=some v∧(v = .slice none 0 0∨∃ q:Nat->Bool,Pl w B v (xs.length / 64+1) q∧(∀ g,v.ownBlock=some g->Γ.M g)∧∀ j,q j=true↔E xs t i j)
structure Inv:Prop where
 part:∀ g o t,Γ.F g o=some t->B<=g∧PartOk w xs Γ g o t
 starts:∀ gf t,Γ.G gf=some t->B<=gf∧FromOk w B xs Γ gf t
end
def Still (w:World) (b:Nat):Prop:=b<w.heap.size∧(∀ cur,w.heap[b]?≠some (.cells cur 82 (0,0)))∧∀ cur,w.heap[b]?≠some (.cells cur 84 (0,0))
theorem zb2 {w:World} {b:Nat} {cur:Array Value} {ty:TypeId} (h:w.heap[b]?=some (.cells cur ty (0,0))) (h1:ty≠82) (h2:ty≠84):Still w b:=
 ⟨za0 h,fun c e=>by rw[h] at e;injection e with e;injection e with _ e _;exact h1 e,fun c e=>by rw[h] at e;injection e with e;injection e with _ e _;exact h2 e⟩
structure Ext (B:Nat) (w w':World) (Γ Γ':Ghost):Prop where
 below:Below B w w'
 F:∀ g o t,Γ.F g o=some t->Γ'.F g o=some t
 G:∀ g t,Γ.G g=some t->Γ'.G g=some t
 M:∀ g,Γ.M g->Γ'.M g
 new:∀ g,Γ'.M g->Γ.M g∨w.heap.size<=g
 still:∀ b,Still w b->w'.heap[b]?=w.heap[b]?
 stay:∀ g o t,Γ.F g o=some t->∀ j,j=1∨j=3->∀ v,w.cell? ⟨g,o+j,none⟩=some v->v ≠ .slice none 0 0->w'.cell? ⟨g,o+j,none⟩=some v
 box:∀ (b:Nat) (cur:Array Value),w.heap[b]?=some (.cells cur 84 (0,0))->(∀ t,Γ.G b≠some t)->w'.heap[b]?=w.heap[b]?
 newG:∀ g t,Γ'.G g=some t->Γ.G g=some t∨w.heap.size<=g
theorem Ext.refl (B:Nat) (w:World) (Γ:Ghost):Ext B w w Γ Γ:=⟨Below.refl _ _,fun _ _ _ h=>h,fun _ _ h=>h,fun _ h=>h,fun _ h => .inl h,fun _ _=>rfl,fun _ _ _ _ _ _ _ h _=>h,fun _ _ _ _=>rfl,fun _ _ e => .inl e⟩
theorem Still.ext {B:Nat} {w w':World} {Γ Γ':Ghost} {b:Nat} (h:Ext B w w' Γ Γ') (hs:Still w b):Still w' b:=by
 have e:=h.still b hs;exact⟨Nat.lt_of_lt_of_le hs.1 h.below.size,fun c=>by rw[e];exact hs.2.1 c,fun c=>by rw[e];exact hs.2.2 c⟩
theorem Ext.trans {B:Nat} {w w' w'':World} {Γ Γ' Γ'':Ghost} (h:Ext B w w' Γ Γ') (k:Ext B w' w'' Γ' Γ''):Ext B w w'' Γ Γ'':=
 ⟨h.below.trans k.below,fun g o t e=>k.F g o t (h.F g o t e),fun g t e=>k.G g t (h.G g t e),fun g e=>k.M g (h.M g e),fun g e=>by
   rcases k.new g e with e|e
   . exact h.new g e
   . exact .inr (Nat.le_trans h.below.size e),fun b hs=>(k.still b (hs.ext h)).trans (h.still b hs),fun g o t e j hj v hv hn=>k.stay g o t (h.F g o t e) j hj v (h.stay g o t e j hj v hv hn) hn,fun b cur e hG=>by
   have e1:=h.box b cur e hG;refine (k.box b cur (e1.trans e) fun t e2=>?_).trans e1;rcases h.newG b t e2 with e2|e2
   . exact hG t e2
   . have:=za0 e;omega,fun g t e=>by
   rcases k.newG g t e with e|e
   . exact h.newG g t e
   . exact .inr (Nat.le_trans h.below.size e)⟩
theorem Tree.ext {B:Nat} {w w':World} {Γ Γ':Ghost} {t:T} {k:Value} (ht:Tree w (fun _=>True) t k) (h:Ext B w w' Γ Γ'):Tree w' (fun _=>True) t k:=
 ht.mono fun b _ _ ⟨cur,e⟩=>⟨h.still b (zb2 e (by decide) (by decide)),trivial⟩
theorem Pl.ext {B C m:Nat} {w w':World} {Γ Γ':Ghost} {v:Value} {q:Nat->Bool} (hp:Pl w C v m q) (h:Ext B w w' Γ Γ'):Pl w' C v m q:=by
 refine⟨hp.1,?_⟩;rcases hp.2 with hn|⟨g,cap,cur,rfl,hb,hg,rest⟩
 . exact .inl hn
 . exact .inr ⟨g,cap,cur,rfl,hb,(h.still g (zb2 hg (by decide) (by decide))).trans hg,rest⟩
section
variable {w w':World} {B:Nat} {xs:List Int} {Γ Γ':Ghost} {g o:Nat} {t:T}
theorem zc3 {k:Value} (ht:Tree w (fun _=>True) t k) (hs:∀ b,Still w b->w'.heap[b]?=w.heap[b]?):Tree w' (fun _=>True) t k:=
 ht.mono fun b _ _ ⟨cur,e⟩=>⟨hs b (zb2 e (by decide) (by decide)),trivial⟩
theorem zdk {C m:Nat} {v:Value} {q:Nat->Bool} (hp:Pl w C v m q) (hs:∀ b,Still w b->w'.heap[b]?=w.heap[b]?):Pl w' C v m q:=by
 refine⟨hp.1,?_⟩;rcases hp.2 with hn|⟨g,cap,cur,rfl,hb,hg,rest⟩
 . exact .inl hn
 . exact .inr ⟨g,cap,cur,rfl,hb,(hs g (zb2 hg (by decide) (by decide))).trans hg,rest⟩
theorem PartOk.kept (h:PartOk w xs Γ g o t) (hs:∀ b,Still w b->w'.heap[b]?=w.heap[b]?) (hF:∀ g o t,Γ.F g o=some t->Γ'.F g o=some t) (hG:∀ g t,Γ.G g=some t->Γ'.G g=some t)
   (hb:∃ cur,w'.heap[g]?=some (.cells cur 82 (0,0))) (hc:∀ j,j<4->w'.cell? ⟨g,o+j,none⟩=w.cell? ⟨g,o+j,none⟩):PartOk w' xs Γ' g o t:=by
 obtain⟨gn,on,kn,h1,h2,h3,cur,h4⟩:=h.node;have e:=hs gn (zb2 h4 (by decide) (by decide));refine⟨h.four,hb,h.wf,⟨gn,on,kn,(hc 0 (by omega)).trans h1,h2.block e,zc3 h3 hs,cur,e.trans h4⟩,?_,?_,?_⟩
 . rcases h.kids with k|⟨gk,k1,k2⟩
   . exact .inl ((hc 1 (by omega)).trans k)
   . exact .inr ⟨gk,(hc 1 (by omega)).trans k1,fun i hi=>hF _ _ _ (k2 i hi)⟩
 . obtain⟨a,a1,a2⟩:=h.asked;exact⟨a,(hc 2 (by omega)).trans a1,a2⟩
 . rcases h.starts with k|⟨gf,k1,k2⟩
   . exact .inl ((hc 3 (by omega)).trans k)
   . exact .inr ⟨gf,(hc 3 (by omega)).trans k1,hG _ _ k2⟩
theorem FromOk.kept (h:FromOk w B xs Γ g t) (hs:∀ b,Still w b->w'.heap[b]?=w.heap[b]?) (hM:∀ g,Γ.M g->Γ'.M g)
   (hb:∃ cur,w'.heap[g]?=some (.cells cur 84 (0,0))) (hc:∀ i,i<=xs.length->w'.cell? ⟨g,i,none⟩=w.cell? ⟨g,i,none⟩):FromOk w' B xs Γ' g t:=by
 refine⟨hb,fun i hi=>?_⟩;obtain⟨v,h1,h2⟩:=h.cells i hi;refine⟨v,(hc i hi).trans h1,?_⟩;rcases h2 with h2|⟨q,h3,h4,h5⟩
 . exact .inl h2
 . exact .inr ⟨q,zdk h3 hs,fun g e=>hM g (h4 g e),h5⟩
theorem Inv.stays (h:Inv w B xs Γ) (hb:Below w.heap.size w w'):Inv w' B xs Γ:=by
 have hs:∀ b,Still w b->w'.heap[b]?=w.heap[b]?:=fun b hb'=>hb.block b hb'.1
 refine⟨fun g o t e=>?_,fun gf t e=>?_⟩
 . obtain⟨h1,h2⟩:=h.part g o t e;obtain⟨cur,hc⟩:=h2.block;have hg:=za0 hc;exact⟨h1,h2.kept hs (fun _ _ _ h=>h) (fun _ _ h=>h) ⟨cur,(hb.block g hg).trans hc⟩ fun j _=>hb.cell (p:=⟨g,o+j,none⟩) hg⟩
 . obtain⟨h1,h2⟩:=h.starts gf t e;obtain⟨cur,hc⟩:=h2.block;have hg:=za0 hc;exact⟨h1,h2.kept hs (fun _ h=>h) ⟨cur,(hb.block gf hg).trans hc⟩ fun i _=>hb.cell (p:=⟨gf,i,none⟩) hg⟩
theorem Ext.stays (Γ:Ghost) (hb:Below w.heap.size w w') (hB:B<=w.heap.size):Ext B w w' Γ Γ:=
 ⟨hb.mono hB,fun _ _ _ h=>h,fun _ _ h=>h,fun _ h=>h,fun _ h => .inl h,fun b hs=>hb.block b hs.1,fun g o t _ j _ v hv _=>za2 hv hb,fun b cur e _=>hb.block b (za0 e),fun _ _ e => .inl e⟩
theorem zlo {g' o' j k:Nat} (h:o % 4=0) (h':o' % 4=0) (hj:j<4) (hk:k<4) (e:(⟨g,o+j,none⟩:Addr)=⟨g',o'+k,none⟩):g=g'∧o=o'∧j=k:=by
 injection e with e1 e2
 omega
theorem zaz {b c:Nat} {cur cur':Array Value} {ty ty':TypeId} (h:w.heap[b]?=some (.cells cur ty (0,0))) (h':w.heap[c]?=some (.cells cur' ty' (0,0))) (hne:ty≠ty'):b≠c:=by
 intro e;subst e;rw[h] at h';injection h' with h'
 injection h' with _ e _
 exact hne e
theorem zbs {b i:Nat} {cur:Array Value} {ty:TypeId} (h:w.heap[b]?=some (.cells cur ty (0,0))) (p:Addr) (v:Value):∃ cur',(w.setCell p v).heap[b]?=some (.cells cur' ty (0,0)):=by
 by_cases e:b=p.block
 . subst e;exact⟨_,by simp[World.setCell,Array.getElem?_modify,h];rfl⟩
 . exact⟨cur,(Below.heap_setCell w p v b e).trans h⟩
theorem zag {a b:Addr} {v:Value} (h:a≠b):(w.setCell a v).cell? b=w.cell? b:=by
 rw[World.cell?_setCell_other];exact h
theorem zdi (h:Inv w B xs Γ) (e:Γ.F g o=some t) (j:Nat) (v:Value) (b:Nat) (hs:Still w b):(w.setCell ⟨g,j,none⟩ v).heap[b]?=w.heap[b]?:=by
 obtain⟨cur,hc⟩:=(h.part g o t e).2.block;exact Below.heap_setCell w _ v b (fun e'=>hs.2.1 cur (by rw[e'];exact hc))
theorem zlh {gf:Nat} (h:Inv w B xs Γ) (e:Γ.G gf=some t) (j:Nat) (v:Value) (b:Nat) (hs:Still w b):(w.setCell ⟨gf,j,none⟩ v).heap[b]?=w.heap[b]?:=by
 obtain⟨cur,hc⟩:=(h.starts gf t e).2.block;exact Below.heap_setCell w _ v b (fun e'=>hs.2.2 cur (by rw[e'];exact hc))
theorem znl {g' o' j:Nat} {t':T} (h:Inv w B xs Γ) (e:Γ.F g o=some t) (e':Γ.F g' o'=some t') (hne:¬ (g'=g∧o'=o)) (hj:j<4) (v:Value) (hF:∀ g o t,Γ.F g o=some t->Γ'.F g o=some t) (hG:∀ g t,Γ.G g=some t->Γ'.G g=some t):
   PartOk (w.setCell ⟨g,o+j,none⟩ v) xs Γ' g' o' t':=by
 have k:=(h.part g o t e).2;have k':=(h.part g' o' t' e').2;obtain⟨cur,hc⟩:=k'.block;refine k'.kept (zdi h e _ v) hF hG (zbs (i:=0) hc _ v) fun i hi=>zag fun ea=>hne ?_
 have:=zlo k.four k'.four hj hi ea;exact⟨this.1.symm,this.2.1.symm⟩
theorem znm {gf j:Nat} {t':T} (h:Inv w B xs Γ) (e:Γ.F g o=some t) (e':Γ.G gf=some t') (v:Value) (hM:∀ g,Γ.M g->Γ'.M g):FromOk (w.setCell ⟨g,j,none⟩ v) B xs Γ' gf t':=by
 have k:=(h.part g o t e).2;have k':=(h.starts gf t' e').2;obtain⟨cur,hc⟩:=k.block;obtain⟨cur',hc'⟩:=k'.block;have hne:=zaz hc hc' (by decide);exact k'.kept (zdi h e _ v) hM (zbs (i:=0) hc' _ v) fun i hi=>zag fun ea=>hne (by injection ea)
theorem Inv.ask (h:Inv w B xs Γ) (e:Γ.F g o=some t) (a:Nat) (ha:a<=xs.length+1):Inv (w.setCell ⟨g,o+2,none⟩ (.int .i64 a)) B xs Γ∧Ext B w (w.setCell ⟨g,o+2,none⟩ (.int .i64 a)) Γ Γ:=by
 have k:=(h.part g o t e).2;have kB:=(h.part g o t e).1;have hid:∀ g o t,Γ.F g o=some t->Γ.F g o=some t:=fun _ _ _ h=>h
 have hid2:∀ g t,Γ.G g=some t->Γ.G g=some t:=fun _ _ h=>h
 refine⟨⟨fun g' o' t' e'=>?_,fun gf t' e'=>⟨(h.starts gf t' e').1,znm h e e' _ fun _ h=>h⟩⟩,?_⟩
 . refine⟨(h.part g' o' t' e').1,?_⟩
   by_cases hne:g'=g∧o'=o
   . obtain⟨rfl,rfl⟩:=hne;rw[e] at e';injection e' with e'
     subst e';obtain⟨cur,hc⟩:=k.block;have hs:=zdi h e (o'+2) (.int .i64 a);have hcell:∀ j,j<4->j≠2->(w.setCell ⟨g',o'+2,none⟩ (.int .i64 a)).cell? ⟨g',o'+j,none⟩=w.cell? ⟨g',o'+j,none⟩:=fun j hj hj2=>zag fun ea=>by injection ea;omega
     obtain⟨gn,on,kn,h1,h2,h3,cur2,h4⟩:=k.node;have en:=hs gn (zb2 h4 (by decide) (by decide));obtain⟨a0,h5,_⟩:=k.asked;refine⟨k.four,zbs (i:=0) hc _ _,k.wf,⟨gn,on,kn,(hcell 0 (by omega) (by omega)).trans h1,h2.block en,zc3 h3 hs,cur2,en.trans h4⟩,?_,⟨a,World.cell?_setCell_same _ _ _ h5,ha⟩,?_⟩
     . rcases k.kids with k1|⟨gk,k1,k2⟩
       . exact .inl ((hcell 1 (by omega) (by omega)).trans k1)
       . exact .inr ⟨gk,(hcell 1 (by omega) (by omega)).trans k1,k2⟩
     . rcases k.starts with k1|⟨gf,k1,k2⟩
       . exact .inl ((hcell 3 (by omega) (by omega)).trans k1)
       . exact .inr ⟨gf,(hcell 3 (by omega) (by omega)).trans k1,k2⟩
   . exact znl h e e' hne (by omega) _ hid hid2
 . refine⟨(Below.refl _ _).setCell (p:=⟨g,o+2,none⟩) kB _,hid,hid2,fun _ h=>h,fun _ h => .inl h,zdi h e _ _,fun g' o' t' e' j hj v hv hn=>?_,fun b cur eb _=>Below.heap_setCell w _ _ b (zaz eb k.block.choose_spec (by decide)),fun _ _ e => .inl e⟩;rw[zag]
   . exact hv
   . intro ea;have:=zlo k.four (h.part g' o' t' e').2.four (by omega) (show j<4 by omega) ea;omega
def Ghost.row (Γ:Ghost) (gk:Nat) (t:T):Ghost:={Γ with F:=fun g o=>if g=gk then (if o % 4=0 then t.kids[o / 4]? else none) else Γ.F g o}
theorem zpd (Γ:Ghost) (gk i:Nat) (t:T) (hi:i<t.kids.length):(Γ.row gk t).F gk (i*4)=some (t.kids[i]'hi):=by
 simp[Ghost.row,hi]
theorem Inv.old (h:Inv w B xs Γ) (e:Γ.F g o=some t):g<w.heap.size:=by
 obtain⟨cur,hc⟩:=(h.part g o t e).2.block;exact za0 hc
theorem Inv.layKids (h:Inv w B xs Γ) (e:Γ.F g o=some t) (gk:Nat) (hgk:w.heap.size<=gk) (hB:B<=w.heap.size)
   (hblk:∀ b,b<w.heap.size->b≠g->w'.heap[b]?=w.heap[b]?) (hg:∃ cur,w'.heap[g]?=some (.cells cur 82 (0,0)))
   (hc:∀ j,j≠o+1->w'.cell? ⟨g,j,none⟩=w.cell? ⟨g,j,none⟩) (hc1:w'.cell? ⟨g,o+1,none⟩=some (.slice (some ⟨gk,0,none⟩) t.kids.length t.kids.length))
   (hold:w.cell? ⟨g,o+1,none⟩=some (.slice none 0 0)) (hk:∀ (i:Nat) (hi:i<t.kids.length),PartOk w' xs Γ gk (i*4) (t.kids[i]'hi)) (hb:Below B w w'):
   Inv w' B xs (Γ.row gk t)∧Ext B w w' Γ (Γ.row gk t):=by
 have k:=(h.part g o t e).2;obtain⟨curg,hcg⟩:=k.block;have hF:∀ g o t',Γ.F g o=some t'->(Γ.row gk t).F g o=some t':=fun g' o' t' e'=>by
   have:=h.old e';unfold Ghost.row;simp only;rw[if_neg (by omega)];exact e'
 have hs:∀ b,Still w b->w'.heap[b]?=w.heap[b]?:=fun b hb'=>hblk b hb'.1 (fun e'=>hb'.2.1 curg (by rw[e'];exact hcg))
 have hcells:∀ g' o' t',Γ.F g' o'=some t'->¬ (g'=g∧o'=o)->∀ j,j<4->w'.cell? ⟨g',o'+j,none⟩=w.cell? ⟨g',o'+j,none⟩:=fun g' o' t' e' hne j hj=>by
   by_cases hgg:g'=g
   . subst hgg;refine hc _ ?_;have h1:=(h.part g' o' t' e').2.four;have h2:=k.four;intro e2;exact hne ⟨rfl,by omega⟩
   . exact World.cell?_of_block (w:=w) (a:=⟨g',o'+j,none⟩) (hblk g' (h.old e') hgg)
 refine⟨⟨fun g' o' t' e'=>?_,fun gf t' e'=>?_⟩,⟨hb,hF,fun _ _ h=>h,fun _ h=>h,fun _ h => .inl h,hs,fun g' o' t' e' j hj v hv hn=>?_,fun b cur eb _=>hblk b (za0 eb) (zaz eb hcg (by decide)),fun _ _ e => .inl e⟩⟩
 . by_cases hgk':g'=gk
   . subst hgk';unfold Ghost.row at e';simp only[if_true] at e'
     by_cases h4:o' % 4=0
     . rw[if_pos h4] at e';obtain⟨hi,e2⟩:=List.getElem?_eq_some_iff.1 e';have hp:=hk (o' / 4) hi;rw[e2,show o' / 4*4=o' by omega] at hp;obtain⟨cur,hcur⟩:=hp.block;exact⟨by omega,hp.kept (fun _ _=>rfl) hF (fun _ _ h=>h) ⟨cur,hcur⟩ fun _ _=>rfl⟩
     . rw[if_neg h4] at e';cases e'
   . have e2:Γ.F g' o'=some t':=by
       unfold Ghost.row at e';simp only at e'
       rwa [if_neg hgk'] at e'
     refine⟨(h.part g' o' t' e2).1,?_⟩;have hp:=(h.part g' o' t' e2).2
     by_cases hne:g'=g∧o'=o
     . obtain⟨rfl,rfl⟩:=hne;rw[e] at e2;injection e2 with e2
       subst e2;obtain⟨gn,on,kn,h1,h2,h3,cur2,h4⟩:=k.node;have en:=hs gn (zb2 h4 (by decide) (by decide));obtain⟨a,a1,a2⟩:=k.asked;refine⟨k.four,hg,k.wf,⟨gn,on,kn,(hc _ (by omega)).trans h1,h2.block en,zc3 h3 hs,cur2,en.trans h4⟩,.inr ⟨gk,hc1,fun i hi=>zpd Γ gk i t hi⟩,⟨a,(hc _ (by omega)).trans a1,a2⟩,?_⟩;rcases k.starts with k1|⟨gf,k1,k2⟩
       . exact .inl ((hc _ (by omega)).trans k1)
       . exact .inr ⟨gf,(hc _ (by omega)).trans k1,k2⟩
     . refine hp.kept hs hF (fun _ _ h=>h) ?_ (hcells g' o' t' e2 hne);obtain⟨cur,hcur⟩:=hp.block
       by_cases hgg:g'=g
       . rw[hgg];exact hg
       . exact⟨cur,(hblk g' (h.old e2) hgg).trans hcur⟩
 . have hp:=h.starts gf t' e';obtain⟨cur,hcur⟩:=hp.2.block;have hne:=zaz hcur hcg (by decide);have heq:=hblk gf (za0 hcur) hne;exact⟨hp.1,hp.2.kept hs (fun _ h=>h) ⟨cur,heq.trans hcur⟩ fun i _=>World.cell?_of_block (w:=w) (a:=⟨gf,i,none⟩) heq⟩
 . by_cases hne:g'=g∧o'=o
   . obtain⟨rfl,rfl⟩:=hne;rcases hj with rfl|rfl
     . rw[hold] at hv;injection hv with hv
       exact absurd hv.symm hn
     . exact (hc _ (by omega)).trans hv
   . exact (hcells g' o' t' e' hne j (by omega)).trans hv
end
end
end Go.Proofs.YtgbdanddbgomhaaDoor
