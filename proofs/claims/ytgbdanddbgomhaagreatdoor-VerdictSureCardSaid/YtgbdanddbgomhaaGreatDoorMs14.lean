import Derived.Test.YtgbdanddbgomhaaGreatDoorMs10
set_option linter.unusedVariables false
set_option linter.unusedSimpArgs false
namespace Go.Proofs.YtgbdanddbgomhaaGreatDoor
open Go Go.RowKit
section
def T.op:T->Int | .mk op _ _ _ _=>op
def T.set:T->Nat->Bool | .mk _ p _ _ _=>p
def T.lo:T->Int | .mk _ _ lo _ _=>lo
def T.hi:T->Int | .mk _ _ _ hi _=>hi
def T.kids:T->List T | .mk _ _ _ _ l=>l
def nodeV (t:T) (k:Value):Value := .agg #[.int .i64 t.op,.int .u64 (word t.set 0),.int .u64 (word t.set 1),.int .u64 (word t.set 2),.int .u64 (word t.set 3),.int .i64 t.lo,.int .i64 t.hi,k]
def nodeC (t:T) (k:Value):List Value:=[.int .i64 t.op,.int .u64 (word t.set 0),.int .u64 (word t.set 1),.int .u64 (word t.set 2),.int .u64 (word t.set 3),.int .i64 t.lo,.int .i64 t.hi,k]
theorem zcy (t:T) (k:Value):(nodeC t k).length=8:=rfl
def cellsOf:List T->List Value->List Value
 | t::ts,k::ks=>nodeC t k++cellsOf ts ks
 | _,_=>[]
theorem zd6:∀ (l:List T) (ks:List Value) (t:T) (k:Value),ks.length=l.length->cellsOf (l++[t]) (ks++[k])=cellsOf l ks++nodeC t k
 | [],[],t,k,_=>by simp[cellsOf]
 | t::ts,k::ks,t',k',h=>by
   have:=zd6 ts ks t' k' (by simpa using h);simp[cellsOf,this]
theorem zd5:∀ (l:List T) (ks:List Value) (i j:Nat) (t:T) (k:Value),l[i]?=some t->ks[i]?=some k->j<8->(cellsOf l ks)[8*i+j]?=(nodeC t k)[j]?
 | [],_,i,j,t,k,h1,_,_=>by simp at h1
 | _::_,[],i,j,t,k,_,h2,_=>by simp at h2
 | t'::ts,k'::ks,0,j,t,k,h1,h2,hj=>by
   simp at h1 h2;subst h1 h2;rw[cellsOf,List.getElem?_append_left (by rw[zcy];omega)];simp
 | t'::ts,k'::ks,i+1,j,t,k,h1,h2,hj=>by
   rw[cellsOf,List.getElem?_append_right (by rw[zcy];omega),zcy];rw[show 8*(i+1)+j-8=8*i+j by omega];exact zd5 ts ks i j t k (by simpa using h1) (by simpa using h2) hj
inductive Tree (w:World) (ok:Nat->Prop):T->Value->Prop
 | nil (t:T) (h:t.kids=[]):Tree w ok t (.slice none 0 0)
 | row (t:T) (g cap:Nat) (cur:Array Value) (ks:List Value) (hg:w.heap[g]?=some (.cells cur 41 (0,0))) (hok:ok g) (hn:ks.length=t.kids.length) (h0:0<ks.length)
     (hcap:t.kids.length<=cap) (hmax:cap<=maxLen) (hsize:cur.size=cap*8) (hc:cur.toList.take (t.kids.length*8)=cellsOf t.kids ks)
     (hk:∀ (i:Nat) t' k',t.kids[i]?=some t'->ks[i]?=some k'->Tree w ok t' k'):Tree w ok t (.slice (some ⟨g,0,none⟩) t.kids.length cap)
section
variable {w w':World} {ok ok':Nat->Prop} {t:T} {k:Value}
theorem Tree.mono (h:Tree w ok t k) (hh:∀ b,ok b->b<w.heap.size->(∃ cur,w.heap[b]?=some (.cells cur 41 (0,0)))->w'.heap[b]?=w.heap[b]?∧ok' b):Tree w' ok' t k:=by
 induction h with
 | nil t h=>exact .nil t h
 | row t g cap cur ks hg hok hn h0 hcap hmax hsize hc hk ih =>
   have:=hh g hok (za0 hg) ⟨cur,hg⟩;exact .row t g cap cur ks (this.1.trans hg) this.2 hn h0 hcap hmax hsize hc fun i t' k' h1 h2=>ih i t' k' h1 h2
theorem Tree.weak (h:Tree w ok t k) (hh:∀ b,ok b->b<w.heap.size->ok' b):Tree w ok' t k:=h.mono fun b h1 h2 _=>⟨rfl,hh b h1 h2⟩
theorem Tree.stays (h:Tree w ok t k) (hb:Below w.heap.size w w'):Tree w' ok t k:=h.mono fun b h1 h2 _=>⟨hb.block b h2,h1⟩
theorem Tree.alloc (h:Tree w ok t k) (o:Obj):Tree (w.alloc o) ok t k:=h.mono fun b h1 h2 _=>⟨Below.heap_alloc w o b h2,h1⟩
theorem Tree.far (h:Tree w ok t k) {a:Addr} (ha:∀ b,ok b->b≠a.block) (u:Value):Tree (w.setCell a u) ok t k:=h.mono fun b h1 h2 _=>⟨Below.heap_setCell w a u b (ha b h1),h1⟩
theorem Tree.drewN (h:Tree w ok t k) (n:Nat):Tree (w.drewN n) ok t k:=h.mono fun b h1 h2 _=>⟨rfl,h1⟩
theorem Tree.form (h:Tree w ok t k):∃ A n c,k = .slice A n c:=by cases h <;> exact⟨_,_,_,rfl⟩
theorem Tree.one (h:Tree w ok t k):k.oneCell'=true:=by cases h <;> rfl
end
def Box8 (w:World) (g:Nat) (t:T) (k:Value):Prop:=
 w.heap[g]?=some (.cells #[.int .i64 t.op,.int .u64 (word t.set 0),.int .u64 (word t.set 1),.int .u64 (word t.set 2),.int .u64 (word t.set 3),.int .i64 t.lo,.int .i64 t.hi,k] 41 (0,0))
section
variable {w w':World} {g:Nat} {t:T} {k:Value}
theorem Box8.cell (h:Box8 w g t k):w.cell? ⟨g,0,none⟩=some (.int .i64 t.op)∧w.cell? ⟨g,1,none⟩=some (.int .u64 (word t.set 0))∧w.cell? ⟨g,2,none⟩=some (.int .u64 (word t.set 1))∧w.cell? ⟨g,3,none⟩=some (.int .u64 (word t.set 2))∧
   w.cell? ⟨g,4,none⟩=some (.int .u64 (word t.set 3))∧w.cell? ⟨g,5,none⟩=some (.int .i64 t.lo)∧w.cell? ⟨g,6,none⟩=some (.int .i64 t.hi)∧w.cell? ⟨g,7,none⟩=some k:=by
 unfold Box8 at h;refine⟨?_,?_,?_,?_,?_,?_,?_,?_⟩ <;> exact cell_of_row w g _ _ 41 (0,0) h
theorem Box8.frozen (h:Box8 w g t k):w.frozen? ⟨g,0,none⟩=false∧w.frozen? ⟨g,1,none⟩=false∧w.frozen? ⟨g,2,none⟩=false∧w.frozen? ⟨g,3,none⟩=false∧
   w.frozen? ⟨g,4,none⟩=false∧w.frozen? ⟨g,5,none⟩=false∧w.frozen? ⟨g,6,none⟩=false∧w.frozen? ⟨g,7,none⟩=false:=by
 unfold Box8 at h;refine⟨?_,?_,?_,?_,?_,?_,?_,?_⟩ <;> simp[World.frozen?,h]
theorem Box8.lt (h:Box8 w g t k):g<w.heap.size:=za0 h
theorem Box8.stays (h:Box8 w g t k) (hb:Below w.heap.size w w'):Box8 w' g t k:=(hb.block g h.lt).trans h
theorem Box8.alloc (h:Box8 w g t k) (o:Obj):Box8 (w.alloc o) g t k:=(Below.heap_alloc w o g h.lt).trans h
theorem Box8.grown {row:Option Nat} (h:Box8 w g t k) (hb:w.grownBy w' row) (hg:some g≠row):Box8 w' g t k:=(hb.block g h.lt hg).trans h
theorem Box8.far (h:Box8 w g t k) {a:Addr} (ha:g≠a.block) (u:Value):Box8 (w.setCell a u) g t k:=(Below.heap_setCell w a u g ha).trans h
theorem Box8.drewN (h:Box8 w g t k) (n:Nat):Box8 (w.drewN n) g t k:=h
theorem Box8.new (w:World) (t:T) (k:Value):Box8 (w.alloc (.cells #[.int .i64 t.op,.int .u64 (word t.set 0),.int .u64 (word t.set 1),.int .u64 (word t.set 2),.int .u64 (word t.set 3),.int .i64 t.lo,.int .i64 t.hi,k] 41)) w.heap.size t k:=heap_alloc_new w _
theorem Box8.new0 (w:World):Box8 (w.alloc (.cells #[.int .i64 0,.int .u64 0,.int .u64 0,.int .u64 0,.int .u64 0,.int .i64 0,.int .i64 0,.slice none 0 0] 41)) w.heap.size T.zero (.slice none 0 0):=by
 have h:=Box8.new w T.zero (.slice none 0 0)
 simpa only [T.zero,T.op,T.set,T.lo,T.hi,za6] using h
def put8 (w:World) (g:Nat) (t:T) (k:Value):World:=
 (((((((w.setCell ⟨g,0,none⟩ (.int .i64 t.op)).setCell ⟨g,1,none⟩ (.int .u64 (word t.set 0))).setCell ⟨g,2,none⟩ (.int .u64 (word t.set 1))).setCell ⟨g,3,none⟩ (.int .u64 (word t.set 2))).setCell ⟨g,4,none⟩ (.int .u64 (word t.set 3))).setCell ⟨g,5,none⟩ (.int .i64 t.lo)).setCell ⟨g,6,none⟩ (.int .i64 t.hi)).setCell ⟨g,7,none⟩ k
theorem zad (w:World) (g:Nat) (t:T) (k:Value) (b:Nat) (hb:b≠g):(put8 w g t k).heap[b]?=w.heap[b]?:=by
 unfold put8;rw[Below.heap_setCell _ _ _ _ hb,Below.heap_setCell _ _ _ _ hb,Below.heap_setCell _ _ _ _ hb,Below.heap_setCell _ _ _ _ hb,Below.heap_setCell _ _ _ _ hb,Below.heap_setCell _ _ _ _ hb,Below.heap_setCell _ _ _ _ hb,Below.heap_setCell _ _ _ _ hb]
theorem Box8.put {t':T} {k':Value} (h:Box8 w g t k) (t':T) (k':Value):Box8 (put8 w g t' k') g t' k':=by
 unfold Box8 put8 at *;simp[World.setCell,Array.getElem?_modify,h]
theorem Box8.putFar {g':Nat} {t':T} {k':Value} (h:Box8 w g t k) (hg:g≠g'):Box8 (put8 w g' t' k') g t k:=(zad w g' t' k' g hg).trans h
theorem Tree.put8 {ok:Nat->Prop} {g':Nat} {t':T} {k':Value} (h:Tree w ok t k) (hg:∀ b,ok b->b≠g'):Tree (put8 w g' t' k') ok t k:=h.mono fun b h1 h2 _=>⟨zad w g' t' k' b (hg b h1),h1⟩
theorem zf6 {a b:World} {g g':Nat} (h:a.grownBy b (some g)) (hg:a.heap.size<=g') (t:T) (k:Value):a.grownBy (Go.Proofs.YtgbdanddbgomhaaGreatDoor.put8 b g' t k) (some g):=
 za7 (za7 (za7 (za7 (za7 (za7 (za7 (za7 h hg _) hg _) hg _) hg _) hg _) hg _) hg _) hg _
theorem zae {a:World} {B:Nat} (h:Below B a w) (hg:B<=g) (t:T) (k:Value):Below B a (Go.Proofs.YtgbdanddbgomhaaGreatDoor.put8 w g t k):=
 (((((((h.setCell (p:=⟨g,0,none⟩) hg _).setCell (p:=⟨g,1,none⟩) hg _).setCell (p:=⟨g,2,none⟩) hg _).setCell (p:=⟨g,3,none⟩) hg _).setCell (p:=⟨g,4,none⟩) hg _).setCell (p:=⟨g,5,none⟩) hg _).setCell (p:=⟨g,6,none⟩) hg _).setCell (p:=⟨g,7,none⟩) hg _
end
def Row (w:World) (B:Nat) (v:Value) (l:List T):Prop:=
 ∃ ks,ks.length=l.length∧w.ownsRow B 41 8 v l.length (cellsOf l ks)∧∀ (i:Nat) t' k',l[i]?=some t'->ks[i]?=some k'->Tree w (fun b=>B<=b∧some b≠v.ownBlock) t' k'
section
variable {w w':World} {B:Nat} {v:Value} {l:List T}
theorem Row.stays (h:Row w B v l) (hb:Below w.heap.size w w'):Row w' B v l:=by
 obtain⟨ks,h1,h2,h3⟩:=h;exact⟨ks,h1,zc3 h2 hb,fun i t' k' e1 e2=>(h3 i t' k' e1 e2).stays hb⟩
theorem Row.alloc (h:Row w B v l) (o:Obj):Row (w.alloc o) B v l:=h.stays ((Below.refl _ _).alloc (Nat.le_refl _) _)
theorem Row.drewN (h:Row w B v l) (n:Nat):Row (w.drewN n) B v l:=by
 obtain⟨ks,h1,h2,h3⟩:=h;exact⟨ks,h1,h2,fun i t' k' e1 e2=>(h3 i t' k' e1 e2).drewN n⟩
theorem zld {e:TypeId} {size n:Nat} {xs:List Value} {g:Nat} (h:w.ownsRow B e size v n xs) (hv:v.ownBlock=some g):∃ cur,w.heap[g]?=some (.cells cur e (0,0)):=by
 rcases h.2 with ⟨rfl,_⟩|⟨g',cap,cur,rfl,_,hh,_⟩
 . cases hv
 . have:g'=g:=by simpa [Value.ownBlock] using hv
   subst this;exact⟨cur,hh⟩
theorem Row.new (w:World) (B:Nat) (t:T) (k:Value) (hB:B<=w.heap.size) (ht:Tree w (fun b=>B<=b) t k):
   Row (w.alloc (.cells #[.int .i64 t.op,.int .u64 (word t.set 0),.int .u64 (word t.set 1),.int .u64 (word t.set 2),.int .u64 (word t.set 3),.int .i64 t.lo,.int .i64 t.hi,k] 41)) B (.slice (some ⟨w.heap.size,0,none⟩) 1 1) [t]:=by
 refine⟨[k],rfl,World.ownsRow_lit w _ 1 hB (by decide) rfl,fun i t' k' e1 e2=>?_⟩
 match i,e1,e2 with
 | 0,e1,e2 =>
   simp at e1 e2;subst e1 e2;refine (ht.weak (ok':=fun b=>B<=b∧some b≠some w.heap.size) fun b h1 h2=>⟨h1,by simp;omega⟩).alloc _
theorem Row.tree (h:Row w B v l) (h0:0<l.length) (op:Int) (p:Nat->Bool) (lo hi:Int):Tree w (fun b=>B<=b) (.mk op p lo hi l) v:=by
 obtain⟨ks,h1,h2,h3⟩:=h;rcases h2.2 with ⟨rfl,h⟩|⟨g,cap,cur,rfl,hB,hh,hc,hm,hs,ht⟩
 . omega
 . exact .row (.mk op p lo hi l) g cap cur ks hh hB h1 (by omega) hc hm hs ht fun i t' k' e1 e2=>(h3 i t' k' e1 e2).weak fun b hb _=>hb.1
end
theorem Tryz.infoNode:(Tryz.prog.info? 41).map (fun i=>(i.zero,i.size,i.bytes))=some (some (.agg #[.int .i64 0,.int .u64 0,.int .u64 0,.int .u64 0,.int .u64 0,.int .i64 0,.int .i64 0,.slice none 0 0]),8,80):=by kernel_rfl
end
theorem Tree.kidAt {w:World} {ok:Nat->Prop} {t:T} {k:Value} (h:Tree w ok t k) (i:Nat) (hi:i<t.kids.length):
   ∃ g cap k',k = .slice (some ⟨g,0,none⟩) t.kids.length cap∧g<w.heap.size∧Tree w ok (t.kids[i]'hi) k'∧∀ j u,(nodeC (t.kids[i]'hi) k')[j]?=some u->w.cell? ⟨g,8*i+j,none⟩=some u:=by
 cases h with
 | nil t h=>rw[h] at hi;simp at hi
 | row t g cap cur ks hg hok hn h0 hcap hmax hsize hc hk =>
   have hi':i<ks.length:=(by omega);refine⟨g,cap,ks[i],rfl,za0 hg,hk i _ _ (List.getElem?_eq_getElem hi) (List.getElem?_eq_getElem hi'),fun j u hu=>?_⟩;have hj:j<8:=by
     have:=List.getElem?_eq_some_iff.1 hu
     simpa [nodeC] using this.1
   have e:=zd5 t.kids ks i j _ _ (List.getElem?_eq_getElem hi) (List.getElem?_eq_getElem hi') hj;rw[←hc,hu] at e;rw[cell_of_row w g _ cur 41 (0,0) hg,←Array.getElem?_toList];rw[List.getElem?_take] at e;split at e
   . exact e
   . cases e
theorem Tree.bound {w:World} {ok:Nat->Prop} {t:T} {A:Option Addr} {n c:Nat} (h:Tree w ok t (.slice A n c)):n=t.kids.length∧n<=maxLen:=by
 cases h with
 | nil t h=>exact⟨by simp[h],by decide⟩
 | row t g cap cur ks hg hok hn h0 hcap hmax hsize hc hk=>exact⟨rfl,Nat.le_trans hcap hmax⟩
theorem zc8 (t:T) (i:Nat) (hi:i<t.kids.length):SizeOf.sizeOf (t.kids[i]'hi)<SizeOf.sizeOf t:=by
 obtain⟨op,p,lo,hi',l⟩:=t;have:=List.sizeOf_lt_of_mem (List.getElem_mem hi);simp only[T.kids] at *;simp;omega
theorem kid8 {w:World} {ok:Nat->Prop} {t u:T} {A:Option Addr} {n c:Nat} (h:Tree w ok t (.slice A n c)) (i:Nat) (hu:t.kids[i]?=some u):
   ∃ g B m d,A=some ⟨g,0,none⟩∧g<w.heap.size∧Tree w ok u (.slice B m d)∧∀ q v,(nodeC u (.slice B m d))[q]?=some v->w.cell? ⟨g,8*i+q,none⟩=some v:=by
 obtain⟨hi,e⟩:=List.getElem?_eq_some_iff.1 hu;obtain⟨g,cap,kk,e1,hg1,htk,hcells⟩:=h.kidAt i hi;rw[e] at htk hcells;obtain⟨B,m,d,rfl⟩:=htk.form;exact⟨g,B,m,d,by injection e1,hg1,htk,hcells⟩
section
attribute [local go_sem ↓] Go.wp_at_zero Go.wp_at_succ
theorem Tryz.infoWord:(Tryz.prog.info? 22).map (fun i=>(i.zero,i.size,i.bytes))=some (some (.int .u64 0),1,8):=by kernel_rfl
def wordsOf (q:Nat->Bool) (m:Nat):List Value:=(List.range m).map fun i=>Value.int .u64 (word q i)
theorem zao (q:Nat->Bool) (m:Nat):(wordsOf q m).length=m:=by simp[wordsOf]
theorem zb3 (q:Nat->Bool) (m i:Nat) (h:i<m):(wordsOf q m)[i]?=some (.int .u64 (word q i)):=by simp[wordsOf,h]
def Pl (w:World) (B:Nat) (v:Value) (m:Nat) (q:Nat->Bool):Prop:=w.ownsRow B 22 1 v m (wordsOf q m)
section
variable {w w':World} {B:Nat} {v:Value} {m:Nat} {q:Nat->Bool}
theorem Pl.stays (h:Pl w B v m q) (hb:Below w.heap.size w w'):Pl w' B v m q:=zc3 h hb
theorem Pl.lower {B':Nat} (h:Pl w B v m q) (hB:B'<=B):Pl w B' v m q:=zk1 h hB
theorem Pl.form (h:Pl w B v m q) (hm:0<m):∃ g c,v = .slice (some ⟨g,0,none⟩) m c∧B<=g∧g<w.heap.size:=by
 rcases h.2 with ⟨rfl,h0⟩|⟨g,cap,cur,rfl,hB,hg,_⟩
 . omega
 . exact⟨g,cap,rfl,hB,za0 hg⟩
theorem Pl.cell {g c:Nat} (h:Pl w B (.slice (some ⟨g,0,none⟩) m c) m q) (i:Nat) (hi:i<m):w.cell? ⟨g,i,none⟩=some (.int .u64 (word q i)):=by
 rw[World.ownsRow.cellAt h i (by omega),zb3 q m i hi]
theorem Pl.frozen {g c:Nat} (h:Pl w B (.slice (some ⟨g,0,none⟩) m c) m q) (i:Nat):w.frozen? ⟨g,i,none⟩=false:=World.ownsRow.frozenAt h i
theorem Pl.congr {q':Nat->Bool} (h:Pl w B v m q) (hq:∀ i,i<m->word q i=word q' i):Pl w B v m q':=by
 unfold Pl at *;have e:wordsOf q m=wordsOf q' m:=by
   unfold wordsOf;apply List.map_congr_left;intro i hi;rw[hq i (by simpa using hi)]
 rwa [←e]
theorem Pl.set {g c:Nat} {q':Nat->Bool} (h:Pl w B (.slice (some ⟨g,0,none⟩) m c) m q) (i:Nat) (hi:i<m) (hq:∀ j,j≠i->word q' j=word q j):
   Pl (w.setCell ⟨g,i,none⟩ (.int .u64 (word q' i))) B (.slice (some ⟨g,0,none⟩) m c) m q'∧w.grownBy (w.setCell ⟨g,i,none⟩ (.int .u64 (word q' i))) (some g):=by
 have k:=World.ownsRow.stored h i (.int .u64 (word q' i));refine⟨?_,k.2⟩;unfold Pl;have e:(wordsOf q m).set i (.int .u64 (word q' i))=wordsOf q' m:=by
   apply List.ext_getElem?;intro j;rw[List.getElem?_set]
   by_cases hj:j<m
   . rw[zb3 q' m j hj,zb3 q m j hj,zao]
     by_cases hij:i=j
     . subst hij;simp[hi]
     . rw[if_neg hij,hq j (fun e=>hij e.symm)]
   . rw[List.getElem?_eq_none (by rw[zao];omega),List.getElem?_eq_none (by rw[zao];omega)]
     by_cases hij:i=j
     . omega
     . rw[if_neg hij]
 rw[←e];exact k.1
end
theorem zer (m:Nat):wordsOf noneP m=List.replicate m (.int .u64 0):=by
 apply List.ext_getElem?;intro j
 by_cases hj:j<m
 . rw[zb3 _ m j hj,za6];simp[hj]
 . rw[List.getElem?_eq_none (by rw[zao];omega),List.getElem?_eq_none (by simpa using hj)]
def RetPl (w:World) (m:Nat) (q:Nat->Bool) (e:Ending) (w':World):Prop:=∃ v,e = .returned v∧Pl w' w.heap.size v m q∧Below w.heap.size w w'
theorem zbj (w:World) (n:Nat) (hn:n<=1000000):Calls Tryz.prog 52 #[.int .i64 n] w (RetPl w (n / 64+1) noneP):=by
 obtain⟨i0,hi,hz0,hz1,hz2⟩:=info_parts Tryz.infoWord;obtain⟨w',hr,hown,hg⟩:=run_make_full (P:=Tryz.prog) w w.heap.size 82 22 i0 _ 1 Tryz.underlying82 hi hz0 hz1 .i64 .i64 (n / 64+1) (by rw[hz2];omega) (by unfold maxLen;omega) (Nat.le_refl _);rw[show (((n / 64+1:Nat)):Int)=(n:Int) / 64+1 by omega] at hr;rw[show (madeCells (Value.int IntKind.u64 0).cells ((n / 64+1)*1)).toList=wordsOf noneP (n / 64+1) by rw[zer,Nat.mul_one];exact toList_madeCells_one _ _] at hown;have HO:=Zh hown;have HG:=Zh hg;clear hown hg hi hz0 hz1 hz2;go_enter Tryz.func52,Tryz.ntmps52;go_wp2;go_ret;exact⟨_,rfl,HO.out,(Below.refl _ _).grown HG.out (Nat.le_refl _) (fun j e=>by cases e)⟩
theorem zmv (w:World) (B m i:Nat) (v:Value) (q:Nat->Bool) (h:Pl w B v m q) (hi:i<64*m) (hm:m<=1000000):Calls Tryz.prog 31 #[v,.int .i64 i] w fun e w'=>e = .returned (.bool (q i))∧w=w':=by
 obtain⟨g,c,rfl,_,_⟩:=h.form (by omega);have hc:=h.cell (i / 64) (by omega);have H:=zn3 q i;rw[←H];have e1:((i:Int) / 64).toNat=i / 64:=(by omega);have e2:((i:Int) % 64).toNat=i % 64:=(by omega);have e3:(i:Int) / 64<(m:Int):=(by omega);have e4:(0:Int)<=(i:Int) / 64:=(by omega);have w0:=zct q (i / 64);have w1:=zjd q (i / 64);clear H h;go_enter Tryz.func31,Tryz.ntmps31;go_wp2;go_ret;exact⟨rfl,rfl⟩
theorem zif {a b:World} {row:Option Nat} (h:a.grownBy b row):a.grownBy b.drew row:=⟨h.os,h.tape,h.output,h.size,h.block⟩
theorem Pl.drew {w:World} {B m:Nat} {v:Value} {q:Nat->Bool} (h:Pl w B v m q):Pl w.drew B v m q:=h
def RetOwn (w:World) (B m:Nat) (v:Value) (q:Nat->Bool) (e:Ending) (w':World):Prop:=e = .returned (.tuple #[])∧Pl w' B v m q∧w.grownBy w' v.ownBlock
theorem zju (w:World) (B m i:Nat) (v:Value) (q:Nat->Bool) (h:Pl w B v m q) (hi:i<64*m) (hm:m<=1000000):Calls Tryz.prog 55 #[v,.int .i64 i] w (RetOwn w B m v (add1 q i)):=by
 obtain⟨g,c,rfl,_,_⟩:=h.form (by omega);have hc:=h.cell (i / 64) (by omega);have hf:=h.frozen (i / 64);have HA:=Zh (zng q i);have HS:=Zh (h.set (q':=add1 q i) (i / 64) (by omega) (fun j hj=>zdy q i j hj));have e1:((i:Int) / 64).toNat=i / 64:=(by omega);have e2:((i:Int) % 64).toNat=i % 64:=(by omega);have e3:(i:Int) / 64<(m:Int):=(by omega);have e4:(0:Int)<=(i:Int) / 64:=(by omega);have w0:=zct q (i / 64);have w1:=zjd q (i / 64);clear h;go_enter Tryz.func55,Tryz.ntmps55;go_region
 all_goals
   go_wp2;go_end0;rw[HA.out];exact⟨rfl,HS.out.1.drew,zif HS.out.2⟩
set_option maxHeartbeats 1000000 in
theorem zk2 (w:World) (i n:Nat) (hn:n<=1000000) (hi:i<=n):Calls Tryz.prog 30 #[.int .i64 i,.int .i64 n] w (RetPl w (n / 64+1) (fun x=>x==i)):=by
 have HN:=Zh (zbj w n hn);unfold RetPl at HN;have HA:=Zh (fun W v (h:Pl W w.heap.size v (n / 64+1) noneP)=>zju W w.heap.size (n / 64+1) i v noneP h (by omega) (by omega));unfold RetOwn at HA;go_enter Tryz.func30,Tryz.ntmps30;go_wp2_with (first
   | (go_at_call 52;(with_reducible refine HN.out.mono ?_);rintro e w1 ⟨v,rfl,hv,hb⟩)
   | (go_at_call 55;(with_reducible refine (HA.out _ _ hv).mono ?_);rintro e w2 ⟨rfl,hv2,hg2⟩))
 go_ret;refine⟨v,rfl,hv2.congr fun i' _=>?_,hb.grown hg2 hb.size (fun j e=>(World.ownsRow.lt hv j e).1)⟩;have e:wordN (add1 noneP i) i'=wordN (fun x=>x==i) i':=zay _ _ i' fun j _=>by simp[add1,noneP]
 unfold word;rw[e]
theorem zja {q:Nat->Bool} {i:Nat} (h:word q i=0) (j:Nat) (hj:j<64):q (64*i+j)=false:=by
 have h0:wordN q i=0:=(by unfold word at h;omega);have t:=za4 q i j;rw[h0] at t
 simpa [hj] using t.symm
theorem zes {q:Nat->Bool} {i:Nat} (h:word q i≠0):∃ j,j<64∧q (64*i+j)=true:=by
 by_cases hx:∃ j,j<64∧q (64*i+j)=true
 . exact hx
 . exfalso;apply h;have:wordN q i=0:=by
     apply Nat.eq_of_testBit_eq;intro j;rw[za4]
     by_cases hj:j<64
     . have:¬ q (64*i+j)=true:=fun e=>hx ⟨j,hj,e⟩
       simp[this]
     . simp[hj]
   simp[word,this]
theorem zk3 (w:World) (B m:Nat) (v:Value) (q:Nat->Bool) (h:Pl w B v m q) (hm0:0<m) (hm:m<=1000000):
   Calls Tryz.prog 50 #[v] w fun e w'=>∃ b:Bool,e = .returned (.bool b)∧(b=true↔∀ x,x<64*m->q x=false)∧w=w':=by
 obtain⟨g,c,rfl,_,_⟩:=h.form hm0;have HH:=Zh h;clear h;go_enter Tryz.func50,Tryz.ntmps50;go_wp2;go_loopg [7] m (fun m' i wr=>∃ j:Nat,i = .int .i64 (j:Int)∧j<=m∧m'=m-j∧(∀ x,x<64*j->q x=false)∧wr=w)
 case atStart=>exact⟨0,rfl,Nat.zero_le _,rfl,fun x hx=>by omega,rfl⟩
 case round =>
   obtain⟨j,rfl,hj,hmj,hz,rfl⟩:=hrel;have HMJ:=Zh hmj;have HZ:=Zh hz;clear hmj hz
   by_cases hlt:j<m
   . have hc:=HH.out.cell j hlt;cases hb:(word q j != 0)
     . have hw0:word q j=0:=(by simpa using hb);have HW0:=Zh hw0;clear hw0;go_wp2;go_roundg (m-(j+1))
       case measure=>have:=HMJ.out;omega
       case rel =>
         refine⟨j+1,by go_num,by omega,rfl,fun x hx=>?_,rfl⟩
         by_cases hx2:x<64*j
         . exact HZ.out x hx2
         . have:=zja HW0.out (x-64*j) (by omega)
           rwa [show 64*j+(x-64*j)=x by omega] at this
     . have hw0:word q j≠0:=(by simpa using hb);have HW0:=Zh (zes hw0);clear hw0;go_wp2;go_ret;refine⟨false,rfl,⟨fun h=>(by cases h),fun h=>?_⟩,rfl⟩;obtain⟨k,hk,hq⟩:=HW0.out;rw[h (64*j+k) (by omega)] at hq;cases hq
   . go_wp2;go_ret;exact⟨true,rfl,⟨fun _ x hx=>HZ.out x (by omega),fun _=>rfl⟩,rfl⟩
def mixP (q f:Nat->Bool) (j:Nat):Nat->Bool:=fun x=>if x<64*j then f x else q x
theorem zdl (q f:Nat->Bool) (j i:Nat) (h:i<j):word (mixP q f j) i=word f i:=by
 unfold word;rw[zay _ f i fun b hb=>by unfold mixP;rw[if_pos (by omega)]]
theorem zdm (q f:Nat->Bool) (j i:Nat) (h:j<=i):word (mixP q f j) i=word q i:=by
 unfold word;rw[zay _ q i fun b hb=>by unfold mixP;rw[if_neg (by omega)]]
theorem zh2 (q f:Nat->Bool) (j i:Nat) (h:i≠j):word (mixP q f (j+1)) i=word (mixP q f j) i:=by
 by_cases hi:i<j
 . rw[zdl _ _ _ _ hi,zdl _ _ _ _ (by omega)]
 . rw[zdm _ _ _ _ (by omega),zdm _ _ _ _ (by omega)]
theorem zcn (w:World) (B C m:Nat) (v v2:Value) (q r:Nat->Bool) (h:Pl w B v m q) (h2:Pl w C v2 m r) (hB:B<=w.heap.size) (hm0:0<m) (hm:m<=1000000):
   Calls Tryz.prog 53 #[v,v2] w (RetOwn w B m v (orP q r)):=by
 obtain⟨g,c,rfl,hg1,hg2⟩:=h.form hm0;obtain⟨g2,c2,rfl,_,hg4⟩:=h2.form hm0;have hcell:∀ i,i<m->w.cell? ⟨g2,i,none⟩=some (.int .u64 (word r i)):=fun i hi=>h2.cell i hi
 have HH:=Zh h;have HC:=Zh hcell;clear h h2 hcell;go_enter Tryz.func53,Tryz.ntmps53;go_wp2;go_loopg [8] m (fun m' i wr=>∃ j:Nat,i = .int .i64 (j:Int)∧j<=m∧m'=m-j∧Pl wr B (.slice (some ⟨g,0,none⟩) m c) m (mixP q (orP q r) j)∧(∀ k,j<=k->k<m->wr.cell? ⟨g2,k,none⟩=some (.int .u64 (word r k)))∧w.grownBy wr (some g))
 case atStart=>exact⟨0,rfl,Nat.zero_le _,rfl,HH.out.congr fun i hi=>(zdm _ _ _ _ (Nat.zero_le _)).symm,fun k _ hk=>HC.out k hk,⟨rfl,rfl,rfl,Nat.le_refl _,fun _ _ _=>rfl⟩⟩
 case round =>
   obtain⟨j,rfl,hj,hmj,hpl,hr,hgw⟩:=hrel;have HMJ:=Zh hmj;have HPL:=Zh hpl;have HR:=Zh hr;clear hmj hpl hr
   by_cases hlt:j<m
   . have hc:=HPL.out.cell j hlt;have hf:=HPL.out.frozen j;rw[zdm _ _ _ _ (Nat.le_refl _)] at hc;have hc2:=HR.out j (Nat.le_refl _) hlt;have HO:=Zh (zc4 q r j);have hst:=HPL.out.set (q':=mixP q (orP q r) (j+1)) j hlt (fun i hi=>zh2 _ _ j i hi);rw[zdl _ _ _ _ (Nat.lt_succ_self j)] at hst;have HST:=Zh hst;clear hst;go_wp2;go_roundg (m-(j+1))
     case measure=>have:=HMJ.out;omega
     case rel =>
       rw[HO.out];refine⟨j+1,by go_num,by omega,rfl,HST.out.1,fun k hk hkm=>?_,World.grownBy.trans hgw HST.out.2⟩;have:=HR.out k (by omega) hkm;rw[World.cell?_setCell_other]
       . exact this
       . intro e;injection e with e1 e2
         omega
   . have hjm:j=m:=(by omega);go_wp2;go_end0;exact⟨rfl,HPL.out.congr fun i hi=>zdl _ _ _ _ (by omega),hgw⟩
end
def NodeAt (w:World) (g o:Nat) (t:T) (k:Value):Prop:=∀ q v,(nodeC t k)[q]?=some v->w.cell? ⟨g,o+q,none⟩=some v
theorem NodeAt.lt {w:World} {g o:Nat} {t:T} {k:Value} (h:NodeAt w g o t k):g<w.heap.size:=World.block_lt_of_cell? w ⟨g,o+0,none⟩ (h 0 _ rfl)
theorem NodeAt.stays {w w':World} {g o:Nat} {t:T} {k:Value} (h:NodeAt w g o t k) (hb:Below w.heap.size w w'):NodeAt w' g o t k:=fun q v e=>za2 (h q v e) hb
theorem NodeAt.kid {w:World} {ok:Nat->Prop} {t:T} {A:Option Addr} {n c:Nat} (h:Tree w ok t (.slice A n c)) (i:Nat) (hi:i<t.kids.length):
   ∃ g B m d,A=some ⟨g,0,none⟩∧Tree w ok (t.kids[i]'hi) (.slice B m d)∧NodeAt w g (i*8) (t.kids[i]'hi) (.slice B m d):=by
 obtain⟨g,B,m1,m2,e1,hg1,htk,hcells⟩:=kid8 h i (List.getElem?_eq_getElem hi);exact⟨g,B,m1,m2,e1,htk,fun q v e=>by rw[Nat.mul_comm i 8];exact hcells q v e⟩
theorem NodeAt.block {w w':World} {t:T} {g o:Nat} {k:Value} (h:NodeAt w g o t k) (hb:w'.heap[g]?=w.heap[g]?):NodeAt w' g o t k:=fun q v e=>(World.cell?_of_block (w:=w) (a:=⟨g,o+q,none⟩) hb).trans (h q v e)
theorem Box8.nodeAt {w:World} {g:Nat} {t:T} {k:Value} (h:Box8 w g t k):NodeAt w g 0 t k:=by
 obtain⟨c0,c1,c2,c3,c4,c5,c6,c7⟩:=h.cell;intro q v e;rw[Nat.zero_add]
 match q,e with
 | 0,e=>injection e with e;rw[←e];exact c0
 | 1,e=>injection e with e;rw[←e];exact c1
 | 2,e=>injection e with e;rw[←e];exact c2
 | 3,e=>injection e with e;rw[←e];exact c3
 | 4,e=>injection e with e;rw[←e];exact c4
 | 5,e=>injection e with e;rw[←e];exact c5
 | 6,e=>injection e with e;rw[←e];exact c6
 | 7,e=>injection e with e;rw[←e];exact c7
 | q+8,e=>simp[nodeC] at e
section
attribute [local go_sem ↓] Go.wp_at_zero Go.wp_at_succ
def addL (l:List Int) (n:Int):List Int:=if l.contains n then l else l++[n]
def RetAdd (w:World) (B:Nat) (v:Value) (l:List Int) (n:Int) (e:Ending) (w':World):Prop:=
 ∃ v',e = .returned v'∧Ints w' B v' (addL l n)∧w.grownBy w' v.ownBlock∧(v'.ownBlock=v.ownBlock∨∃ g,v'.ownBlock=some g∧w.heap.size<=g)
end
end Go.Proofs.YtgbdanddbgomhaaGreatDoor
