import Derived.Test.YtgbdanddbgomhaaDoorMw23
import Derived.Test.YtgbdanddbgomhaaDoorMw14
set_option linter.unusedVariables false
set_option linter.unusedSimpArgs false
namespace Go.Proofs.YtgbdanddbgomhaaDoor
open Go Go.RowKit
section
section
variable {P:Program} (w:World)
theorem zis {ops:Array Oper} {o:Oper} {a:Act} {K:Act->World->Prop} {Q:Exit->Act->World->Prop} {E:Prop} (hgd:o.guard=none) (s x:Operand) (t:TypeId)
   (ho:o.op = .call {callee := .builtin .append,args:=#[s,x],argTypes:=#[t,t]})
   (base:Nat) (e:TypeId) (i:TypeInfo) (z:Value) (size bytes:Nat) (ht:P.underlying t=some (.slice e)) (hi:P.info? e=some i) (hz:i.zero=some z)
   (hsize:i.size=size) (hby:i.bytes=bytes) (hzs:z.cells.size=size) (hsz:0<size)
   (v:Value) (n:Nat) (xs:List Value) (hs:a.eval s=v) (hown:w.ownsRow base e size v n xs)
   (ad:Addr) (m c:Nat) (news:List Value) (hx:a.eval x = .slice (some ad) m c) (hl:news.length=m*size) (hnews:∀ j u,news[j]?=some u->w.cell? (ad.add j)=some u) (h1:∀ u∈news,u.oneCell'=true)
   (h63:n+m<=maxLen) (hbytes:(n+m)*bytes<=140737488355328) (hbase:base<=w.heap.size)
   (h:∀ v' w',w'.ownsRow base e size v' (n+m) (xs++news)->w.grownBy w' v.ownBlock->(v'.ownBlock=v.ownBlock∨v'.ownBlock=some w.heap.size)->K (a.put o.dst v') w'):
   if Region.wanted o (yielded ops a.tmps)=true then Oper.wp P o a w K Q else E:=by
 have hw:Region.wanted o (yielded ops a.tmps)=true:=(by simp[Region.wanted,hgd]);rw[if_pos hw];obtain⟨v',w',hr,h2,h3,_,h5⟩:=run_append_own_at (P:=P) w base t o.type e i z size bytes ht hi hz hsize hby hzs hsz v n xs hown ad m c news hl hnews h1 h63 hbytes hbase;unfold Oper.wp execOp;simp only[ho,resolve,invoke,builtin,Sem.run_bind,Sem.run_pure,Result.andThen_ok,List.map_toArray,List.map_cons,List.map_nil,hs,hx,hr];exact h v' w' h2 h3 h5
end
theorem zlv {w:World} {g:Nat} {e:TypeId} {cs:Array Value} (h:HasO w g (.cells cs e (0,0))):∀ j u,cs.toList[j]?=some u->w.cell? ((⟨g,0,none⟩:Addr).add j)=some u:=by
 intro j u hu;rw[Addr.add_lit,Nat.zero_add,cell_of_row w g j _ e (0,0) h]
 simpa using hu
def NoB:Nat->Prop:=fun _=>False
end
section
theorem Tryd.infoRowP:(Tryd.prog.info? 38).map (fun i=>(i.zero,i.size,i.bytes))=some (some (.slice none 0 0),1,24):=by kernel_rfl
theorem Tryd.infoOutP:(Tryd.prog.info? 123).map (fun i=>(i.zero,i.size,i.bytes))=some (some (.agg #[.int .u64 0,.int .u64 0]),2,16):=by kernel_rfl
section
variable {W:World} {ops:Array Oper} {o:Oper} {a:Act} {K:Act->World->Prop} {Q:Exit->Act->World->Prop} {E:Prop}
theorem zsk (hgd:o.guard=none) (s x:Operand) (ho:o.op = .call {callee := .builtin .append,args:=#[s,x],argTypes:=#[40,40]}) {B n la c:Nat} {v u:Value} {vs:List Value}
   (hs:a.eval s=v) (hr:W.ownsRow B 38 1 v n vs) (hx:a.eval x = .slice (some ⟨la,0,none⟩) 1 c) (hc:HasO W la (.cells #[u] 38 (0,0))) (hu:u.oneCell'=true) (hn:n<=100000) (hB:B<=W.heap.size)
   (h:∀ v' W',W'.ownsRow B 38 1 v' (n+1) (vs++[u])->W.grownBy W' v.ownBlock->(v'.ownBlock=v.ownBlock∨v'.ownBlock=some W.heap.size)->K (a.put o.dst v') W'):if Region.wanted o (yielded ops a.tmps)=true then Oper.wp Tryd.prog o a W K Q else E:=by
 obtain⟨i0,hi,hz0,hz1,hz2⟩:=info_parts Tryd.infoRowP;exact zis W hgd s x 40 ho B 38 i0 _ 1 24 Tryd.underlying40 hi hz0 hz1 hz2 rfl (by decide) v n vs hs hr ⟨la,0,none⟩ 1 c [u] hx rfl (zlv hc) (fun y hy=>by rw[List.mem_singleton] at hy;subst hy;exact hu) (by unfold maxLen;omega) (by omega) hB h
theorem zsj (hgd:o.guard=none) (s x:Operand) (ho:o.op = .call {callee := .builtin .append,args:=#[s,x],argTypes:=#[58,58]}) {B n la c:Nat} {v:Value} {vs:List Value} {p q:Int}
   (hs:a.eval s=v) (hr:W.ownsRow B 123 2 v n vs) (hx:a.eval x = .slice (some ⟨la,0,none⟩) 1 c) (hc:HasO W la (.cells #[.int .u64 p,.int .u64 q] 123 (0,0))) (hn:n<=100000) (hB:B<=W.heap.size)
   (h:∀ v' W',W'.ownsRow B 123 2 v' (n+1) (vs++[.int .u64 p,.int .u64 q])->W.grownBy W' v.ownBlock->(v'.ownBlock=v.ownBlock∨v'.ownBlock=some W.heap.size)->K (a.put o.dst v') W'):if Region.wanted o (yielded ops a.tmps)=true then Oper.wp Tryd.prog o a W K Q else E:=by
 obtain⟨i0,hi,hz0,hz1,hz2⟩:=info_parts Tryd.infoOutP;exact zis W hgd s x 58 ho B 123 i0 _ 2 16 Tryd.underlying58 hi hz0 hz1 hz2 rfl (by decide) v n vs hs hr ⟨la,0,none⟩ 1 c [.int .u64 p,.int .u64 q] hx rfl (zlv hc) (fun y hy=>by
   simp at hy;rcases hy with rfl|rfl <;> rfl) (by unfold maxLen;omega) (by omega) hB h
end
theorem IS.push {w0 w W:World} {gm gs gx C:Nat} {K O:Nat->Prop} {F:Nat->Nat} {n:Int} {vN vO vr va v1 v2:Value} {rows:List (List Nat)} {outs:List (Nat×Nat)} {ss:List Sta} {l0 al:Sta} {xs:List Nat} {vs:List Value} {o:Nat×Nat}
   (h:IS w0 w gm gs K O F n vN vO vr rows outs ss l0 va al gx C xs) (n1:vs.length=rows.length) (n2:w.ownsRow w0.heap.size 38 1 vN rows.length vs) (n3:∀ (i:Nat) u r,vs[i]?=some u->rows[i]?=some r->Ints w w0.heap.size u (ns r)) (n4:∀ u∈vs,∀ b,u.ownBlock=some b->O b)
   (hk:Kept (fun b=>vN.ownBlock=some b∨vO.ownBlock=some b) w W)
   (r1:W.ownsRow w0.heap.size 38 1 v1 (rows.length+1) (vs++[.slice (some ⟨gx,0,none⟩) C C])) (o1:∀ b,v1.ownBlock=some b->vN.ownBlock=some b∨w.heap.size<=b)
   (r2:W.ownsRow w0.heap.size 123 2 v2 (outs.length+1) (outC outs++[.int .u64 (o.1:Int),.int .u64 (o.2:Int)])) (o2:∀ b,v2.ownBlock=some b->vO.ownBlock=some b∨w.heap.size<=b):
   ∃ O',BS w0 ((W.setCell ⟨gm,257,none⟩ v1).setCell ⟨gm,258,none⟩ v2) gm gs K O' F n v1 v2 vr (rows++[xs]) (outs++[o]) ss l0:=by
 have hs:=h.bs.keep.size;have hs2:=hk.size;have hg:=h.bs.gmlt;have hgx:=h.gxlt;have hOq:∀ b,(vN.ownBlock=some b∨vO.ownBlock=some b)->O b:=fun b e=>e.elim (h.bs.nxt.inO b) (h.bs.ots.inO b)
 have hgm:¬ (vN.ownBlock=some gm∨vO.ownBlock=some gm):=fun e=>by have:=(h.bs.olt gm (hOq gm e)).1;omega
 have hset:∀ b,b≠gm->((W.setCell ⟨gm,257,none⟩ v1).setCell ⟨gm,258,none⟩ v2).heap[b]?=W.heap[b]?:=fun b e=>(Below.heap_setCell (W.setCell ⟨gm,257,none⟩ v1) ⟨gm,258,none⟩ v2 b e).trans (Below.heap_setCell W ⟨gm,257,none⟩ v1 b e)
 have hsz:((W.setCell ⟨gm,257,none⟩ v1).setCell ⟨gm,258,none⟩ v2).heap.size=W.heap.size:=(by simp[World.setCell]);have hka:Kept (fun b=>b=gm) W ((W.setCell ⟨gm,257,none⟩ v1).setCell ⟨gm,258,none⟩ v2):=((Kept.refl (fun b=>b=gm) W).setCell (a:=⟨gm,257,none⟩) (.inl rfl) _).setCell (a:=⟨gm,258,none⟩) (.inl rfl) _;have hkW:Kept (fun b=>b=gm) w0 W:=h.bs.keep.trans hk fun b e => .inr (h.bs.olt b (hOq b e)).1
 have hb:=((h.bs.box.kept hk hgm).setNxt v1).setOut v2;have l1:∀ b,v1.ownBlock=some b->w0.heap.size<=b∧b<W.heap.size:=fun b e=>World.ownsRow.lt r1 b e
 have l2:∀ b,v2.ownBlock=some b->w0.heap.size<=b∧b<W.heap.size:=fun b e=>World.ownsRow.lt r2 b e
 have hKo:∀ b,K b->¬ (vN.ownBlock=some b∨vO.ownBlock=some b):=fun b k e=>h.bs.oK b (hOq b e) k
 have hin:∀ (b:Nat) (cur:Array Value),w.heap[b]?=some (.cells cur 3 (0,0))->¬ (vN.ownBlock=some b∨vO.ownBlock=some b):=fun b cur hb e=>by
   rcases e with e|e
   . obtain⟨cu,hc⟩:=zaa n2 e;exact za1 hb hc (by decide) rfl
   . obtain⟨cu,hc⟩:=zaa h.bs.ots.row e;exact za1 hb hc (by decide) rfl
 have hint:∀ u r,Ints w w0.heap.size u (ns r)->Ints ((W.setCell ⟨gm,257,none⟩ v1).setCell ⟨gm,258,none⟩ v2) w0.heap.size u (ns r):=fun u r hi=>za3 hi fun b e hb=>by
   obtain⟨cur,hc⟩:=zaa hi e;have hlt:=World.ownsRow.lt hi b e;rw[hset b (by omega)];exact hk.block b hb (hin b cur hc)
 refine⟨fun b=>O b∨(w.heap.size<=b∧b<W.heap.size)∨b=gx,hkW.trans hka fun b e => .inl e,hg,hb,⟨⟨vs++[.slice (some ⟨gx,0,none⟩) C C],by simp[n1],?_,fun i u r e1 e2=>?_,fun u hu b e=>?_⟩,fun b e=>?_⟩,⟨?_,fun b e=>?_⟩,fun b e=>?_,?_,h.bs.kge,?_,h.bs.rK,fun b e=>?_,fun b e=>?_⟩
 . rw[List.length_append];exact za3 r1 fun b e _=>hset b (by have:=(l1 b e).1;omega)
 . by_cases hi:i<vs.length
   . rw[List.getElem?_append_left hi] at e1;rw[List.getElem?_append_left (by omega)] at e2;exact hint u r (n3 i u r e1 e2)
   . have hi':i=vs.length:=by
       have:=(List.getElem?_eq_some_iff.1 e1).1;simp at this;omega
     subst hi';rw[List.getElem?_append_right (Nat.le_refl _),Nat.sub_self] at e1;rw[n1,List.getElem?_append_right (Nat.le_refl _),Nat.sub_self] at e2;simp at e1 e2;subst e1 e2;exact hint _ _ h.row
 . rw[List.mem_append,List.mem_singleton] at hu;rcases hu with hu|rfl
   . exact .inl (n4 u hu b e)
   . have:gx=b:=by injection e
     exact .inr (.inr this.symm)
 . rcases o1 b e with e' | e'
   . exact .inl (h.bs.nxt.inO b e')
   . exact .inr (.inl ⟨e',(l1 b e).2⟩)
 . rw[List.length_append,zq3];exact za3 r2 fun b e _=>hset b (by have:=(l2 b e).1;omega)
 . rcases o2 b e with e' | e'
   . exact .inl (h.bs.ots.inO b e')
   . exact .inr (.inl ⟨e',(l2 b e).2⟩)
 . rw[hsz];rcases e with e|e|e
   . have:=h.bs.olt b e;omega
   . omega
   . omega
 . exact (h.bs.kn.off hk fun b e k=>hKo b k e).off hka fun b e k=>by have:=h.bs.kge b k;omega
 . refine za3 h.bs.room fun b e hb=>?_
   have hlt:=zdg h.bs.room b e;rw[hset b (by omega)];exact hk.block b hb fun q=>h.bs.rO b e (hOq b q)
 . rintro (e' | e' | e')
   . exact h.bs.rO b e e'
   . have:=(zdg h.bs.room b e).2;omega
   . exact h.xR (e' ▸ e)
 . rcases e with e|e|e
   . exact h.bs.oK b e
   . exact fun k=>by have:=h.bs.kn.lt b k;omega
   . exact fun k=>h.xK (e▸k)
end
section
open Go
theorem zet:∀ (l m:List T),plTL (l++m)=plTL l+plTL m
 | [],m=>by simp[plTL]
 | t::l,m=>by simp only[List.cons_append,plTL];rw[zet l m];omega
theorem zc5 (l:List T) (j:Nat) (h:j<l.length):plTL (l.take (j+1))=plTL (l.take j)+plT (l[j]'h):=by
 rw[List.take_succ_eq_append_getElem h,zet];simp[plTL]
theorem ze6 (l:List T) (k:Nat):plTL (l.take k)<=plTL l:=by
 have h:=List.take_append_drop k l;have:=zet (l.take k) (l.drop k);rw[h] at this;omega
theorem zn2:∀ (l m:List T) (a:Nat),altF (l++m) a=altF l a++altF m (a+plTL l)
 | [],m,a=>by simp[altF,plTL]
 | t::l,m,a=>by
   simp only[List.cons_append,altF,plTL];rw[zn2 l m,List.append_assoc,Nat.add_assoc]
theorem zs7 (l:List T) (j:Nat) (h:j<l.length) (a:Nat):altF (l.take (j+1)) a=altF (l.take j) a++fstT (l[j]'h) (a+plTL (l.take j)):=by
 rw[List.take_succ_eq_append_getElem h,zn2];simp[altF]
theorem zmv:∀ (l:List T) (a:Nat),allE l=true->catF l a=altF l a
 | [],a,_=>by simp[catF,altF]
 | t::l,a,h=>by
   simp only[allE,Bool.and_eq_true] at h;simp only[catF,altF];rw[if_pos h.1,zmv l _ h.2]
theorem zju:∀ (l:List T) (j:Nat) (h:j<l.length) (a:Nat),allE (l.take j)=true->emptyT (l[j]'h)=false->catF l a=altF (l.take (j+1)) a
 | [],j,h,a,_,_=>by simp at h
 | t::l,0,h,a,_,he=>by
   simp only[List.getElem_cons_zero] at he;simp[catF,altF,he]
 | t::l,j+1,h,a,ha,he=>by
   simp only[List.take_succ_cons,allE,Bool.and_eq_true] at ha;simp only[List.getElem_cons_succ] at he;rw[List.take_succ_cons];simp only[catF,altF];rw[if_pos ha.1,zju l j (by simpa using h) _ ha.2 he]
theorem zid:∀ (l:List T) (a:Nat),allE l=true->catB l a=altB l a
 | [],a,_=>by simp[catB,altB]
 | t::l,a,h=>by
   simp only[allE,Bool.and_eq_true] at h;simp only[catB,altB];rw[if_pos h.2,zid l _ h.2]
theorem zok (l:List T) (i:Nat) (h:i<l.length) (he:emptyT (l[i]'h)=false):allE l=false:=by
 induction l generalizing i with
 | nil=>simp at h
 | cons t l ih =>
   cases i with
   | zero=>simp only[List.getElem_cons_zero] at he;simp[allE,he]
   | succ i=>simp only[List.getElem_cons_succ] at he;simp[allE,ih i (by simpa using h) he]
theorem zjv:∀ (l:List T) (i:Nat) (h:i<l.length) (a:Nat),allE (l.drop (i+1))=true->emptyT (l[i]'h)=false->catB l a=altB (l.drop i) (a+plTL (l.take i))
 | [],i,h,a,_,_=>by simp at h
 | t::l,0,h,a,ha,he=>by
   simp only[List.drop_succ_cons,List.drop_zero] at ha;simp only[catB,List.drop_zero,altB,List.take_zero,plTL,Nat.add_zero];rw[if_pos ha,zid l _ ha]
 | t::l,i+1,h,a,ha,he=>by
   simp only[List.getElem_cons_succ] at he;simp only[List.drop_succ_cons] at ha;have hf:=zok l i (by simpa using h) he;simp only[catB,List.drop_succ_cons,List.take_succ_cons,plTL];rw[hf,zjv l i (by simpa using h) _ ha he];simp[Nat.add_assoc]
theorem zs9 (l:List T) (i:Nat) (h:i<l.length) (a:Nat):altB (l.drop i) (a+plTL (l.take i))=altB (l.drop (i+1)) (a+plTL (l.take (i+1)))++lstT (l[i]'h) (a+plTL (l.take i)):=by
 rw[List.drop_eq_getElem_cons h,zc5 l i h];simp only[altB];rw[Nat.add_assoc]
theorem zsa (l:List T) (i:Nat) (h:i<l.length):allE (l.drop i)=(emptyT (l[i]'h)&&allE (l.drop (i+1))):=by
 rw[List.drop_eq_getElem_cons h];simp only[allE]
mutual
theorem zeg:∀ (t:T) (a:Nat),(fstT t a).length<=plT t
 | .mk op p lo hi l,a=>by
   have h1:=zih l a;have h2:=zmu l a;simp only[fstT,plT];split
   . simp
   . split <;> omega
theorem zih:∀ (l:List T) (a:Nat),(altF l a).length<=plTL l
 | [],a=>by simp[altF]
 | t::ts,a=>by
   have h1:=zeg t a;have h2:=zih ts (a+plT t);simp only[altF,plTL,List.length_append];omega
theorem zmu:∀ (l:List T) (a:Nat),(catF l a).length<=plTL l
 | [],a=>by simp[catF]
 | t::ts,a=>by
   have h1:=zeg t a;have h2:=zmu ts (a+plT t);simp only[catF,plTL,List.length_append];split
   . omega
   . simp;omega
end
mutual
theorem ze9:∀ (t:T) (a:Nat),(lstT t a).length<=plT t
 | .mk op p lo hi l,a=>by
   have h1:=zii l a;have h2:=zmw l a;simp only[lstT,plT];split
   . simp
   . split <;> omega
theorem zii:∀ (l:List T) (a:Nat),(altB l a).length<=plTL l
 | [],a=>by simp[altB]
 | t::ts,a=>by
   have h1:=ze9 t a;have h2:=zii ts (a+plT t);simp only[altB,plTL,List.length_append];omega
theorem zmw:∀ (l:List T) (a:Nat),(catB l a).length<=plTL l
 | [],a=>by simp[catB]
 | t::ts,a=>by
   have h1:=ze9 t a;have h2:=zmw ts (a+plT t);simp only[catB,plTL,List.length_append];split
   . omega
   . simp;omega
end
end
section
attribute [local go_sem ↓] Go.wp_at_zero Go.wp_at_succ
inductive FT:T->Prop
 | mk (op:Int) (p:Nat->Bool) (l:List T) (hop:op=1∧l=[]∨op=2∨op=3∨op=5) (hN:l.length<=202) (h:∀ x∈l,FT x):FT (.mk op p 0 0 l)
theorem FT.len {t:T} (h:FT t):t.kids.length<=202:=by cases h with | mk op p l hop hN h=>exact hN
theorem FT.at {t:T} (h:FT t) (j:Nat) (hj:j<t.kids.length):FT (t.kids[j]'hj):=by cases h with | mk op p l hop hN h=>exact h _ (List.getElem_mem hj)
theorem FT.op {t:T} (h:FT t):t.op=1∧t.kids=[]∨t.op=2∨t.op=3∨t.op=5:=by cases h with | mk op p l hop hN h=>exact hop
theorem zrl (t:T):emptyT t=if t.op=1∨t.op=5 then decide (t.op=5) else if t.op=2 then allE t.kids else anyE t.kids:=by
 cases t;rw[emptyT];rfl
theorem zr9 {k:T} (h:FT k):∀ d,FT (restT k d)
 | 0 => .mk 2 noneP [] (.inr (.inl rfl)) (by simp) (fun x hx=>by simp at hx)
 | d+1 => .mk 5 noneP _ (.inr (.inr (.inr rfl))) (by simp) (fun x hx=>by
   simp at hx;subst hx;exact .mk 2 noneP _ (.inr (.inl rfl)) (by simp) (fun y hy=>by
     simp at hy;rcases hy with rfl|rfl
     . exact h
     . exact zr9 h d))
theorem zdy:∀ l:List T,flatL l=l.map flatT
 | []=>rfl
 | t::ts=>by simp[flatL,zdy ts]
theorem zra {t:T} (hwf:WF t):FT (flatT t):=by
 induction hwf with
 | one p=>simpa [flatT,flatL] using FT.mk 1 p [] (.inl ⟨rfl,rfl⟩) (by simp) (fun x hx=>by simp at hx)
 | cat l h2 hN h ih =>
   have e:flatT (.mk 2 noneP 0 0 l) = .mk 2 noneP 0 0 (l.map flatT):=(by simp[flatT,zdy]);rw[e];exact .mk 2 noneP _ (.inr (.inl rfl)) (by simpa using hN) (fun x hx=>by
     simp at hx;obtain⟨y,hy,rfl⟩:=hx;exact ih y hy)
 | alt l h2 hN h ih =>
   have e:flatT (.mk 3 noneP 0 0 l) = .mk 3 noneP 0 0 (l.map flatT):=(by simp[flatT,zdy]);rw[e];exact .mk 3 noneP _ (.inr (.inr (.inl rfl))) (by simpa using hN) (fun x hx=>by
     simp at hx;obtain⟨y,hy,rfl⟩:=hx;exact ih y hy)
 | rep m n u h0 h1 h2 h3 hu ih =>
   have e:flatT (.mk 4 noneP m n [u]) = .mk 2 noneP 0 0 (List.replicate m.toNat (flatT u)++[restT (flatT u) (n-m).toNat]):=(by simp[flatT,flatHead]);rw[e];exact .mk 2 noneP _ (.inr (.inl rfl)) (by simp;omega) (fun x hx=>by
     simp at hx;rcases hx with ⟨_,rfl⟩|rfl
     . exact ih
     . exact zr9 ih _)
theorem zk1 (l:List T) (j:Nat) (h:j<l.length):allE (l.take (j+1))=(allE (l.take j)&&emptyT (l[j]'h)):=by
 have app:∀ l m:List T,allE (l++m)=(allE l&&allE m):=by
   intro l m;induction l with
   | nil=>simp[allE]
   | cons t ts ih=>simp[allE,ih,Bool.and_assoc]
 rw[List.take_succ_eq_append_getElem h,app];simp[allE]
theorem zs6 (l:List T) (j:Nat) (h:j<l.length):anyE (l.take (j+1))=(anyE (l.take j)||emptyT (l[j]'h)):=by
 have app:∀ l m:List T,anyE (l++m)=(anyE l||anyE m):=by
   intro l m;induction l with
   | nil=>simp[anyE]
   | cons t ts ih=>simp[anyE,ih,Bool.or_assoc]
 rw[List.take_succ_eq_append_getElem h,app];simp[anyE]
set_option maxRecDepth 20000 in
set_option maxHeartbeats 2000000 in
theorem zvw:∀ (N:Nat) (t:T) (w:World) (ok:Nat->Prop) (k:Value),SizeOf.sizeOf t<=N->FT t->Tree w ok t k->
   Calls Tryd.prog 76 #[nodeP t k] w fun e w'=>e = .returned (.bool (emptyT t))∧Below w.heap.size w w':=by
 intro N;induction N with
 | zero=>intro t w ok k h;obtain⟨op,p,lo,hi,l⟩:=t;simp at h
 | succ N ih =>
 intro t w ok k hN hft ht;obtain⟨A,n',c,rfl⟩:=ht.form;obtain⟨hn,hm⟩:=ht.bound;have hlen:=hft.len;rw[←hn] at hlen;unfold maxLen at hm;have hop:=hft.op;have b1:=Box8.new w t (.slice A n' c);have hB:Below w.heap.size w (w.alloc (.cells #[.int .i64 t.op,.int .u64 (word t.set 0),.int .u64 (word t.set 1),.int .u64 (word t.set 2),.int .u64 (word t.set 3),.int .i64 t.lo,.int .i64 t.hi,.slice A n' c] 29)):=(Below.refl _ _).alloc (Nat.le_refl _) _;have hE:emptyT t=if t.op=1∨t.op=5 then decide (t.op=5) else if t.op=2 then allE t.kids else anyE t.kids:=zrl t
 obtain⟨c0,c1,c2,c3,c4,c5,c6,c7⟩:=b1.cell;unfold nodeP
 by_cases h1:t.op=1
 . rw[if_pos (.inl h1)] at hE;have hE':emptyT t=false:=(by rw[hE,h1];decide);rw[hE'];rw[h1] at c0 ⊢;clear hE hE' hop ih ht b1 hft hn hN;go_enter Tryd.func76,Tryd.ntmps76;go_wp2;go_ret;exact⟨rfl,by rw[h1] at hB;exact hB⟩
 . by_cases h5:t.op=5
   . rw[if_pos (.inr h5)] at hE;have hE':emptyT t=true:=(by rw[hE,h5];decide);rw[hE'];rw[h5] at c0 ⊢;clear hE hE' hop ih ht b1 hft hn hN;go_enter Tryd.func76,Tryd.ntmps76;go_wp2;go_ret;exact⟨rfl,by rw[h5] at hB;exact hB⟩
   . rw[if_neg (by rintro (h|h);exact h1 h;exact h5 h)] at hE;obtain⟨o,ho⟩:∃ o,t.op=o:=⟨_,rfl⟩;have ho23:o=2∨o=3:=by rcases hop with h|h|h|h <;> omega
     have t1:(o==(1:Int))=false:=(by simp;omega);have t5:(o==(5:Int))=false:=(by simp;omega);have HN:=Zh hn;have HT:=Zh ht;have HFT:=Zh hft;have IH:=Zh ih;have HB1:=Zh b1;have HHB:=Zh hB;have HE:=Zh hE;have HSZ:=Zh hN;rw[ho] at HE HB1 HHB c0 ⊢;have HO:=Zh ho;clear hn ih hft hop b1 hB hE ht hN ho h1 h5 c0 c1 c2 c3 c4 c5 c6 c7;go_enter Tryd.func76,Tryd.ntmps76;go_wp2;go_loopg [3,4,5] n' (fun m a b i wr=>∃ j:Nat,i = .int .i64 (j:Int)∧j<=n'∧m=n'-j∧a = .bool (allE (t.kids.take j))∧b = .bool (anyE (t.kids.take j))∧Box8 wr w.heap.size t (.slice A n' c)∧Below w.heap.size w wr)
     case atStart=>exact⟨0,by first | rfl | trivial,Nat.zero_le _,by first | rfl | trivial,by simp[allE],by simp[anyE],HB1.out,HHB.out⟩
     case round =>
       obtain⟨j,rfl,hj,hmj,rfl,rfl,x1,hW⟩:=hrel;have HMJ:=Zh hmj;obtain⟨c0,c1,c2,c3,c4,c5,c6,c7⟩:=x1.cell;rw[HO.out] at c0;clear hmj
       by_cases hlt:j<n'
       . have hlt':j<t.kids.length:=(by rw[←HN.out];exact hlt);obtain⟨g,B,m1,m2,e1,hg1,htk,hcells⟩:=kid8 HT.out j (List.getElem?_eq_getElem hlt');subst e1;have hks:=zav t j hlt';have hwk:=HFT.out.at j hlt';have hsa:=zk1 t.kids j hlt';have hsb:=zs6 t.kids j hlt';generalize t.kids[j]=u at *;have HC:∀ q v,(nodeC u (.slice B m1 m2))[q]?=some v->wr.cell? ⟨g,j*8+q,none⟩=some v:=fun q v h=>by rw[Nat.mul_comm j 8];exact (hW.cell (p:=⟨g,8*j+q,none⟩) hg1).trans (hcells q v h)
         have k0:wr.cell? ⟨g,j*8,none⟩=_:=HC 0 _ rfl;have k1:=HC 1 _ rfl;have k2:=HC 2 _ rfl;have k3:=HC 3 _ rfl;have k4:=HC 4 _ rfl;have k5:=HC 5 _ rfl;have k6:=HC 6 _ rfl;have k7:=HC 7 _ rfl;have HK:=Zh (fun w' (hb:Below wr.heap.size wr w')=>IH.out u w' ok (.slice B m1 m2) (by have:=HSZ.out;omega) hwk ((htk.stays hW).stays hb));have HSA:=Zh hsa;have HSB:=Zh hsb;have HX:=Zh x1;have HW:=Zh hW;clear HC hcells htk hks hwk hsa hsb x1 hW;unfold nodeP at HK;obtain⟨a,ha⟩:∃ a,allE (t.kids.take j)=a:=⟨_,rfl⟩;obtain⟨b,hb⟩:∃ b,anyE (t.kids.take j)=b:=⟨_,rfl⟩;obtain⟨v,hv⟩:∃ v,emptyT u=v:=⟨_,rfl⟩;rw[ha,hv] at HSA;rw[hb,hv] at HSB;rw[hv] at HK;rw[ha,hb];clear ha hb hv;cases a <;> cases b
         all_goals
           go_wp2_with (go_at_call 76;(with_reducible refine (HK.out _ (Below.refl _ _)).mono ?_);rintro e w5 ⟨rfl,hb5⟩);go_roundg (n'-(j+1))
           case measure=>have:=HMJ.out;omega
           case rel=>exact⟨j+1,by go_num,by omega,rfl,by rw[HSA.out];cases v <;> rfl,by rw[HSB.out];cases v <;> rfl,HX.out.stays hb5,gro HW.out hb5⟩
       . have hjn:j=t.kids.length:=(by rw[←HN.out];omega);have hwhole:t.kids.take j=t.kids:=(by rw[hjn];exact List.take_length);rw[hwhole];have HW:=Zh hW;clear hW x1;rcases ho23 with rfl|rfl
         . have he:emptyT t=allE t.kids:=(by rw[HE.out];rfl);have HEE:=Zh he;clear he;go_wp2;go_ret;exact⟨by rw[HEE.out];rfl,HW.out⟩
         . have he:emptyT t=anyE t.kids:=(by rw[HE.out];rfl);have HEE:=Zh he;clear he;go_wp2;go_ret;exact⟨by rw[HEE.out];rfl,HW.out⟩
theorem zkw {t:T} {k:Value} {ok:Nat->Prop} (w:World) (hft:FT t) (ht:Tree w ok t k):Calls Tryd.prog 76 #[nodeP t k] w fun e w'=>e = .returned (.bool (emptyT t))∧Below w.heap.size w w':=
 zvw _ t w ok k (Nat.le_refl _) hft ht
set_option maxRecDepth 20000 in
set_option maxHeartbeats 2000000 in
theorem zng:∀ (N:Nat) (t:T) (w:World) (ok:Nat->Prop) (k:Value),SizeOf.sizeOf t<=N->FT t->Tree w ok t k->
   Calls Tryd.prog 31 #[nodeP t k] w (RetInt w (plN t)):=by
 intro N;induction N with
 | zero=>intro t w ok k h;obtain⟨op,p,lo,hi,l⟩:=t;simp at h
 | succ N ih =>
 intro t w ok k hN hft ht;obtain⟨A,n',c,rfl⟩:=ht.form;obtain⟨hn,hm⟩:=ht.bound;have hlen:=hft.len;rw[←hn] at hlen;unfold maxLen at hm;have hop:=hft.op;have b1:=Box8.new w t (.slice A n' c);have hB:Below w.heap.size w (w.alloc (.cells #[.int .i64 t.op,.int .u64 (word t.set 0),.int .u64 (word t.set 1),.int .u64 (word t.set 2),.int .u64 (word t.set 3),.int .i64 t.lo,.int .i64 t.hi,.slice A n' c] 29)):=(Below.refl _ _).alloc (Nat.le_refl _) _;have hpl:plN t=min (((if t.op=1 then 1 else 0)+plSum t.kids)*(if t.op=4 then t.hi.toNat else 1)) 1000:=(by cases t;rfl);have hsum:=zdl t.kids;have HPL:=Zh hpl;have HSUM:=Zh hsum;have HWF:=Zh hft;have HOP:=Zh hop;have HN:=Zh hn;have HT:=Zh ht;have IH:=Zh ih;have HB1:=Zh b1;have HM:=Zh hm;clear hn ih hpl hsum hft hop;unfold nodeP;cases hb1:(t.op==1)
 all_goals
   cases hb4:(t.op==4)
   all_goals
     go_enter Tryd.func31,Tryd.ntmps31;go_wp2;go_loopg [3,4] n' (fun m k i wr=>∃ j:Nat,i = .int .i64 (j:Int)∧j<=n'∧m=n'-j∧k = .int .i64 (((if t.op=1 then 1 else 0)+plSum (t.kids.take j):Nat):Int)∧Box8 wr w.heap.size t (.slice A n' c)∧Below w.heap.size w wr)
     case atStart=>exact⟨0,rfl,Nat.zero_le _,rfl,by first | (rw[if_pos (by simpa using hb1)];rfl) | (rw[if_neg (by simpa using hb1)];rfl),HB1.out,hB⟩
     case round =>
       obtain⟨j,rfl,hj,hmj,rfl,x1,hW⟩:=hrel;have HMJ:=Zh hmj;obtain⟨c0,c1,c2,c3,c4,c5,c6,c7⟩:=x1.cell;clear b1 hmj
       by_cases hlt:j<n'
       . have hlt':j<t.kids.length:=(by rw[←HN.out];exact hlt);obtain⟨g,B,m1,m2,e1,hg1,htk,hcells⟩:=kid8 HT.out j (List.getElem?_eq_getElem hlt');subst e1;have hks:=zav t j hlt';have hwk:=HWF.out.at j hlt';have hst:=zgk t.kids j hlt';have hsl:=zdl (t.kids.take j);rw[List.length_take] at hsl;have hpu:=zpq (t.kids[j]'hlt');generalize t.kids[j]=u at *;have HC:∀ q v,(nodeC u (.slice B m1 m2))[q]?=some v->wr.cell? ⟨g,j*8+q,none⟩=some v:=fun q v h=>by rw[Nat.mul_comm j 8];exact (hW.cell (p:=⟨g,8*j+q,none⟩) hg1).trans (hcells q v h)
         have k0:wr.cell? ⟨g,j*8,none⟩=_:=HC 0 _ rfl;have k1:=HC 1 _ rfl;have k2:=HC 2 _ rfl;have k3:=HC 3 _ rfl;have k4:=HC 4 _ rfl;have k5:=HC 5 _ rfl;have k6:=HC 6 _ rfl;have k7:=HC 7 _ rfl;have HK:=Zh (fun w' (hb:Below wr.heap.size wr w')=>IH.out u w' ok (.slice B m1 m2) (by omega) hwk ((htk.stays hW).stays hb));have HST:=Zh hst;clear HC hcells htk hks hwk hst;unfold nodeP RetInt at HK;have ha:((if t.op=1 then 1 else 0:Nat))<=1:=by split <;> omega
         generalize hS:(if t.op=1 then 1 else 0:Nat)=a0 at *;generalize plSum (t.kids.take j)=S at *;have hS2:S<=202000:=(by omega);clear hS;go_wp2_with (go_at_call 31;(with_reducible refine (HK.out _ (Below.refl _ _)).mono ?_);rintro e w5 ⟨rfl,hb5⟩);go_roundg (n'-(j+1))
         case measure=>have:=HMJ.out;omega
         case rel=>exact⟨j+1,by go_num,by omega,rfl,by rw[HST.out];go_num,x1.stays hb5,gro hW hb5⟩
       . have hjn:j=t.kids.length:=(by rw[←HN.out];omega);have hwhole:t.kids.take j=t.kids:=(by rw[hjn];exact List.take_length);rw[hwhole];have hS2:=HSUM.out;have ha:((if t.op=1 then 1 else 0:Nat))<=1:=by split <;> omega
         have hpl':=HPL.out;rw[show t.kids.length=n' from HN.out.symm] at hS2;generalize hS:(if t.op=1 then 1 else 0:Nat)=a0 at *;generalize plSum t.kids=S at *
         by_cases h4:t.op=4
         . exfalso;have:=HOP.out;omega
         . first
             | (exfalso;simp at hb4;exact h4 hb4)
             | skip
           all_goals
             rw[if_neg h4,Nat.mul_one] at hpl';have HPL2:=Zh hpl';clear hpl' h4 hS;go_wp2
             all_goals
               go_ret;refine⟨congrArg Ending.returned (congrArg (Value.int .i64) ?_),hW⟩;rw[HPL2.out];omega
theorem zgl:∀ (l:List T),(∀ t∈l,plN t=min (plT t) 1000)->min (plSum l) 1000=min (plTL l) 1000
 | [],_=>rfl
 | t::ts,h=>by
   have h1:=h t (by simp);have h2:=zgl ts fun u hu=>h u (by simp[hu])
   simp only[plSum,plTL];omega
theorem zln {t:T} (hft:FT t):plN t=min (plT t) 1000:=by
 induction hft with
 | mk op p l hop hN h ih =>
   have:=zgl l ih;have e4:¬ op=4:=by rcases hop with h|h|h|h <;> omega
   have e1:plN (.mk op p 0 0 l)=min ((if op=1 then 1 else 0)+plSum l) 1000:=(by simp[plN,e4]);have e2:plT (.mk op p 0 0 l)=(if op=1 then 1 else 0)+plTL l:=(by simp[plT]);rw[e1,e2];omega
theorem zj2 {t:T} {k:Value} {ok:Nat->Prop} (w:World) (hft:FT t) (ht:Tree w ok t k):Calls Tryd.prog 31 #[nodeP t k] w (RetInt w (plN t)):=
 zng _ t w ok k (Nat.le_refl _) hft ht
end
end Go.Proofs.YtgbdanddbgomhaaDoor
