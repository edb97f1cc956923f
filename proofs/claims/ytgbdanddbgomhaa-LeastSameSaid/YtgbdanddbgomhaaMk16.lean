import Derived.Test.YtgbdanddbgomhaaMk13
import Derived.Test.YtgbdanddbgomhaaMk8
set_option linter.unusedVariables false
set_option linter.unusedSimpArgs false
namespace Go.Proofs.Ytgbdanddbgomhaa
open Go Go.RowKit
section
structure RowsAt (w:World) (B:Nat) (vs vf:Value) (s:Lay) (Q:Nat->Prop):Prop where
 sets:w.ownsRow B 68 4 vs s.sets.length (setsC s.sets)
 setsQ:∀ b,vs.ownBlock=some b->Q b
 fols:∃ fs,w.ownsRow B 44 1 vf s.follow.length fs∧FolAt w B fs s.follow Q
 folsQ:∀ b,vf.ownBlock=some b->Q b
section
variable {w w':World} {B:Nat} {s:Lay} {Q:Nat->Prop} {fs:List Value} {ls:List (List Nat)} {vs vf:Value}
theorem FolAt.block (h:FolAt w B fs ls Q) (hb:∀ b,Q b->b<w.heap.size->w'.heap[b]?=w.heap[b]?):FolAt w' B fs ls Q:=
 ⟨h.len,fun i v l h1 h2=>(h.get i v l h1 h2).block fun b e=>hb b (h.inQ i v b h1 e),h.inQ,h.apart⟩
theorem RowsAt.block (h:RowsAt w B vs vf s Q) (hb:∀ b,Q b->b<w.heap.size->w'.heap[b]?=w.heap[b]?):RowsAt w' B vs vf s Q:=by
 obtain⟨fs,h1,h2⟩:=h.fols;exact⟨zaa h.sets fun b e=>hb b (h.setsQ b e),h.setsQ,⟨fs,zaa h1 fun b e=>hb b (h.folsQ b e),h2.block hb⟩,h.folsQ⟩
end
end
section
def Nice (s:Lay) (a b:Nat) (x:Str):Prop:=∃ R,Good [] s a b x R
theorem zji {α:Type} (l:List α) (i:Nat) (d:α) (h:i<l.length):l[i]?=some (l.getD i d):=by
 rw[List.getD_eq_getElem?_getD,List.getElem?_eq_getElem h];rfl
section
variable {w w2:World} {B gl:Nat} {s:Lay} {Q:Nat->Prop} {fs:List Value} {ls:List (List Nat)} {ys:List Nat}
theorem FolAt.put (h:FolAt w B fs ls Q) (hQ:∀ b,Q b->b<w.heap.size) (p:Nat) (hp:p<ls.length) (vp v':Value) (hvp:fs[p]?=some vp) (hg:w.grownBy w2 vp.ownBlock) (hv:Ints w2 B v' (ns (ls.getD p []++ys)))
   (hor:v'.ownBlock=vp.ownBlock∨v'.ownBlock=some w.heap.size):FolAt w2 B (fs.set p v') (linkAt ls p ys) (fun b=>Q b∨v'.ownBlock=some b):=by
 have hpf:p<fs.length:=(by rw[h.len];exact hp);have hset:∀ i,(fs.set p v')[i]?=if i=p then some v' else fs[i]?:=fun i=>by
   rw[List.getElem?_set]
   by_cases e:p=i
   . subst e;simp[hpf]
   . have e':¬ i=p:=fun x=>e x.symm
     simp[e,e']
 have hls:∀ i,(linkAt ls p ys)[i]?=if i=p then some (ls.getD p []++ys) else ls[i]?:=fun i=>by
   rw[linkAt,List.getElem?_set]
   by_cases e:p=i
   . subst e;simp[hp]
   . have e':¬ i=p:=fun x=>e x.symm
     simp[e,e']
 refine⟨by simp[linkAt,h.len],fun i v l h1 h2=>?_,fun i v b h1 h2=>?_,fun i j v v'' b h1 h2 h3 h4=>?_⟩
 . rw[hset] at h1;rw[hls] at h2
   by_cases e:i=p
   . rw[if_pos e] at h1 h2;injection h1 with h1
     injection h2 with h2
     subst h1 h2;exact hv
   . rw[if_neg e] at h1 h2;refine (h.get i v l h1 h2).block fun b hb hlt=>hg.block b hlt fun e'=>e ?_
     exact h.apart i p v vp b h1 hvp hb e'.symm
 . rw[hset] at h1
   by_cases e:i=p
   . rw[if_pos e] at h1;injection h1 with h1
     subst h1;exact .inr h2
   . rw[if_neg e] at h1;exact .inl (h.inQ i v b h1 h2)
 . rw[hset] at h1 h2;have key:∀ k v0,k≠p->fs[k]?=some v0->v0.ownBlock=some b->v'.ownBlock=some b->False:=by
     intro k v0 hk hv0 hb0 hb';rcases hor with e|e
     . exact hk (h.apart k p v0 vp b hv0 hvp hb0 (e.symm.trans hb'))
     . have:=hQ b (h.inQ k v0 b hv0 hb0);rw[e] at hb';injection hb' with hb'
       omega
   by_cases e:i=p
   . by_cases e2:j=p
     . rw[e,e2]
     . rw[if_pos e] at h1;rw[if_neg e2] at h2;injection h1 with h1
       subst h1;exact (key j v'' e2 h2 h4 h3).elim
   . rw[if_neg e] at h1
     by_cases e2:j=p
     . rw[if_pos e2] at h2;injection h2 with h2
       subst h2;exact (key i v e h1 h3 h4).elim
     . rw[if_neg e2] at h2;exact h.apart i j v v'' b h1 h2 h3 h4
end
end
section
section
variable {P:Program} (w:World)
theorem zk1 {ops:Array Oper} {o:Oper} {a:Act} {K:Act->World->Prop} {Q:Exit->Act->World->Prop} {E:Prop} (hgd:o.guard=none) (s x:Operand) (t:TypeId)
   (ho:o.op = .call {callee := .builtin .append,args:=#[s,x],argTypes:=#[t,t]})
   (base:Nat) (e:TypeId) (i:TypeInfo) (z:Value) (size bytes:Nat) (ht:P.underlying t=some (.slice e)) (hi:P.info? e=some i) (hz:i.zero=some z)
   (hsize:i.size=size) (hby:i.bytes=bytes) (hzs:z.cells.size=size) (hsz:0<size)
   (v:Value) (n:Nat) (xs:List Value) (hs:a.eval s=v) (hown:w.ownsRow base e size v n xs)
   (ad:Addr) (m c:Nat) (news:List Value) (hx:a.eval x = .slice (some ad) m c) (hl:news.length=m*size) (hnews:∀ j u,news[j]?=some u->w.cell? (ad.add j)=some u) (h1:∀ u∈news,u.oneCell'=true)
   (h63:n+m<=maxLen) (hbytes:(n+m)*bytes<=140737488355328) (hbase:base<=w.heap.size)
   (h:∀ v' w',w'.ownsRow base e size v' (n+m) (xs++news)->w.grownBy w' v.ownBlock->(v'.ownBlock=v.ownBlock∨v'.ownBlock=some w.heap.size)->K (a.put o.dst v') w'):
   if Region.wanted o (yielded ops a.tmps)=true then Oper.wp P o a w K Q else E:=by
 have hw:Region.wanted o (yielded ops a.tmps)=true:=(by simp[Region.wanted,hgd]);rw[if_pos hw];obtain⟨v',w',hr,h2,h3,_,h5⟩:=run_append_own_at (P:=P) w base t o.type e i z size bytes ht hi hz hsize hby hzs hsz v n xs hown ad m c news hl hnews h1 h63 hbytes hbase;unfold Oper.wp execOp;simp only[ho,resolve,invoke,builtin,Sem.run_bind,Sem.run_pure,Result.andThen_ok,List.map_toArray,List.map_cons,List.map_nil,hs,hx,hr];exact h v' w' h2 h3 h5
end
theorem za9 {w:World} {B e size n:Nat} {v:Value} {xs:List Value} (h:w.ownsRow B e size v n xs):∃ A c,v = .slice A n c:=by
 rcases h.2 with ⟨rfl,h0⟩|⟨g,cap,cur,rfl,_⟩
 . exact⟨none,0,by rw[h0]⟩
 . exact⟨_,_,rfl⟩
theorem zj7 {w:World} {g:Nat} {e:TypeId} {cs:Array Value} (h:HasO w g (.cells cs e (0,0))):∀ j u,cs.toList[j]?=some u->w.cell? ((⟨g,0,none⟩:Addr).add j)=some u:=by
 intro j u hu;rw[Addr.add_lit,Nat.zero_add,cell_of_row w g j _ e (0,0) h]
 simpa using hu
theorem zfk {w w':World} {g:Nat} {o:Obj} {row:Option Nat} (hg:w.grownBy w' row) (h:HasO w g o) (hne:some g=row->False):HasO w' g o:=zbg hg h hne
theorem zet {w:World} {C a n:Nat} (h:HasO w a (.cells #[.int .i64 (n:Int)] 3 (0,0))) (hC:C<=a):Ints w C (.slice (some ⟨a,0,none⟩) 1 1) (ns [n]):=
 ⟨rfl,.inr ⟨a,1,_,rfl,hC,h,Nat.le_refl _,by decide,rfl,rfl⟩⟩
def NoB:Nat->Prop:=fun _=>False
end
section
theorem Try.infoRowP:(Try.prog.info? 44).map (fun i=>(i.zero,i.size,i.bytes))=some (some (.slice none 0 0),1,24):=by kernel_rfl
theorem Try.infoOutP:(Try.prog.info? 51).map (fun i=>(i.zero,i.size,i.bytes))=some (some (.agg #[.int .u64 0,.int .u64 0]),2,16):=by kernel_rfl
section
variable {W:World} {ops:Array Oper} {o:Oper} {a:Act} {K:Act->World->Prop} {Q:Exit->Act->World->Prop} {E:Prop}
theorem zfr (hgd:o.guard=none) (s x:Operand) (ho:o.op = .call {callee := .builtin .append,args:=#[s,x],argTypes:=#[35,35]}) {B n la c:Nat} {v u:Value} {vs:List Value}
   (hs:a.eval s=v) (hr:W.ownsRow B 44 1 v n vs) (hx:a.eval x = .slice (some ⟨la,0,none⟩) 1 c) (hc:HasO W la (.cells #[u] 44 (0,0))) (hu:u.oneCell'=true) (hn:n<=100000) (hB:B<=W.heap.size)
   (h:∀ v' W',W'.ownsRow B 44 1 v' (n+1) (vs++[u])->W.grownBy W' v.ownBlock->(v'.ownBlock=v.ownBlock∨v'.ownBlock=some W.heap.size)->K (a.put o.dst v') W'):if Region.wanted o (yielded ops a.tmps)=true then Oper.wp Try.prog o a W K Q else E:=by
 obtain⟨i0,hi,hz0,hz1,hz2⟩:=info_parts Try.infoRowP;exact zk1 W hgd s x 35 ho B 44 i0 _ 1 24 Try.underlying35 hi hz0 hz1 hz2 rfl (by decide) v n vs hs hr ⟨la,0,none⟩ 1 c [u] hx rfl (zj7 hc) (fun y hy=>by rw[List.mem_singleton] at hy;subst hy;exact hu) (by unfold maxLen;omega) (by omega) hB h
theorem zeg (hgd:o.guard=none) (s x:Operand) (ho:o.op = .call {callee := .builtin .append,args:=#[s,x],argTypes:=#[36,36]}) {B n la c:Nat} {v:Value} {vs:List Value} {p q:Int}
   (hs:a.eval s=v) (hr:W.ownsRow B 51 2 v n vs) (hx:a.eval x = .slice (some ⟨la,0,none⟩) 1 c) (hc:HasO W la (.cells #[.int .u64 p,.int .u64 q] 51 (0,0))) (hn:n<=100000) (hB:B<=W.heap.size)
   (h:∀ v' W',W'.ownsRow B 51 2 v' (n+1) (vs++[.int .u64 p,.int .u64 q])->W.grownBy W' v.ownBlock->(v'.ownBlock=v.ownBlock∨v'.ownBlock=some W.heap.size)->K (a.put o.dst v') W'):if Region.wanted o (yielded ops a.tmps)=true then Oper.wp Try.prog o a W K Q else E:=by
 obtain⟨i0,hi,hz0,hz1,hz2⟩:=info_parts Try.infoOutP;exact zk1 W hgd s x 36 ho B 51 i0 _ 2 16 Try.underlying36 hi hz0 hz1 hz2 rfl (by decide) v n vs hs hr ⟨la,0,none⟩ 1 c [.int .u64 p,.int .u64 q] hx rfl (zj7 hc) (fun y hy=>by
   simp at hy;rcases hy with rfl|rfl <;> rfl) (by unfold maxLen;omega) (by omega) hB h
end
theorem IS.push {w0 w W:World} {gm gs gx C:Nat} {K O:Nat->Prop} {F:Nat->Nat} {n:Int} {vN vO vr va v1 v2:Value} {rows:List (List Nat)} {outs:List (Nat×Nat)} {ss:List Sta} {l0 al:Sta} {xs:List Nat} {vs:List Value} {o:Nat×Nat}
   (h:IS w0 w gm gs K O F n vN vO vr rows outs ss l0 va al gx C xs) (n1:vs.length=rows.length) (n2:w.ownsRow w0.heap.size 44 1 vN rows.length vs) (n3:∀ (i:Nat) u r,vs[i]?=some u->rows[i]?=some r->Ints w w0.heap.size u (ns r)) (n4:∀ u∈vs,∀ b,u.ownBlock=some b->O b)
   (hk:Kept (fun b=>vN.ownBlock=some b∨vO.ownBlock=some b) w W)
   (r1:W.ownsRow w0.heap.size 44 1 v1 (rows.length+1) (vs++[.slice (some ⟨gx,0,none⟩) C C])) (o1:∀ b,v1.ownBlock=some b->vN.ownBlock=some b∨w.heap.size<=b)
   (r2:W.ownsRow w0.heap.size 51 2 v2 (outs.length+1) (outC outs++[.int .u64 (o.1:Int),.int .u64 (o.2:Int)])) (o2:∀ b,v2.ownBlock=some b->vO.ownBlock=some b∨w.heap.size<=b):
   ∃ O',BS w0 ((W.setCell ⟨gm,257,none⟩ v1).setCell ⟨gm,258,none⟩ v2) gm gs K O' F n v1 v2 vr (rows++[xs]) (outs++[o]) ss l0:=by
 have hs:=h.bs.keep.size;have hs2:=hk.size;have hg:=h.bs.gmlt;have hgx:=h.gxlt;have hOq:∀ b,(vN.ownBlock=some b∨vO.ownBlock=some b)->O b:=fun b e=>e.elim (h.bs.nxt.inO b) (h.bs.ots.inO b)
 have hgm:¬ (vN.ownBlock=some gm∨vO.ownBlock=some gm):=fun e=>by have:=(h.bs.olt gm (hOq gm e)).1;omega
 have hset:∀ b,b≠gm->((W.setCell ⟨gm,257,none⟩ v1).setCell ⟨gm,258,none⟩ v2).heap[b]?=W.heap[b]?:=fun b e=>(Below.heap_setCell (W.setCell ⟨gm,257,none⟩ v1) ⟨gm,258,none⟩ v2 b e).trans (Below.heap_setCell W ⟨gm,257,none⟩ v1 b e)
 have hsz:((W.setCell ⟨gm,257,none⟩ v1).setCell ⟨gm,258,none⟩ v2).heap.size=W.heap.size:=(by simp[World.setCell]);have hka:Kept (fun b=>b=gm) W ((W.setCell ⟨gm,257,none⟩ v1).setCell ⟨gm,258,none⟩ v2):=((Kept.refl (fun b=>b=gm) W).setCell (a:=⟨gm,257,none⟩) (.inl rfl) _).setCell (a:=⟨gm,258,none⟩) (.inl rfl) _;have hkW:Kept (fun b=>b=gm) w0 W:=h.bs.keep.trans hk fun b e => .inr (h.bs.olt b (hOq b e)).1
 have hb:=((h.bs.box.kept hk hgm).setNxt v1).setOut v2;have l1:∀ b,v1.ownBlock=some b->w0.heap.size<=b∧b<W.heap.size:=fun b e=>World.ownsRow.lt r1 b e
 have l2:∀ b,v2.ownBlock=some b->w0.heap.size<=b∧b<W.heap.size:=fun b e=>World.ownsRow.lt r2 b e
 have hKo:∀ b,K b->¬ (vN.ownBlock=some b∨vO.ownBlock=some b):=fun b k e=>h.bs.oK b (hOq b e) k
 have hin:∀ (b:Nat) (cur:Array Value),w.heap[b]?=some (.cells cur 3 (0,0))->¬ (vN.ownBlock=some b∨vO.ownBlock=some b):=fun b cur hb e=>by
   rcases e with e|e
   . obtain⟨cu,hc⟩:=zac n2 e;exact za6 hb hc (by decide) rfl
   . obtain⟨cu,hc⟩:=zac h.bs.ots.row e;exact za6 hb hc (by decide) rfl
 have hint:∀ u r,Ints w w0.heap.size u (ns r)->Ints ((W.setCell ⟨gm,257,none⟩ v1).setCell ⟨gm,258,none⟩ v2) w0.heap.size u (ns r):=fun u r hi=>zaa hi fun b e hb=>by
   obtain⟨cur,hc⟩:=zac hi e;have hlt:=World.ownsRow.lt hi b e;rw[hset b (by omega)];exact hk.block b hb (hin b cur hc)
 refine⟨fun b=>O b∨(w.heap.size<=b∧b<W.heap.size)∨b=gx,hkW.trans hka fun b e => .inl e,hg,hb,⟨⟨vs++[.slice (some ⟨gx,0,none⟩) C C],by simp[n1],?_,fun i u r e1 e2=>?_,fun u hu b e=>?_⟩,fun b e=>?_⟩,⟨?_,fun b e=>?_⟩,fun b e=>?_,?_,h.bs.kge,?_,h.bs.rK,fun b e=>?_,fun b e=>?_⟩
 . rw[List.length_append];exact zaa r1 fun b e _=>hset b (by have:=(l1 b e).1;omega)
 . by_cases hi:i<vs.length
   . rw[List.getElem?_append_left hi] at e1;rw[List.getElem?_append_left (by omega)] at e2;exact hint u r (n3 i u r e1 e2)
   . have hi':i=vs.length:=by
       have:=(List.getElem?_eq_some_iff.1 e1).1;simp at this;omega
     subst hi';rw[List.getElem?_append_right (Nat.le_refl _),Nat.sub_self] at e1;rw[n1,List.getElem?_append_right (Nat.le_refl _),Nat.sub_self] at e2;simp at e1 e2;subst e1 e2;exact hint _ _ h.row
 . rw[List.mem_append,List.mem_singleton] at hu;rcases hu with hu|rfl
   . exact .inl (n4 u hu b e)
   . have:gx=b:=by injection e
     exact .inr (.inr this.symm)
 . rcases o1 b e with e' | e'
   . exact .inl (h.bs.nxt.inO b e')
   . exact .inr (.inl ⟨e',(l1 b e).2⟩)
 . rw[List.length_append,zgf];exact zaa r2 fun b e _=>hset b (by have:=(l2 b e).1;omega)
 . rcases o2 b e with e' | e'
   . exact .inl (h.bs.ots.inO b e')
   . exact .inr (.inl ⟨e',(l2 b e).2⟩)
 . rw[hsz];rcases e with e|e|e
   . have:=h.bs.olt b e;omega
   . omega
   . omega
 . exact (h.bs.kn.off hk fun b e k=>hKo b k e).off hka fun b e k=>by have:=h.bs.kge b k;omega
 . refine zaa h.bs.room fun b e hb=>?_
   have hlt:=zec h.bs.room b e;rw[hset b (by omega)];exact hk.block b hb fun q=>h.bs.rO b e (hOq b q)
 . rintro (e' | e' | e')
   . exact h.bs.rO b e e'
   . have:=(zec h.bs.room b e).2;omega
   . exact h.xR (e' ▸ e)
 . rcases e with e|e|e
   . exact h.bs.oK b e
   . exact fun k=>by have:=h.bs.kn.lt b k;omega
   . exact fun k=>h.xK (e▸k)
end
theorem Try.infoBool:(Try.prog.info? 4).map (fun i=>(i.zero,i.size,i.bytes))=some (some (.bool false),1,1):=by kernel_rfl
structure NfaAt (w:World) (C:Nat) (vs v1:Value) (gm:Nat) (vf:Value) (s:Lay) (x:Str):Prop where
 rows:∃ Q,RowsAt w C vs vf s Q
 first:Ints w C v1 (ns x.first)
 last:Bools w C gm s.sets.length (fun j=>x.last.contains j)
structure NfaIn (w:World) (B:Nat) (vs v1:Value) (gm:Nat) (vf:Value) (s:Lay) (x:Str):Prop where
 sets:∀ p,p<s.sets.length->∃ g c,vs = .slice (some ⟨g,0,none⟩) s.sets.length c∧g<B∧∀ r,r<4->w.cell? ⟨g,p*4+r,none⟩=some (.int .u64 (word (s.sets.getD p noneP) r))
 first:Ints w 0 v1 (ns x.first)
 firstB:∀ b,v1.ownBlock=some b->b<B
 last:∀ p,p<s.sets.length->w.cell? ⟨gm,p,none⟩=some (.bool (x.last.contains p))
 lastB:gm<B
 fols:∀ p,p<s.sets.length->∃ g c v,vf = .slice (some ⟨g,0,none⟩) s.sets.length c∧g<B∧w.cell? ⟨g,p,none⟩=some v∧Ints w 0 v (ns (s.follow.getD p []))∧∀ b,v.ownBlock=some b->b<B
theorem NfaAt.rest {w:World} {C gm:Nat} {vs v1 vf:Value} {s:Lay} {x:Str} (h:NfaAt w C vs v1 gm vf s x) (hl:LInv s):NfaIn w w.heap.size vs v1 gm vf s x:=by
 obtain⟨Q,hr⟩:=h.rows;obtain⟨fs,hfo,hfs⟩:=hr.fols;refine⟨fun p hp=>?_,h.first.low (Nat.zero_le _),fun b e=>(h.first.in e).2,fun p hp=>h.last.cell p hp,h.last.in.2,fun p hp=>?_⟩
 . have hs:=hr.sets;rcases hs.2 with ⟨_,h0⟩|⟨g,c,cur,rfl,_,hg,_⟩
   . omega
   . refine⟨g,c,rfl,za4 hg,fun r hr=>?_⟩;rw[World.ownsRow.cellAt hs (p*4+r) (by omega),zbo _ _ _ hp hr,List.getD_eq_getElem?_getD,List.getElem?_eq_getElem hp];rfl
 . have hp':p<s.follow.length:=(by rw[hl.len];exact hp);rcases hfo.2 with ⟨_,h0⟩|⟨g,c,cur,rfl,_,hg,_⟩
   . omega
   . have hpf:p<fs.length:=(by rw[hfs.len];exact hp');refine⟨g,c,fs[p]'hpf,by rw[hl.len],za4 hg,?_,(hfs.get p _ _ (List.getElem?_eq_getElem hpf) (zji s.follow p [] hp')).low (Nat.zero_le _),fun b e=>?_⟩
     . rw[World.ownsRow.cellAt hfo p (by omega)];exact List.getElem?_eq_getElem hpf
     . exact ((hfs.get p _ _ (List.getElem?_eq_getElem hpf) (zji s.follow p [] hp')).in e).2
theorem NfaIn.below {w w':World} {B gm:Nat} {vs v1 vf:Value} {s:Lay} {x:Str} (h:NfaIn w B vs v1 gm vf s x) (hb:Below B w w'):NfaIn w' B vs v1 gm vf s x:=by
 refine⟨fun p hp=>?_,h.first.block fun b e _=>hb.block b (h.firstB b e),h.firstB,fun p hp=>(hb.cell (p:=⟨gm,p,none⟩) h.lastB).trans (h.last p hp),h.lastB,fun p hp=>?_⟩
 . obtain⟨g,c,e,hg,hc⟩:=h.sets p hp;exact⟨g,c,e,hg,fun r hr=>(hb.cell (p:=⟨g,p*4+r,none⟩) hg).trans (hc r hr)⟩
 . obtain⟨g,c,v,e,hg,hc,hi,hv⟩:=h.fols p hp;exact⟨g,c,v,e,hg,(hb.cell (p:=⟨g,p,none⟩) hg).trans hc,hi.block fun b e _=>hb.block b (hv b e),hv⟩
section
theorem Try.infoPlc:(Try.prog.info? 142).map (fun i=>(i.zero,i.size,i.bytes))=some (some (.agg #[.int .u64 0,.int .u64 0,.int .u64 0,.int .u64 0,.slice none 0 0,.int .i64 0,.bool false,.bool false]),8,72):=by kernel_rfl
def PlcRow (w:World) (B:Nat) (v:Value) (ps:List Plc):Prop:=
 ∃ vs,vs.length=ps.length∧w.ownsRow B 142 8 v ps.length (plcsC ps vs)∧∀ (i:Nat) u p,vs[i]?=some u->ps[i]?=some p->Ints w 0 u (ns p.fol)∧∀ b,u.ownBlock=some b->b<B
section
variable {w w':World} {B:Nat} {v:Value} {ps:List Plc}
theorem PlcRow.nil (w:World) (B:Nat):PlcRow w B (.slice none 0 0) []:=⟨[],rfl,World.ownsRow_nil w B _ 8,fun i u p h=>by simp at h⟩
theorem PlcRow.form (h:PlcRow w B v ps):∃ A c,v = .slice A ps.length c∧ps.length<=c:=by
 obtain⟨vs,h1,h2,h3⟩:=h;rcases h2.2 with ⟨rfl,h0⟩|⟨g,cap,cur,rfl,_,_,hc,_⟩
 . exact⟨none,0,by rw[h0],by omega⟩
 . exact⟨_,_,rfl,hc⟩
theorem PlcRow.in (h:PlcRow w B v ps) {b:Nat} (hb:v.ownBlock=some b):B<=b∧b<w.heap.size:=by
 obtain⟨vs,h1,h2,h3⟩:=h;exact World.ownsRow.lt h2 b hb
theorem PlcRow.kind (h:PlcRow w B v ps) {b:Nat} (hb:v.ownBlock=some b):∃ cur,w.heap[b]?=some (.cells cur 142 (0,0)):=by
 obtain⟨vs,h1,h2,h3⟩:=h;exact zac h2 hb
theorem PlcRow.block (h:PlcRow w B v ps) (hB:B<=w.heap.size) (hb:Below B w w') (ho:∀ b,v.ownBlock=some b->w'.heap[b]?=w.heap[b]?):PlcRow w' B v ps:=by
 obtain⟨vs,h1,h2,h3⟩:=h;exact⟨vs,h1,zaa h2 fun b e _=>ho b e,fun i u p e1 e2=>⟨(h3 i u p e1 e2).1.block fun b e _=>hb.block b ((h3 i u p e1 e2).2 b e),(h3 i u p e1 e2).2⟩⟩
theorem PlcRow.stays (h:PlcRow w B v ps) (hB:B<=w.heap.size) (hb:Below w.heap.size w w'):PlcRow w' B v ps:=
 h.block hB (hb.mono hB) fun b e=>hb.block b (h.in e).2
theorem PlcRow.cellSet (h:PlcRow w B v ps) (hB:B<=w.heap.size) {a:Addr} (ha:a.block<B) (hk:∃ cur ty,w.heap[a.block]?=some (.cells cur ty (0,0))∧ty≠3) (u:Value):PlcRow (w.setCell a u) B v ps:=by
 obtain⟨vs,h1,h2,h3⟩:=h;obtain⟨cur,ty,hc,hty⟩:=hk;exact⟨vs,h1,zaa h2 fun b e _=>Below.heap_setCell _ _ _ _ (by have:=(World.ownsRow.lt h2 b e).1;omega),fun i x p e1 e2=>⟨(h3 i x p e1 e2).1.block fun b e _=>Below.heap_setCell _ _ _ _ (by
   intro e';obtain⟨c2,k2⟩:=(h3 i x p e1 e2).1.kind e;subst e';exact za6 hc k2 hty rfl),(h3 i x p e1 e2).2⟩⟩
theorem PlcRow.rules (h:PlcRow w B v ps) {v1:Value} {fs:List Nat} (hf:Ints w B v1 (ns fs)) {gr lam:Nat} (hr:HasO w gr (.cells #[v,v1,.int .i64 lam] 103 (0,0))):RulesIn w gr ⟨ps,fs,lam⟩:=by
 obtain⟨vs,h1,h2,h3⟩:=h;exact⟨v,vs,v1,hr,h1,zax h2 (Nat.zero_le _),fun i u p e1 e2=>(h3 i u p e1 e2).1,hf.low (Nat.zero_le _)⟩
end
theorem zus {w:World} {B:Nat} {v:Value} {ps:List Plc} (h:PlcRow w B v ps) (hB:B<=w.heap.size) (hl:ps.length<=100000) (p:Plc) (u:Value) (hu:Ints w 0 u (ns p.fol)) (hub:∀ b,u.ownBlock=some b->b<B) (td:TypeId) (ad:Addr) (c:Nat)
   (hc:∀ (j:Nat) x,(plcC p u)[j]?=some x->w.cell? (ad.add j)=some x):
   ∃ v' w',(Builtin.append_ #[101,101] td #[v,.slice (some ad) 1 c]).run Try.prog w = .ok v' w'∧PlcRow w' B v' (ps++[p])∧w.grownBy w' v.ownBlock∧(v'.ownBlock=v.ownBlock∨v'.ownBlock=some w.heap.size):=by
 have h0:=h;obtain⟨vs,h1,h2,h3⟩:=h;obtain⟨i0,hi,hz0,hz1,hz2⟩:=info_parts Try.infoPlc;have hone:u.oneCell'=true:=by
   obtain⟨A,c',e⟩:=hu.form;rw[e];rfl
 obtain⟨v',w',hr,h4,h5,_,h6⟩:=run_append_own_at (P:=Try.prog) w B 101 td 142 i0 _ 8 72 Try.underlying101 hi hz0 hz1 hz2 rfl (by decide) v ps.length (plcsC ps vs) h2 ad 1 c (plcC p u) rfl hc
   (by
     intro x hx;simp only[plcC,List.mem_cons,List.not_mem_nil,or_false] at hx;rcases hx with rfl|rfl|rfl|rfl|rfl|rfl|rfl|rfl
     all_goals first | rfl | exact hone) (by unfold maxLen;omega) (by omega) hB
 have key:∀ (u':Value) (l:List Int),Ints w 0 u' l->(∀ b,u'.ownBlock=some b->b<B)->Ints w' 0 u' l:=fun u' l hu' hb'=>hu'.block fun b e hb=>h5.block b hb fun e'=>by
   have h7:=(World.ownsRow.lt h2 b e'.symm).1;have h8:=hb' b e;omega
 refine⟨v',w',hr,⟨vs++[u],by simp[h1],?_,fun i u' p' e1 e2=>?_⟩,h5,h6⟩
 . rw[zkb ps vs p u h1]
   simpa using h4
 . by_cases hi':i<ps.length
   . rw[List.getElem?_append_left hi'] at e2;rw[List.getElem?_append_left (by omega)] at e1;exact⟨key _ _ (h3 i u' p' e1 e2).1 (h3 i u' p' e1 e2).2,(h3 i u' p' e1 e2).2⟩
   . have e0:i=ps.length:=by
       have:=(List.getElem?_eq_some_iff.1 e2).1;simp at this;omega
     subst e0;rw[List.getElem?_append_right (Nat.le_refl _)] at e2;rw[List.getElem?_append_right (by omega)] at e1;simp[h1] at e1 e2;subst e1 e2;exact⟨key _ _ hu hub,hub⟩
def nfaC (vs v1 vm vf:Value) (e:Bool):List Value:=[vs,v1,vm,vf,.bool e]
def RdNfas (w:World) (B:Nat) (A:Option Addr) (L:List (Lay×Str)):Prop:=
 ∀ i s x,L[i]?=some (s,x)->∃ g off A1 m1 c1 A2 m2 c2 gm A3 m3 c3,A=some ⟨g,off,none⟩∧g<B∧(∀ q u,(nfaC (.slice A1 m1 c1) (.slice A2 m2 c2) (.slice (some ⟨gm,0,none⟩) s.sets.length s.sets.length) (.slice A3 m3 c3) x.empty)[q]?=some u->w.cell? ⟨g,off+i*5+q,none⟩=some u)∧
   m1=s.sets.length∧m2=x.first.length∧m3=s.sets.length∧NfaIn w B (.slice A1 m1 c1) (.slice A2 m2 c2) gm (.slice A3 m3 c3) s x
theorem RdNfas.below {w w':World} {B:Nat} {A:Option Addr} {L:List (Lay×Str)} (h:RdNfas w B A L) (hb:Below B w w'):RdNfas w' B A L:=fun i s x e=>by
 obtain⟨g,off,A1,m1,c1,A2,m2,c2,gm,A3,m3,c3,h1,h2,h3,h4,h5,h6,h7⟩:=h i s x e;exact⟨g,off,A1,m1,c1,A2,m2,c2,gm,A3,m3,c3,h1,h2,fun q u hu=>(hb.cell (p:=⟨g,off+i*5+q,none⟩) h2).trans (h3 q u hu),h4,h5,h6,h7.below hb⟩
def plcOf (s:Lay) (x:Str) (base:Nat) (b:Bool) (p:Nat):Plc:=⟨s.sets.getD p noneP,s.follow.getD p [],base,x.last.contains p,b⟩
def plcsOf (s:Lay) (x:Str) (base:Nat) (b:Bool):Nat->List Plc
 | 0=>[]
 | k+1=>plcsOf s x base b k++[plcOf s x base b k]
theorem zb5 (s:Lay) (x:Str) (base:Nat) (b:Bool):∀ k,(plcsOf s x base b k).length=k
 | 0=>rfl
 | k+1=>by simp[plcsOf,zb5 s x base b k]
def lx0:Lay×Str:=(⟨[],[]⟩,⟨[],[],false⟩)
def togP (L:List (Lay×Str)) (bs:List Bool):Nat->List Plc
 | 0=>[]
 | k+1=>togP L bs k++plcsOf (L.getD k lx0).1 (L.getD k lx0).2 (togP L bs k).length (bs.getD k false) (L.getD k lx0).1.sets.length
def togF (L:List (Lay×Str)) (bs:List Bool):Nat->List Nat
 | 0=>[]
 | k+1=>togF L bs k++(L.getD k lx0).2.first.map ((togP L bs k).length+·)
theorem zfq (L:List (Lay×Str)) (bs:List Bool) (P:Nat) (hP:∀ s x,(s,x)∈L->s.sets.length<=P):∀ k,k<=L.length->(togP L bs k).length<=k*P
 | 0,_=>by simp[togP]
 | k+1,h=>by
   have ih:=zfq L bs P hP k (by omega);have hm:L.getD k lx0∈L:=(by rw[List.getD_eq_getElem?_getD,List.getElem?_eq_getElem (by omega)];exact List.getElem_mem _);have:=hP (L.getD k lx0).1 (L.getD k lx0).2 hm;simp only[togP,List.length_append,zb5];rw[Nat.succ_mul];omega
theorem ziv (L:List (Lay×Str)) (bs:List Bool) (P:Nat) (hP:∀ s x,(s,x)∈L->x.first.length<=P):∀ k,k<=L.length->(togF L bs k).length<=k*P
 | 0,_=>by simp[togF]
 | k+1,h=>by
   have ih:=ziv L bs P hP k (by omega);have hm:L.getD k lx0∈L:=(by rw[List.getD_eq_getElem?_getD,List.getElem?_eq_getElem (by omega)];exact List.getElem_mem _);have:=hP (L.getD k lx0).1 (L.getD k lx0).2 hm;simp only[togF,List.length_append,List.length_map];rw[Nat.succ_mul];omega
end
section
attribute [local go_sem ↓] Go.wp_at_zero Go.wp_at_succ
def RdTr (w:World) (A:Option Addr) (L:List Bool):Prop:=∀ (i:Nat) x,L[i]?=some x->∃ b off,A=some ⟨b,off,none⟩∧b<w.heap.size∧w.cell? ⟨b,off+i,none⟩=some (.bool x)
def okWd (L:List (Lay×Str)) (bs:List Bool) (x:Wd):Prop:=∃ s t b,L[x.rule]?=some (s,t)∧bs[x.rule]?=some b∧x.place<s.sets.length∧x.age<=63
def tellStep (L:List (Lay×Str)) (bs:List Bool) (x:Wd) (o:Nat×Nat):Nat×Nat:=match L[x.rule]?,bs[x.rule]? with
 | some (_,t),some b=>if t.last.contains x.place=true then (if b=true then (o.1,o.2 ||| 2 ^ x.age) else (o.1 ||| 2 ^ x.age,o.2)) else o
 | _,_=>o
def tellW (L:List (Lay×Str)) (bs:List Bool):List Wd->Nat×Nat->Nat×Nat
 | [],o=>o
 | x::l,o=>tellW L bs l (tellStep L bs x o)
theorem zok (L:List (Lay×Str)) (bs:List Bool) (st:List Wd) (k:Nat) (x:Wd) (h:st[k]?=some x) (o:Nat×Nat):tellW L bs (st.drop k) o=tellW L bs (st.drop (k+1)) (tellStep L bs x o):=by
 obtain⟨hk,e⟩:=List.getElem?_eq_some_iff.1 h;rw[List.drop_eq_getElem_cons hk,tellW,e]
set_option maxRecDepth 20000 in
set_option maxHeartbeats 4000000 in
theorem zqa {w:World} {A B C:Option Addr} {ca cb cc:Nat} {L:List (Lay×Str)} {bs:List Bool} {st:List Wd} (hL:RdNfas w w.heap.size A L) (hbs:RdTr w B bs) (hs:RdW w C st) (hok:∀ x∈st,okWd L bs x) (hl:st.length<=100000) (hLl:L.length<=64) (hbl:bs.length<=65):
   Calls Try.prog 33 #[.slice A L.length ca,.slice B bs.length cb,.slice C st.length cc] w fun e w'=>e = .returned (.agg #[.int .u64 ((tellW L bs st (0,0)).1:Nat),.int .u64 ((tellW L bs st (0,0)).2:Nat)])∧Below w.heap.size w w':=by
 obtain⟨N,hN⟩:∃ N,st.length=N:=⟨_,rfl⟩;obtain⟨K,hK⟩:∃ K,L.length=K:=⟨_,rfl⟩;obtain⟨M,hM⟩:∃ M,bs.length=M:=⟨_,rfl⟩;rw[hN] at hl ⊢;rw[hK] at hLl ⊢;rw[hM] at hbl ⊢;have HN:=Zh hN;have HK:=Zh hK;have HM:=Zh hM;have HL:=Zh hL;have HBS:=Zh hbs;have HS:=Zh hs;have HOK:=Zh hok;clear hN hK hM hL hbs hs hok;go_enter Try.func33,Try.ntmps33;go_wp2;go_loopg [8] N (fun mm i wr=>∃ (k a b:Nat),i = .int .i64 (k:Int)∧k<=N∧mm=N-k∧a<18446744073709551616∧b<18446744073709551616∧tellW L bs (st.drop k) (a,b)=tellW L bs st (0,0)∧BoxO wr w.heap.size (.int .u64 0) (.int .u64 0)∧BoxO wr (w.heap.size+1) (.int .u64 (a:Int)) (.int .u64 (b:Int))∧Below w.heap.size w wr)
 case atStart=>exact⟨0,0,0,rfl,Nat.zero_le _,rfl,by omega,by omega,rfl,(BoxO.new w _ _ _ rfl).alloc _,BoxO.new _ _ _ _ (by simp),((Below.refl _ _).alloc (Nat.le_refl _) _).alloc (by simp) _⟩
 case round =>
   obtain⟨k,a,b,rfl,hk,hmk,ha64,hb64,ho,bR,bO,hW⟩:=hrel;have HMK:=Zh hmk;have HO:=Zh ho;have BR:=Zh bR;have BO:=Zh bO;have HW:=Zh hW;clear hmk ho
   by_cases hkN:k<N
   . obtain⟨x,hx⟩:∃ x,st[k]?=some x:=⟨_,List.getElem?_eq_getElem (by rw[HN.out];omega)⟩;obtain⟨s,t,bb,e1,e2,e3,e4⟩:=HOK.out x (List.mem_of_getElem? hx);obtain⟨gs,os,rfl,hgs,z0,z1,z2⟩:=(HS.out.stays hW) k x hx;obtain⟨g,off,A1,m1,c1,A2,m2,c2,gm,A3,m3,c3,rfl,hg,hc,q1,q2,q3,hin⟩:=HL.out x.rule s t e1;have y2:=(hW.cell (p:=⟨g,off+x.rule*5+2,none⟩) hg).trans (hc 2 _ rfl);have y3:=(hin.below hW).last x.place e3;obtain⟨gb,ob,rfl,hgb,y4'⟩:=HBS.out x.rule bb e2;have y4:=za5 y4' hW;have hxr:x.rule<K:=(by have:=(List.getElem?_eq_some_iff.1 e1).1;have:=HK.out;omega);have hxm:x.rule<M:=(by have:=(List.getElem?_eq_some_iff.1 e2).1;have:=HM.out;omega);have hst:=zok L bs st k x hx (a,b);rw[HO.out] at hst;have hts:tellStep L bs x (a,b)=if t.last.contains x.place=true then (if bb=true then (a,b ||| 2 ^ x.age) else (a ||| 2 ^ x.age,b)) else (a,b):=by unfold tellStep;rw[e1,e2]
     rw[hts] at hst;have hbit:=fun W=>zzm W x.age e4
     obtain⟨z,hz⟩:∃ z,s.sets.length=z:=⟨_,rfl⟩;rw[hz] at y2 e3;have h264:2 ^ x.age<18446744073709551616:=by
       have h1:=Nat.pow_le_pow_right (n:=2) (by omega) e4;have h2:(2:Nat) ^ 63=9223372036854775808:=(by decide);omega
     have hp2:((2:Int) ^ x.age)=((2 ^ x.age:Nat):Int):=(by push_cast;rfl);have hb1:=bits_or_u64_nat a (2 ^ x.age) ha64 h264;have hb2:=bits_or_u64_nat b (2 ^ x.age) hb64 h264;have ho1:a ||| 2 ^ x.age<18446744073709551616:=Nat.or_lt_two_pow (n:=64) ha64 h264;have ho2:b ||| 2 ^ x.age<18446744073709551616:=Nat.or_lt_two_pow (n:=64) hb64 h264;obtain⟨xr,xp,xa⟩:=x;simp only at z0 z1 z2 y2 y3 y4 hbit hxr hxm e3 hst hb1 hb2 ho1 ho2 hp2;obtain⟨v,hv⟩:∃ v:Int,(2:Int) ^ xa=v:=⟨_,rfl⟩;obtain⟨V,hV⟩:∃ V:Nat,(2:Nat) ^ xa=V:=⟨_,rfl⟩;rw[hv,hV] at hp2;rw[hv] at hbit;rw[hV] at hst hb1 hb2 ho1 ho2;subst hp2;obtain⟨lb,hlb⟩:∃ lb,t.last.contains xp=lb:=⟨_,rfl⟩;rw[hlb] at y3 hst;have HBIT:=Zh hbit;have HST:=Zh hst;obtain⟨w0,w1⟩:=bO.cell;obtain⟨f0,f1⟩:=bO.frozen;have i0:(0:Int)<=(k:Int):=(by omega);have i1:(k:Int)<(N:Int):=(by omega);have i2:(0:Int)<=(xr:Int):=(by omega);have i3:(xr:Int)<(K:Int):=(by omega);have i4:(xr:Int)<(M:Int):=(by omega);have i5:(0:Int)<=(xp:Int):=(by omega);have i6:(xp:Int)<(z:Int):=(by omega);clear hx e1 e2 hgs hg hc hin hgb y4' hts hbit hst hv hV hlb bR bO hW q1 q2 q3 hz;cases lb
     . go_wp2;go_quiet (fail);go_wp2;go_roundg (N-(k+1))
       case measure=>have:=HMK.out;omega
       case rel=>exact⟨k+1,a,b,by go_num,by omega,rfl,ha64,hb64,by simpa using HST.out.symm,BR.out,BO.out,zch HW.out _⟩
     . cases bb
       . go_wp2;go_quiet (fail);go_wp2;go_region_law (first
           | (go_simp;go_at_call 57;(with_reducible refine (HBIT.out _).mono ?_);rintro e w5 ⟨rfl,rfl⟩)
           | fail)
         all_goals
           go_wp2;go_roundg (N-(k+1))
           case measure=>have:=HMK.out;omega
           case rel=>exact⟨k+1,a ||| V,b,by go_num,by omega,rfl,ho1,hb64,by simpa using HST.out.symm,BoxO.far (w:=wr.drewN _) BR.out (ad:=⟨w.heap.size+1,0,none⟩) (by show w.heap.size≠w.heap.size+1;omega) _,BoxO.put0 (w:=wr.drewN _) BO.out _,(zch HW.out _).setCell (p:=⟨w.heap.size+1,0,none⟩) (by show w.heap.size<=w.heap.size+1;omega) _⟩
       . go_wp2;go_quiet (fail);go_wp2;go_region_law (first
           | (go_simp;go_at_call 57;(with_reducible refine (HBIT.out _).mono ?_);rintro e w5 ⟨rfl,rfl⟩)
           | fail)
         all_goals
           go_wp2;go_roundg (N-(k+1))
           case measure=>have:=HMK.out;omega
           case rel=>exact⟨k+1,a,b ||| V,by go_num,by omega,rfl,ha64,ho2,by simpa using HST.out.symm,BoxO.far (w:=wr.drewN _) BR.out (ad:=⟨w.heap.size+1,1,none⟩) (by show w.heap.size≠w.heap.size+1;omega) _,BoxO.put1 (w:=wr.drewN _) BO.out _,(zch HW.out _).setCell (p:=⟨w.heap.size+1,1,none⟩) (by show w.heap.size<=w.heap.size+1;omega) _⟩
   . have hkl:k=st.length:=(by rw[HN.out];omega);have ho:=HO.out;rw[hkl,List.drop_length,tellW] at ho;have HOO:=Zh ho;obtain⟨q0,q1⟩:=BR.out.cell;obtain⟨f2,f3⟩:=BR.out.frozen;obtain⟨w0,w1⟩:=BO.out.cell;clear ho hkl bR bO hW;go_wp2;have bF:=(BR.out.put0 (.int .u64 (a:Int))).put1 (.int .u64 (b:Int));obtain⟨y0,y1⟩:=bF.cell;refine bodyPost_ret (v := .agg #[.int .u64 (a:Int),.int .u64 (b:Int)]) ?_ rfl ⟨by rw[←HOO.out],(HW.out.setCell (p:=⟨w.heap.size,0,none⟩) (Nat.le_refl _) _).setCell (p:=⟨w.heap.size,1,none⟩) (Nat.le_refl _) _⟩;simp[results,Try.results33,go_sem,y0,y1]
end
structure OkLay (s:Lay) (x:Str):Prop where
 sets:s.sets.length<=256
 firstN:x.first.length<=256
 first:∀ p∈x.first,p<s.sets.length
 fol:∀ q p,p∈s.follow.getD q []->p<s.sets.length
 folN:∀ q,(s.follow.getD q []).length<=100000
theorem zxz {t:T} (hwf:WF t) (h256:plR t<=256):OkLay (lay0 t).1 (lay0 t).2:=by
 have hsz:(lay0 t).1.sets.length=plR t:=(by have:=zjc hwf ⟨[],[]⟩;simpa [lay0] using this);obtain⟨hl,hg⟩:=zeq (xs:=[]) hwf;have hfo:∀ q p,p∈(lay0 t).1.follow.getD q []->p<(lay0 t).1.sets.length:=hl.lt;refine⟨by omega,?_,fun p hp=>(hg.first p hp).2,hfo,fun q=>?_⟩
 . have:=ziz _ 0 _ hg.sf hg.first
   omega
 . by_cases hq:q<(lay0 t).1.sets.length
   . have:=ziz _ 0 (lay0 t).1.sets.length (hg.st q (Nat.zero_le _) hq) fun p hp=>⟨Nat.zero_le _,hfo q p hp⟩
     omega
   . rw[List.getD_eq_getElem?_getD,List.getElem?_eq_none (by rw[hl.len];omega)];simp
theorem zho {s:Lay} {x:Str} {base:Nat} {b:Bool} {p:Plc}:∀ k,p∈plcsOf s x base b k->∃ j,j<k∧p=plcOf s x base b j
 | 0,h=>by simp[plcsOf] at h
 | k+1,h=>by
   rw[plcsOf,List.mem_append,List.mem_singleton] at h;rcases h with h|h
   . obtain⟨j,hj,e⟩:=zho k h;exact⟨j,by omega,e⟩
   . exact⟨k,by omega,h⟩
theorem zhp {s:Lay} {x:Str} {base:Nat} {b:Bool}:∀ (k j:Nat),j<k->(plcsOf s x base b k)[j]?=some (plcOf s x base b j)
 | 0,j,h=>by omega
 | k+1,j,h=>by
   rw[plcsOf]
   by_cases hj:j<k
   . rw[List.getElem?_append_left (by rw[zb5];exact hj)];exact zhp k j hj
   . have:j=k:=by omega
     subst this;rw[List.getElem?_append_right (by rw[zb5];exact Nat.le_refl _),zb5,Nat.sub_self];rfl
theorem zm6 {L:List (Lay×Str)} (hL:∀ s x,(s,x)∈L->OkLay s x) {k:Nat} (hk:k<L.length):OkLay (L.getD k lx0).1 (L.getD k lx0).2:=by
 have hm:L.getD k lx0∈L:=(by rw[List.getD_eq_getElem?_getD,List.getElem?_eq_getElem hk];exact List.getElem_mem _);exact hL _ _ hm
theorem zmp {L:List (Lay×Str)} {bs:List Bool} (hL:∀ s x,(s,x)∈L->OkLay s x):∀ k,k<=L.length->∀ p∈togP L bs k,(∀ q∈p.fol,p.base+q<(togP L bs k).length)∧p.fol.length<=100000∧p.base<=k*256
 | 0,_=>fun p h=>by simp[togP] at h
 | k+1,hk=>fun p h=>by
   have hlen:=zfq L bs 256 (fun s x h=>(hL s x h).sets) k (by omega);have ho:=zm6 hL (k:=k) (by omega);rw[togP,List.mem_append] at h;rw[togP,List.length_append,zb5];have hm:k*256<=(k+1)*256:=Nat.mul_le_mul_right _ (Nat.le_succ _);rcases h with h|h
   . obtain⟨h1,h2,h3⟩:=zmp hL k (by omega) p h;exact⟨fun q hq=>Nat.lt_of_lt_of_le (h1 q hq) (Nat.le_add_right _ _),h2,Nat.le_trans h3 hm⟩
   . obtain⟨j,hj,rfl⟩:=zho _ h;refine⟨fun q hq=>?_,ho.folN j,?_⟩
     . have h4:=ho.fol j q hq;exact Nat.add_lt_add_left h4 _
     . exact Nat.le_trans hlen hm
theorem ziu {L:List (Lay×Str)} {bs:List Bool} (hL:∀ s x,(s,x)∈L->OkLay s x):∀ k,k<=L.length->∀ p∈togF L bs k,p<(togP L bs k).length
 | 0,_=>fun p h=>by simp[togF] at h
 | k+1,hk=>fun p h=>by
   have ho:=zm6 hL (k:=k) (by omega);rw[togF,List.mem_append,List.mem_map] at h;rw[togP,List.length_append,zb5];rcases h with h|⟨q,hq,rfl⟩
   . have:=ziu hL k (by omega) p h;omega
   . have:=ho.first q hq
     omega
theorem zjy {L:List (Lay×Str)} {bs:List Bool} {lam:Nat} (hL:∀ s x,(s,x)∈L->OkLay s x) (hn:L.length<=64) (hlam:1<=lam∧lam<=32):Valid ⟨togP L bs L.length,togF L bs L.length,lam⟩:=by
 have hP:=zfq L bs 256 (fun s x h=>(hL s x h).sets) L.length (Nat.le_refl _);have hF:=ziv L bs 256 (fun s x h=>(hL s x h).firstN) L.length (Nat.le_refl _);have hm:L.length*256<=64*256:=Nat.mul_le_mul_right _ hn;refine⟨hlam,by show (togP L bs L.length).length<=_;omega,ziu hL L.length (Nat.le_refl _),by show (togF L bs L.length).length<=_;omega,fun i p hp=>?_⟩;obtain⟨h1,h2,h3⟩:=zmp hL L.length (Nat.le_refl _) p (List.mem_of_getElem? hp);exact⟨h1,h2,by omega⟩
theorem NfaIn.wider {w:World} {B B' gm:Nat} {vs v1 vf:Value} {s:Lay} {x:Str} (h:NfaIn w B vs v1 gm vf s x) (hB:B<=B'):NfaIn w B' vs v1 gm vf s x where
 sets:=fun p hp=>by obtain⟨g,c,e,hg,hc⟩:=h.sets p hp;exact⟨g,c,e,by omega,hc⟩
 first:=h.first
 firstB:=fun b e=>by have:=h.firstB b e;omega
 last:=h.last
 lastB:=by have:=h.lastB;omega
 fols:=fun p hp=>by obtain⟨g,c,v,e,hg,hc,hi,hv⟩:=h.fols p hp;exact⟨g,c,v,e,by omega,hc,hi,fun b e=>by have:=hv b e;omega⟩
theorem RdNfas.stays {w w':World} {A:Option Addr} {L:List (Lay×Str)} (h:RdNfas w w.heap.size A L) (hb:Below w.heap.size w w'):RdNfas w' w'.heap.size A L:=fun i s x e=>by
 obtain⟨g,off,A1,m1,c1,A2,m2,c2,gm,A3,m3,c3,h1,h2,h3,h4,h5,h6,h7⟩:=(h.below hb) i s x e;exact⟨g,off,A1,m1,c1,A2,m2,c2,gm,A3,m3,c3,h1,Nat.lt_of_lt_of_le h2 hb.size,h3,h4,h5,h6,h7.wider hb.size⟩
section
def Solid (w:World) (E:Nat->Prop) (vs v1:Value) (gm:Nat) (vf:Value) (s:Lay) (x:Str):Prop:=
 ∀ w',w.heap.size<=w'.heap.size->(∀ b,E b->w'.heap[b]?=w.heap[b]?)->NfaIn w' w'.heap.size vs v1 gm vf s x
theorem Solid.of_at {w:World} {C gm:Nat} {vs v1 vf:Value} {s:Lay} {x:Str} (h:NfaAt w C vs v1 gm vf s x) (hl:LInv s):Solid w (fun b=>C<=b∧b<w.heap.size) vs v1 gm vf s x:=fun w' hs hk=>by
 have own:∀ {v:Value} {n e size:Nat} {xs:List Value},w.ownsRow C e size v n xs->w'.ownsRow C e size v n xs:=fun h=>zaa h fun b e hb=>hk b ⟨(World.ownsRow.lt h b e).1,hb⟩
 obtain⟨Q,hr⟩:=h.rows;obtain⟨fs,h1,h2⟩:=hr.fols;exact NfaAt.rest (C:=C) ⟨⟨Q,own hr.sets,hr.setsQ,⟨fs,own h1,⟨h2.len,fun i v l e1 e2=>own (h2.get i v l e1 e2),h2.inQ,h2.apart⟩⟩,hr.folsQ⟩,own h.first,own h.last⟩ hl
theorem zlu {w:World} {B e size n c k:Nat} {A:Option Addr} {xs:List Value} (h:w.ownsRow B e size (.slice A n c) k xs):n=k:=by
 rcases h.2 with ⟨e,e0⟩|⟨g,cap,cur,e,_⟩
 . injection e with _ e _
   omega
 . injection e
def Elem (w:World) (E:Nat->Prop) (c:List Value) (s:Lay) (x:Str):Prop:=
 ∃ A1 m1 c1 A2 m2 c2 gm A3 m3 c3,c=nfaC (.slice A1 m1 c1) (.slice A2 m2 c2) (.slice (some ⟨gm,0,none⟩) s.sets.length s.sets.length) (.slice A3 m3 c3) x.empty∧m1=s.sets.length∧m2=x.first.length∧m3=s.sets.length∧Solid w E (.slice A1 m1 c1) (.slice A2 m2 c2) gm (.slice A3 m3 c3) s x
section
variable {w w':World} {E E':Nat->Prop} {c:List Value} {s:Lay} {x:Str} {ty tys:TypeId} {B:Nat} {v:Value} {L:List (Lay×Str)}
theorem Elem.keep (h:Elem w E c s x) (hs:w.heap.size<=w'.heap.size) (hk:∀ b,E b->w'.heap[b]?=w.heap[b]?):Elem w' E c s x:=by
 obtain⟨A1,m1,c1,A2,m2,c2,gm,A3,m3,c3,h1,h2,h3,h4,h5⟩:=h;exact⟨A1,m1,c1,A2,m2,c2,gm,A3,m3,c3,h1,h2,h3,h4,fun w'' hs' hk'=>h5 w'' (Nat.le_trans hs hs') fun b e=>(hk' b e).trans (hk b e)⟩
theorem Elem.wide (h:Elem w E c s x) (he:∀ b,E b->E' b):Elem w E' c s x:=by
 obtain⟨A1,m1,c1,A2,m2,c2,gm,A3,m3,c3,h1,h2,h3,h4,h5⟩:=h;exact⟨A1,m1,c1,A2,m2,c2,gm,A3,m3,c3,h1,h2,h3,h4,fun w'' hs' hk'=>h5 w'' hs' fun b e=>hk' b (he b e)⟩
theorem Elem.of_at {C gm m1 c1 m2 c2 m3 c3:Nat} {A1 A2 A3:Option Addr} (h:NfaAt w C (.slice A1 m1 c1) (.slice A2 m2 c2) gm (.slice A3 m3 c3) s x) (hl:LInv s):
   Elem w (fun b=>C<=b∧b<w.heap.size) (nfaC (.slice A1 m1 c1) (.slice A2 m2 c2) (.slice (some ⟨gm,0,none⟩) s.sets.length s.sets.length) (.slice A3 m3 c3) x.empty) s x:=by
 obtain⟨Q,hr⟩:=h.rows;obtain⟨fs,h1,h2⟩:=hr.fols;have e2:=zlu h.first
 have e3:=zlu h1;rw[hl.len] at e3;exact⟨A1,m1,c1,A2,m2,c2,gm,A3,m3,c3,rfl,zlu hr.sets,by simpa [ns] using e2,e3,Solid.of_at h hl⟩
theorem Elem.one (h:Elem w E c s x):c.length=5∧∀ u∈c,u.oneCell'=true:=by
 obtain⟨A1,m1,c1,A2,m2,c2,gm,A3,m3,c3,rfl,_⟩:=h;refine⟨rfl,fun u hu=>?_⟩;simp only[nfaC,List.mem_cons,List.not_mem_nil,or_false] at hu;rcases hu with rfl|rfl|rfl|rfl|rfl <;> rfl
def NfaRow (ty:TypeId) (w:World) (B:Nat) (v:Value) (L:List (Lay×Str)) (E:Nat->Prop):Prop:=
 (∀ b,E b->b<w.heap.size∧v.ownBlock≠some b)∧∃ cs:List (List Value),cs.length=L.length∧w.ownsRow B ty 5 v L.length cs.flatten∧∀ (i:Nat) c s x,cs[i]?=some c->L[i]?=some (s,x)->Elem w E c s x
theorem NfaRow.nil (ty:TypeId) (w:World) (B:Nat):NfaRow ty w B (.slice none 0 0) [] fun _=>False:=
 ⟨fun b e=>e.elim,[],rfl,World.ownsRow_nil w B _ 5,fun i c s x h=>by simp at h⟩
theorem NfaRow.keep (h:NfaRow ty w B v L E) (hs:w.heap.size<=w'.heap.size) (hv:∀ b,v.ownBlock=some b->w'.heap[b]?=w.heap[b]?) (hk:∀ b,E b->w'.heap[b]?=w.heap[b]?):NfaRow ty w' B v L E:=by
 obtain⟨h1,cs,h2,h3,h4⟩:=h;exact⟨fun b e=>⟨Nat.lt_of_lt_of_le (h1 b e).1 hs,(h1 b e).2⟩,cs,h2,zaa h3 fun b e _=>hv b e,fun i c s x e1 e2=>(h4 i c s x e1 e2).keep hs hk⟩
theorem NfaRow.lt (h:NfaRow ty w B v L E) {b:Nat} (hb:v.ownBlock=some b):B<=b∧b<w.heap.size:=by
 obtain⟨h1,cs,h2,h3,h4⟩:=h;exact World.ownsRow.lt h3 b hb
theorem NfaRow.kind (h:NfaRow ty w B v L E) {b:Nat} (hb:v.ownBlock=some b):∃ cur,w.heap[b]?=some (.cells cur ty (0,0)):=by
 obtain⟨h1,cs,h2,h3,h4⟩:=h;exact zac h3 hb
theorem NfaRow.stays (h:NfaRow ty w B v L E) (hb:Below w.heap.size w w'):NfaRow ty w' B v L E:=h.keep hb.size (fun b e=>hb.block b (h.lt e).2) fun b e=>hb.block b (h.1 b e).1
theorem NfaRow.wide (h:NfaRow ty w B v L E) (he:∀ b,E b->E' b) (hE:∀ b,E' b->b<w.heap.size∧v.ownBlock≠some b):NfaRow ty w B v L E':=by
 obtain⟨h1,cs,h2,h3,h4⟩:=h;exact⟨hE,cs,h2,h3,fun i c s x e1 e2=>(h4 i c s x e1 e2).wide he⟩
theorem NfaRow.form (h:NfaRow ty w B v L E):∃ A c,v = .slice A L.length c∧L.length<=c:=by
 obtain⟨h1,cs,h2,h3,h4⟩:=h;rcases h3.2 with ⟨rfl,h0⟩|⟨g,cap,cur,rfl,_,_,hc,_⟩
 . exact⟨none,0,by rw[h0],by omega⟩
 . exact⟨_,_,rfl,hc⟩
theorem znx:∀ (cs:List (List Value)) (i q:Nat) (c:List Value),(∀ d∈cs,d.length=5)->cs[i]?=some c->q<5->cs.flatten[i*5+q]?=c[q]?
 | [],i,q,c,hl,h,hq=>by simp at h
 | d::cs,0,q,c,hl,h,hq=>by
   simp at h;subst h;rw[List.flatten_cons,List.getElem?_append_left (by rw[hl d (List.mem_cons_self ..)];omega)];simp
 | d::cs,i+1,q,c,hl,h,hq=>by
   have ih:=znx cs i q c (fun d' hd=>hl d' (List.mem_cons_of_mem _ hd)) (by simpa using h) hq;have hd:=hl d (List.mem_cons_self ..);rw[List.flatten_cons,List.getElem?_append_right (by rw[hd];omega),hd,show (i+1)*5+q-5=i*5+q by omega];exact ih
theorem NfaRow.fresh {E2:Nat->Prop} {n:Nat} (h:NfaRow ty w B v L E) (hb:Below w.heap.size w w') (hn:w.heap.size<=n) (he:∀ b,E b->E2 b) (h2:∀ b,E2 b->E b∨(w.heap.size<=b∧b<w'.heap.size)):NfaRow ty w' B v L E2:=
 (h.stays hb).wide he fun b e=>(h2 b e).elim (fun e'=>⟨Nat.lt_of_lt_of_le (h.1 b e').1 hb.size,(h.1 b e').2⟩) fun e'=>⟨e'.2,fun e2=>by have:=(h.lt e2).2;omega⟩
theorem NfaRow.off {ty2:TypeId} {v2:Value} {L2:List (Lay×Str)} (h:NfaRow ty w B v L E) (h2:NfaRow ty2 w B v2 L2 E) (hne:ty≠ty2) (hg:w.grownBy w' v2.ownBlock):NfaRow ty w' B v L E:=
 h.keep hg.size (fun b e=>hg.block b (h.lt e).2 fun e'=>by
   obtain⟨c1,k1⟩:=h.kind e;obtain⟨c2,k2⟩:=h2.kind e'.symm;exact za6 k1 k2 hne rfl) fun b e=>hg.block b (h.1 b e).1 fun e'=>(h2.1 b e).2 e'.symm
theorem zjl {b:Nat} {cs:Array Value} {t:TypeId} (h:HasO w b (.cells cs t (0,0))) (j:Nat) (u:Value) (hu:cs.toList[j]?=some u):w.cell? ((⟨b,0,none⟩:Addr).add j)=some u:=by
 rw[Addr.add_lit,Nat.zero_add,cell_of_row w b j _ _ (0,0) h]
 simpa using hu
theorem NfaRow.rd (h:NfaRow ty w B v L E) {A:Option Addr} {n c:Nat} (hv:v = .slice A n c):RdNfas w w.heap.size A L:=fun i s x hi=>by
 obtain⟨h1,cs,h2,h3,h4⟩:=h;have hl:i<L.length:=(List.getElem?_eq_some_iff.1 hi).1;obtain⟨d,hd⟩:∃ d,cs[i]?=some d:=⟨_,List.getElem?_eq_getElem (by omega)⟩;have hall:∀ d∈cs,d.length=5:=fun d hd=>by
   obtain⟨j,hj⟩:=List.getElem?_of_mem hd;obtain⟨⟨s',x'⟩,hx⟩:∃ z,L[j]?=some z:=⟨_,List.getElem?_eq_getElem (by have:=(List.getElem?_eq_some_iff.1 hj).1;omega)⟩;exact (h4 j d s' x' hj hx).one.1
 have he:=h4 i d s x hd hi;obtain⟨A1,m1,c1,A2,m2,c2,gm,A3,m3,c3,rfl,e1,e2,e3,e4⟩:=he;rcases h3.2 with ⟨_,h0⟩|⟨g,cap,cur,e,hB,hg,_⟩
 . omega
 . rw[e] at hv h3;injection hv with f1 f2 f3
   refine⟨g,0,A1,m1,c1,A2,m2,c2,gm,A3,m3,c3,f1.symm,za4 hg,fun q u hu=>?_,e1,e2,e3,e4 w (Nat.le_refl _) fun _ _=>rfl⟩;have hq:q<5:=(List.getElem?_eq_some_iff.1 hu).1;rw[Nat.zero_add,World.ownsRow.cellAt h3 (i*5+q) (by omega),znx cs i q _ hall hd hq];exact hu
structure NfaTy (ty tys:TypeId):Prop where
 und:Try.prog.underlying tys=some (.slice ty)
 info:(Try.prog.info? ty).map (fun i=>(i.zero,i.size,i.bytes))=some (some (.agg #[.slice none 0 0,.slice none 0 0,.slice none 0 0,.slice none 0 0,.bool false]),5,104)
theorem zv2 (hT:NfaTy ty tys) (h:NfaRow ty w B v L E) (hB:B<=w.heap.size) (hl:L.length<=1000) (he:Elem w E c s x) (td:TypeId) (ad:Addr) (cp:Nat) (hc:∀ (j:Nat) u,c[j]?=some u->w.cell? (ad.add j)=some u):
   ∃ v' w',(Builtin.append_ #[tys,tys] td #[v,.slice (some ad) 1 cp]).run Try.prog w = .ok v' w'∧NfaRow ty w' B v' (L++[(s,x)]) E∧w.grownBy w' v.ownBlock∧(v'.ownBlock=v.ownBlock∨v'.ownBlock=some w.heap.size):=by
 obtain⟨h1,cs,h2,h3,h4⟩:=h;obtain⟨i0,hi,hz0,hz1,hz2⟩:=info_parts hT.info;obtain⟨v',w',hr,h5,h6,_,h7⟩:=run_append_own_at (P:=Try.prog) w B tys td ty i0 _ 5 104 hT.und hi hz0 hz1 hz2 rfl (by decide) v L.length cs.flatten h3 ad 1 cp c he.one.1 hc he.one.2 (by unfold maxLen;omega) (by omega) hB;have hk:∀ b,E b->w'.heap[b]?=w.heap[b]?:=fun b e=>h6.block b (h1 b e).1 fun e'=>(h1 b e).2 e'.symm
 refine⟨v',w',hr,⟨fun b e=>⟨Nat.lt_of_lt_of_le (h1 b e).1 h6.size,fun e'=>?_⟩,cs++[c],by simp[h2],by rw[List.flatten_append,List.length_append];simpa using h5,fun i c' s' x' e1 e2=>?_⟩,h6,h7⟩
 . rcases h7 with e7|e7
   . exact (h1 b e).2 (e7▸e')
   . rw[e7] at e';injection e' with e'
     have:=(h1 b e).1;omega
 . by_cases hi':i<L.length
   . rw[List.getElem?_append_left hi'] at e2;rw[List.getElem?_append_left (by omega)] at e1;exact (h4 i c' s' x' e1 e2).keep h6.size hk
   . have e0:i=L.length:=by
       have:=(List.getElem?_eq_some_iff.1 e2).1;simp at this;omega
     subst e0;rw[List.getElem?_append_right (Nat.le_refl _)] at e2;rw[List.getElem?_append_right (by omega)] at e1;simp[h2] at e1 e2;obtain⟨rfl,rfl⟩:=e2;subst e1;exact he.keep h6.size hk
theorem zhi (hT:NfaTy ty tys) {ops:Array Oper} {rest:List Oper} {o:Oper} {a:Act} {Q:Exit->Act->World->Prop} (hgd:o.guard=none) (s0 x0:Operand)
   (ho:o.op = .call {callee := .builtin .append,args:=#[s0,x0],argTypes:=#[tys,tys]}) (hs:a.eval s0=v) (h:NfaRow ty w B v L E) (hB:B<=w.heap.size) (hl:L.length<=1000) (he:Elem w E c s x)
   (ad:Addr) (cp:Nat) (hx:a.eval x0 = .slice (some ad) 1 cp) (hc:∀ (j:Nat) u,c[j]?=some u->w.cell? (ad.add j)=some u)
   (hk:∀ v' w',NfaRow ty w' B v' (L++[(s,x)]) E->w.grownBy w' v.ownBlock->(v'.ownBlock=v.ownBlock∨v'.ownBlock=some w.heap.size)->wpList Try.prog ops Q rest (a.put o.dst v') w'):wpList Try.prog ops Q (o::rest) a w:=by
 obtain⟨v',w',hr,h2,h3,h4⟩:=zv2 hT h hB hl he o.type ad cp hc;refine wpList_plain hgd fun _ hK=>?_
 unfold Oper.wp execOp;simp only[ho,resolve,invoke,builtin,Sem.run_bind,Sem.run_pure,Result.andThen_ok,List.map_toArray,List.map_cons,List.map_nil,hs,hx,hr];exact hK _ _ (hk v' w' h2 h3 h4)
end
theorem NfaRow.off2 {w w':World} {E:Nat->Prop} {ty e2:TypeId} {B B2 size n:Nat} {v v2:Value} {L:List (Lay×Str)} {xs:List Value} (h:NfaRow ty w B v L E) (h2:w.ownsRow B2 e2 size v2 n xs) (hne:ty≠e2) (hE:∀ b,E b->v2.ownBlock≠some b) (hg:w.grownBy w' v2.ownBlock):NfaRow ty w' B v L E:=
 h.keep hg.size (fun b e=>hg.block b (h.lt e).2 fun e'=>by
   obtain⟨c1,k1⟩:=h.kind e;obtain⟨c2,k2⟩:=zac h2 e'.symm;exact za6 k1 k2 hne rfl) fun b e=>hg.block b (h.1 b e).1 fun e'=>hE b e e'.symm
theorem NfaRow.off3 {w w':World} {E:Nat->Prop} {ty e2:TypeId} {B B2 size n:Nat} {v v2:Value} {L:List (Lay×Str)} {xs:List Value} (h:w.ownsRow B2 e2 size v2 n xs) (h2:NfaRow ty w B v L E) (hne:ty≠e2) (hg:w.grownBy w' v.ownBlock):w'.ownsRow B2 e2 size v2 n xs:=
 zaa h fun b e hb=>hg.block b hb fun e'=>by
   obtain⟨c1,k1⟩:=h2.kind e'.symm;obtain⟨c2,k2⟩:=zac h e;exact za6 k1 k2 hne rfl
theorem zjs {w:World} {ops:Array Oper} {rest:List Oper} {o:Oper} {a:Act} {Q:Exit->Act->World->Prop} (hgd:o.guard=none) (s0 x0:Operand)
   (ho:o.op = .call {callee := .builtin .append,args:=#[s0,x0],argTypes:=#[23,23]}) {B n:Nat} {v:Value} {xs:List Value} (hs:a.eval s0=v) (h:w.ownsRow B 4 1 v n xs) (hB:B<=w.heap.size) (hl:n<=1000) (b:Bool)
   (ad:Addr) (cp:Nat) (hx:a.eval x0 = .slice (some ad) 1 cp) (hc:∀ (j:Nat) u,[Value.bool b][j]?=some u->w.cell? (ad.add j)=some u)
   (hk:∀ v' w',w'.ownsRow B 4 1 v' (n+1) (xs++[.bool b])->w.grownBy w' v.ownBlock->(v'.ownBlock=v.ownBlock∨v'.ownBlock=some w.heap.size)->wpList Try.prog ops Q rest (a.put o.dst v') w'):wpList Try.prog ops Q (o::rest) a w:=by
 obtain⟨i0,hi,hz0,hz1,hz2⟩:=info_parts Try.infoBool;obtain⟨v',w',hr,h5,h6,_,h7⟩:=run_append_own_at (P:=Try.prog) w B 23 o.type 4 i0 _ 1 1 Try.underlying23 hi hz0 hz1 hz2 rfl (by decide) v n xs h ad 1 cp [.bool b] rfl hc (fun u hu=>by simp at hu;subst hu;rfl) (by unfold maxLen;omega) (by omega) hB;refine wpList_plain hgd fun _ hK=>?_
 unfold Oper.wp execOp;simp only[ho,resolve,invoke,builtin,Sem.run_bind,Sem.run_pure,Result.andThen_ok,List.map_toArray,List.map_cons,List.map_nil,hs,hx,hr];exact hK _ _ (hk v' w' h5 h6 h7)
theorem zyu:NfaTy 83 30:=⟨Try.underlying30,by kernel_rfl⟩
theorem zyv:NfaTy 80 31:=⟨Try.underlying31,by kernel_rfl⟩
end
section
theorem zk3:∀ (S:List (Nat->Bool)) (p:Nat) (q:Nat->Bool),p<S.length->
   ((((setsC S).set (p*4) (.int .u64 (word q 0))).set (p*4+1) (.int .u64 (word q 1))).set (p*4+2) (.int .u64 (word q 2))).set (p*4+3) (.int .u64 (word q 3))=setsC (S.set p q)
 | [],p,q,h=>by simp at h
 | x::S,0,q,h=>by simp[setsC]
 | x::S,p+1,q,h=>by
   have ih:=zk3 S p q (by simpa using h);have e:∀ k,(p+1)*4+k=p*4+k+1+1+1+1:=fun k=>by omega
   have e0:(p+1)*4=p*4+1+1+1+1:=(by omega);have hc:setsC (x::S) = .int .u64 (word x 0) :: .int .u64 (word x 1) :: .int .u64 (word x 2) :: .int .u64 (word x 3)::setsC S:=(by simp[setsC]);have hc2:setsC ((x::S).set (p+1) q) = .int .u64 (word x 0) :: .int .u64 (word x 1) :: .int .u64 (word x 2) :: .int .u64 (word x 3)::setsC (S.set p q):=(by simp[setsC]);rw[hc,hc2,e0,show p*4+1+1+1+1+1=p*4+1+1+1+1+1 from rfl,←ih];simp only[List.set_cons_succ]
structure NfaD (w:World) (C ga gs gf k:Nat) (vl:Value) (e:Bool) (s:Lay) (Q:Nat->Prop):Prop where
 ge:∀ b,Q b->C<=b∧b<w.heap.size
 aQ:Q ga
 box:w.heap[ga]?=some (.cells #[.slice (some ⟨gs,0,none⟩) k k,.slice none 0 0,vl,.slice (some ⟨gf,0,none⟩) k k,.bool e] 80 (0,0))
 rows:RowsAt w C (.slice (some ⟨gs,0,none⟩) k k) (.slice (some ⟨gf,0,none⟩) k k) s Q
 ns:s.sets.length=k
 nf:s.follow.length=k
section
variable {w w' w2:World} {C ga gs gf k:Nat} {vl:Value} {e:Bool} {s:Lay} {Q Q':Nat->Prop}
theorem NfaD.block (h:NfaD w C ga gs gf k vl e s Q) (hs:w.heap.size<=w'.heap.size) (hb:∀ b,Q b->w'.heap[b]?=w.heap[b]?):NfaD w' C ga gs gf k vl e s Q:=
 ⟨fun b q=>by have:=h.ge b q;omega,h.aQ,(hb ga h.aQ).trans h.box,h.rows.block fun b q _=>hb b q,h.ns,h.nf⟩
theorem NfaD.stays (h:NfaD w C ga gs gf k vl e s Q) (hb:Below w.heap.size w w'):NfaD w' C ga gs gf k vl e s Q:=h.block hb.size fun b q=>hb.block b (h.ge b q).2
theorem NfaD.alloc (h:NfaD w C ga gs gf k vl e s Q) (o:Obj):NfaD (w.alloc o) C ga gs gf k vl e s Q:=h.stays ((Below.refl _ _).alloc (Nat.le_refl _) _)
theorem NfaD.sQ (h:NfaD w C ga gs gf k vl e s Q):Q gs:=h.rows.setsQ gs rfl
theorem NfaD.fQ (h:NfaD w C ga gs gf k vl e s Q):Q gf:=h.rows.folsQ gf rfl
theorem NfaD.cell (h:NfaD w C ga gs gf k vl e s Q):w.cell? ⟨ga,0,none⟩=some (.slice (some ⟨gs,0,none⟩) k k)∧w.cell? ⟨ga,3,none⟩=some (.slice (some ⟨gf,0,none⟩) k k):=
 ⟨cell_of_row w ga 0 _ _ (0,0) h.box,cell_of_row w ga 3 _ _ (0,0) h.box⟩
theorem NfaD.kinds (h:NfaD w C ga gs gf k vl e s Q):(∃ cur,w.heap[gs]?=some (.cells cur 68 (0,0)))∧(∃ cur,w.heap[gf]?=some (.cells cur 44 (0,0))):=by
 obtain⟨fs,h1,h2⟩:=h.rows.fols;exact⟨zac h.rows.sets rfl,zac h1 rfl⟩
theorem NfaD.setS (h:NfaD w C ga gs gf k vl e s Q) (p:Nat) (hp:p<k) (q:Nat->Bool):
   NfaD ((((w.setCell ⟨gs,p*4,none⟩ (.int .u64 (word q 0))).setCell ⟨gs,p*4+1,none⟩ (.int .u64 (word q 1))).setCell ⟨gs,p*4+2,none⟩ (.int .u64 (word q 2))).setCell ⟨gs,p*4+3,none⟩ (.int .u64 (word q 3))) C ga gs gf k vl e ⟨s.sets.set p q,s.follow⟩ Q:=by
 obtain⟨⟨c1,k1⟩,⟨c2,k2⟩⟩:=h.kinds;have n1:ga≠gs:=za6 h.box k1 (by decide);have n2:gf≠gs:=za6 k2 k1 (by decide);obtain⟨fs,h1,h2⟩:=h.rows.fols;have hb:∀ b,b≠gs->((((w.setCell ⟨gs,p*4,none⟩ (.int .u64 (word q 0))).setCell ⟨gs,p*4+1,none⟩ (.int .u64 (word q 1))).setCell ⟨gs,p*4+2,none⟩ (.int .u64 (word q 2))).setCell ⟨gs,p*4+3,none⟩ (.int .u64 (word q 3))).heap[b]?=w.heap[b]?:=fun b hb=>by
   rw[Below.heap_setCell _ _ _ _ hb,Below.heap_setCell _ _ _ _ hb,Below.heap_setCell _ _ _ _ hb,Below.heap_setCell _ _ _ _ hb]
 have hl:∀ (i:Nat) (v:Value) b,fs[i]?=some v->v.ownBlock=some b->b≠gs:=fun i v b e1 e2=>by
   have hi:i<s.follow.length:=(by rw[←h2.len];exact (List.getElem?_eq_some_iff.1 e1).1);obtain⟨cur,hc⟩:=(h2.get i v _ e1 (List.getElem?_eq_getElem hi)).kind e2;exact za6 hc k1 (by decide)
 have s0:=h.rows.sets;rw[h.ns] at s0;have s1:=(World.ownsRow.stored s0 (p*4) (.int .u64 (word q 0))).1;have s2:=(World.ownsRow.stored s1 (p*4+1) (.int .u64 (word q 1))).1;have s3:=(World.ownsRow.stored s2 (p*4+2) (.int .u64 (word q 2))).1;have s4:=(World.ownsRow.stored s3 (p*4+3) (.int .u64 (word q 3))).1;rw[zk3 _ _ _ (by rw[h.ns];exact hp)] at s4;refine⟨fun b hq=>by have:=h.ge b hq;simpa [World.setCell] using this,h.aQ,(hb ga n1).trans h.box,⟨?_,h.rows.setsQ,⟨fs,zaa h1 fun b e2 _=>?_,⟨h2.len,fun i v l e1 e2=>(h2.get i v l e1 e2).block fun b e3 _=>hb b (hl i v b e1 e3),h2.inQ,h2.apart⟩⟩,h.rows.folsQ⟩,by simpa using h.ns,h.nf⟩
 . rw[List.length_set,h.ns];exact s4
 . have e3:gf=b:=(by simpa [Value.ownBlock] using e2);rw[←e3];exact hb _ n2
theorem NfaD.open (h:NfaD w C ga gs gf k vl e s Q) (p:Nat) (hp:p<k):∃ vp,w.cell? ⟨gf,p,none⟩=some vp∧w.frozen? ⟨gf,p,none⟩=false∧Ints w C vp (Go.Proofs.Ytgbdanddbgomhaa.ns (s.follow.getD p []))∧(∀ b,vp.ownBlock=some b->Q b∧b≠gf∧b≠ga∧b≠gs)∧
   ∀ (ys:List Nat) (w2:World) (v':Value),Ints w2 C v' (Go.Proofs.Ytgbdanddbgomhaa.ns (s.follow.getD p []++ys))->w.grownBy w2 vp.ownBlock->(v'.ownBlock=vp.ownBlock∨v'.ownBlock=some w.heap.size)->
     NfaD (w2.setCell ⟨gf,p,none⟩ v') C ga gs gf k vl e ⟨s.sets,linkAt s.follow p ys⟩ (fun b=>Q b∨v'.ownBlock=some b):=by
 obtain⟨⟨c1,k1⟩,⟨c2,k2⟩⟩:=h.kinds;have n1:ga≠gf:=za6 h.box k2 (by decide);have n2:gs≠gf:=za6 k1 k2 (by decide);have hp':p<s.follow.length:=(by rw[h.nf];exact hp);obtain⟨fs,h3,h4⟩:=h.rows.fols;rw[h.nf] at h3;have hpf:p<fs.length:=(by rw[h4.len];exact hp');obtain⟨vp,hvp⟩:∃ vp,fs[p]?=some vp:=⟨_,List.getElem?_eq_getElem hpf⟩;have hl:=h4.get p vp _ hvp (zji s.follow p [] hp');have hv1:∀ b,vp.ownBlock=some b->b≠gf∧b≠ga∧b≠gs:=fun b e=>by
   obtain⟨cur',hc⟩:=hl.kind e;exact⟨za6 hc k2 (by decide),za6 hc h.box (by decide),za6 hc k1 (by decide)⟩
 have hgfl:=za4 k2;refine⟨vp,?_,World.ownsRow.frozenAt h3 p,hl,fun b e=>⟨h4.inQ p vp b hvp e,hv1 b e⟩,fun ys w2 v' hv hg hor=>?_⟩
 . rw[World.ownsRow.cellAt h3 p (by omega),hvp]
 . have hput:=h4.put (fun b e=>(h.ge b e).2) p hp' vp v' hvp hg hv hor;have hgf2:w2.heap[gf]?=some (.cells c2 44 (0,0)):=(hg.block gf hgfl fun e=>(hv1 gf e.symm).1 rfl).trans k2;have hset:∀ b,b≠gf->(w2.setCell ⟨gf,p,none⟩ v').heap[b]?=w2.heap[b]?:=fun b hb=>Below.heap_setCell _ _ _ _ hb
   have h32:w2.ownsRow C 44 1 (.slice (some ⟨gf,0,none⟩) k k) k fs:=zaa h3 fun b e hb=>by
     injection e with e
     subst e;exact hg.block _ hb fun e'=>(hv1 _ e'.symm).1 rfl
   refine⟨fun b e=>?_,.inl h.aQ,(hset ga n1).trans ((hg.block ga (za4 h.box) fun e=>(hv1 ga e.symm).2.1 rfl).trans h.box),⟨zaa h.rows.sets fun b e hb=>?_,fun b e => .inl (h.rows.setsQ b e),⟨fs.set p v',?_,?_⟩,fun b e => .inl (h.rows.folsQ b e)⟩,h.ns,by show (linkAt s.follow p ys).length=k;rw[zcr];exact h.nf⟩
   . rcases e with e|e
     . have:=h.ge b e;have hsz:=hg.size;exact⟨this.1,by simp only[World.setCell,Array.size_modify];omega⟩
     . have:=hv.in e;exact⟨this.1,by simp only[World.setCell,Array.size_modify];exact this.2⟩
   . injection e with e
     subst e;exact (hset _ n2).trans (hg.block _ hb fun e'=>(hv1 _ e'.symm).2.2 rfl)
   . have:=(World.ownsRow.stored h32 p v').1;rw[show (linkAt s.follow p ys).length=k from (zcr _ _ _).trans h.nf];exact this
   . refine⟨hput.len,fun i v l e1 e2=>(hput.get i v l e1 e2).block fun b e hb=>hset b ?_,hput.inQ,hput.apart⟩;obtain⟨cur',hc⟩:=(hput.get i v l e1 e2).kind e;exact za6 hc hgf2 (by decide)
end
end
section
section
variable {w:World} {B C ga gs gf k:Nat} {vl v':Value} {e:Bool} {s:Lay} {Q:Nat->Prop} {fs:List Value} {ls:List (List Nat)} {l':List Nat}
theorem FolAt.set (h:FolAt w B fs ls Q) (p:Nat) (hp:p<ls.length) (hv:Ints w B v' (ns l')) (hn:∀ b,v'.ownBlock=some b->¬ Q b):FolAt w B (fs.set p v') (ls.set p l') (fun b=>Q b∨v'.ownBlock=some b):=by
 have hpf:p<fs.length:=(by rw[h.len];exact hp);have hset:∀ i,(fs.set p v')[i]?=if i=p then some v' else fs[i]?:=fun i=>by
   rw[List.getElem?_set]
   by_cases e:p=i
   . subst e;simp[hpf]
   . have e':¬ i=p:=fun x=>e x.symm
     simp[e,e']
 have hls:∀ i,(ls.set p l')[i]?=if i=p then some l' else ls[i]?:=fun i=>by
   rw[List.getElem?_set]
   by_cases e:p=i
   . subst e;simp[hp]
   . have e':¬ i=p:=fun x=>e x.symm
     simp[e,e']
 refine⟨by simp[h.len],fun i v l h1 h2=>?_,fun i v b h1 h2=>?_,fun i j v v'' b h1 h2 h3 h4=>?_⟩
 . rw[hset] at h1;rw[hls] at h2
   by_cases e:i=p
   . rw[if_pos e] at h1 h2;injection h1 with h1
     injection h2 with h2
     subst h1 h2;exact hv
   . rw[if_neg e] at h1 h2;exact h.get i v l h1 h2
 . rw[hset] at h1
   by_cases e:i=p
   . rw[if_pos e] at h1;injection h1 with h1
     subst h1;exact .inr h2
   . rw[if_neg e] at h1;exact .inl (h.inQ i v b h1 h2)
 . rw[hset] at h1 h2
   by_cases e:i=p
   . by_cases e2:j=p
     . rw[e,e2]
     . rw[if_pos e] at h1;rw[if_neg e2] at h2;injection h1 with h1
       subst h1;exact absurd (h.inQ j v'' b h2 h4) (hn b h3)
   . rw[if_neg e] at h1
     by_cases e2:j=p
     . rw[if_pos e2] at h2;injection h2 with h2
       subst h2;exact absurd (h.inQ i v b h1 h3) (hn b h4)
     . rw[if_neg e2] at h2;exact h.apart i j v v'' b h1 h2 h3 h4
theorem NfaD.setF (h:NfaD w C ga gs gf k vl e s Q) (p:Nat) (hp:p<k) (hv:Ints w C v' (Go.Proofs.Ytgbdanddbgomhaa.ns l')) (hn:∀ b,v'.ownBlock=some b->¬ Q b):
   NfaD (w.setCell ⟨gf,p,none⟩ v') C ga gs gf k vl e ⟨s.sets,s.follow.set p l'⟩ (fun b=>Q b∨v'.ownBlock=some b):=by
 obtain⟨⟨c1,k1⟩,⟨c2,k2⟩⟩:=h.kinds;have n1:ga≠gf:=za6 h.box k2 (by decide);have n2:gs≠gf:=za6 k1 k2 (by decide);obtain⟨fs,h3,h4⟩:=h.rows.fols;have hput:=h4.set p (by rw[h.nf];exact hp) hv hn;have hset:∀ b,b≠gf->(w.setCell ⟨gf,p,none⟩ v').heap[b]?=w.heap[b]?:=fun b hb=>Below.heap_setCell _ _ _ _ hb
 rw[h.nf] at h3;refine⟨fun b e=>?_,.inl h.aQ,(hset ga n1).trans h.box,⟨zaa h.rows.sets fun b e hb=>?_,fun b e => .inl (h.rows.setsQ b e),⟨fs.set p v',?_,?_⟩,fun b e => .inl (h.rows.folsQ b e)⟩,h.ns,by simpa using h.nf⟩
 . rcases e with e|e
   . have:=h.ge b e;exact⟨this.1,by simp only[World.setCell,Array.size_modify];omega⟩
   . have:=hv.in e;exact⟨this.1,by simp only[World.setCell,Array.size_modify];exact this.2⟩
 . have e3:gs=b:=(by simpa [Value.ownBlock] using e);rw[←e3];exact hset _ n2
 . have:=(World.ownsRow.stored h3 p v').1;rw[show (⟨s.sets,s.follow.set p l'⟩:Lay).follow.length=k from (List.length_set ..).trans h.nf];exact this
 . refine⟨hput.len,fun i v l e1 e2=>(hput.get i v l e1 e2).block fun b e hb=>hset b ?_,hput.inQ,hput.apart⟩;obtain⟨cur',hc⟩:=(hput.get i v l e1 e2).kind e;exact za6 hc k2 (by decide)
end
end
end Go.Proofs.Ytgbdanddbgomhaa
