import Derived.Test.YtgbdanddbgomhaaMk19
set_option linter.unusedVariables false
set_option linter.unusedSimpArgs false
namespace Go.Proofs.Ytgbdanddbgomhaa
open Go Go.RowKit
section
theorem Try.infoStsD:(Try.prog.info? 87).map (fun i=>(i.zero,i.size,i.bytes))=some (some (.slice none 0 0),1,24):=by kernel_rfl
def Sts (w:World) (B:Nat) (vS:Value) (ts:List (List Wd)):Prop:=
 ∃ us,us.length=ts.length∧w.ownsRow B 87 1 vS ts.length us∧∀ (i:Nat) u t,us[i]?=some u->ts[i]?=some t->Ws w B u t
section
variable {w w' W:World} {B gm:Nat} {O Q:Nat->Prop} {F:Nat->Nat} {n:Int} {vS vN vO vr v v' u:Value} {ts:List (List Wd)} {rows:List (List Nat)} {outs:List (Nat×Nat)} {row:List Nat} {t:List Wd}
theorem Sts.form (h:Sts w B vS ts):∃ A c,vS = .slice A ts.length c:=by obtain⟨us,h1,h2,h3⟩:=h;exact zaf h2
theorem Sts.at (h:Sts w B vS ts) {i:Nat} (hi:ts[i]?=some t):∃ g c A m,vS = .slice (some ⟨g,0,none⟩) ts.length c∧w.cell? ⟨g,i,none⟩=some (.slice A t.length m)∧Ws w B (.slice A t.length m) t:=by
 obtain⟨us,h1,h2,h3⟩:=h;have hl:i<us.length:=(by rw[h1];exact (List.getElem?_eq_some_iff.1 hi).1);obtain⟨u,hu⟩:∃ u,us[i]?=some u:=⟨_,List.getElem?_eq_getElem hl⟩;have hw:=h3 i u t hu hi;obtain⟨A,m,rfl⟩:=hw.form;rcases h2.2 with ⟨_,h0⟩|⟨g,cap,cur,rfl,hB,hg,_⟩
 . omega
 . exact⟨g,cap,A,m,rfl,(World.ownsRow.cellAt h2 i (by omega)).trans hu,hw⟩
def Oth (w:World) (Q:Nat->Prop) (l:List TypeId):Prop:=∀ b,Q b->b<w.heap.size->∃ cur ty,w.heap[b]?=some (.cells cur ty (0,0))∧ty∉l
theorem zbb {B e size k:Nat} {xs:List Value} {l:List TypeId} (h:w.ownsRow B e size v k xs) (hk:Kept Q w w') (hq:Oth w Q l) (he:e∈l):w'.ownsRow B e size v k xs:=zaa h fun b eb hb=>hk.block b hb fun q=>by
 obtain⟨cu,hc⟩:=zac h eb;obtain⟨cur,ty,h1,h2⟩:=hq b q hb;exact za6 hc h1 (fun e'=>h2 (e' ▸ he)) rfl
theorem Nxt.oth (h:Nxt w B O vN rows) (hk:Kept Q w w') (hq:Oth w Q [44,3]):Nxt w' B O vN rows:=by
 obtain⟨vs,h1,h2,h3,h4⟩:=h.mem;exact⟨⟨vs,h1,zbb h2 hk hq (by simp),fun i u r e1 e2=>zbb (h3 i u r e1 e2) hk hq (by simp),h4⟩,h.inO⟩
theorem Sts.oth (h:Sts w B vS ts) (hk:Kept Q w w') (hq:Oth w Q [87,127]):Sts w' B vS ts:=by
 obtain⟨us,h1,h2,h3⟩:=h;exact⟨us,h1,zbb h2 hk hq (by simp),fun i u t e1 e2=>zbb (h3 i u t e1 e2) hk hq (by simp)⟩
theorem BoxM.oth {ty:TypeId} {l:List TypeId} (h:BoxM w gm ty F n vN vO) (hk:Kept Q w w') (hq:Oth w Q l) (he:ty∈l):BoxM w' gm ty F n vN vO:=h.kept hk fun q=>by
 obtain⟨cur,ty',h1,h2⟩:=hq gm q h.lt;exact za6 h h1 (fun e'=>h2 (e' ▸ he)) rfl
theorem zd0 {B e size k:Nat} {xs:List Value} {l:List TypeId} (h:w.ownsRow B e size v k xs) (he:e∉l):Oth w (fun b=>v.ownBlock=some b) l:=fun b eb _=>by
 obtain⟨cu,hc⟩:=zac h eb;exact⟨cu,e,hc,he⟩
theorem zwy {Q':Nat->Prop} {l:List TypeId} (h:Oth w Q l) (h':Oth w Q' l):Oth w (fun b=>Q b∨Q' b) l:=fun b e hb=>e.elim (fun e=>h b e hb) fun e=>h' b e hb
theorem zf7 {ty:TypeId} {l:List TypeId} (h:BoxM w gm ty F n vN vO) (he:ty∉l):Oth w (fun b=>b=gm) l:=fun b e _=>by
 subst e;exact⟨_,ty,h,he⟩
theorem zau {l:List TypeId}:Oth w (fun _=>False) l:=fun b e=>e.elim
structure DS (B:Nat) (w:World) (gm:Nat) (O:Nat->Prop) (F:Nat->Nat) (n:Int) (vS vN vO vr:Value) (ts:List (List Wd)) (rows:List (List Nat)) (outs:List (Nat×Nat)) (row:List Nat):Prop where
 gB:B<=gm
 box:BoxM w gm 38 F n vN vO
 nxt:Nxt w B O vN rows
 ots:w.ownsRow B 51 2 vO outs.length (outC outs)
 olt:∀ b,O b->b<w.heap.size
 sts:Sts w B vS ts
 row:Ints w B vr (ns row)
 rO:∀ b,vr.ownBlock=some b->¬ O b
theorem DS.hB (h:DS B w gm O F n vS vN vO vr ts rows outs row):B<=w.heap.size:=by
 have:=h.box.lt;have:=h.gB;omega
theorem DS.stays (h:DS B w gm O F n vS vN vO vr ts rows outs row) (hb:Below w.heap.size w w'):DS B w' gm O F n vS vN vO vr ts rows outs row:=by
 have hk:=Kept.of_below (fun _=>False) hb;exact⟨h.gB,h.box.oth hk (zau (l:=[38])) (by simp),h.nxt.oth hk zau,zbb h.ots hk (zau (l:=[51])) (by simp),fun b e=>Nat.lt_of_lt_of_le (h.olt b e) hk.size,h.sts.oth hk zau,zbb h.row hk (zau (l:=[3])) (by simp),h.rO⟩
theorem DS.pushS (h:DS B w gm O F n vS vN vO vr ts rows outs row) {us:List Value} (h1:us.length=ts.length) (h2:w.ownsRow B 87 1 vS ts.length us) (h3:∀ (i:Nat) u t,us[i]?=some u->ts[i]?=some t->Ws w B u t) (hu:Ws w B u t)
   (hk:Kept (fun b=>vS.ownBlock=some b) w w') (hr:w'.ownsRow B 87 1 v' (ts.length+1) (us++[u])):DS B w' gm O F n v' vN vO vr (ts++[t]) rows outs row:=by
 have hq:∀ l,87∉l->Oth w (fun b=>vS.ownBlock=some b) l:=fun l e=>zd0 h2 e
 refine⟨h.gB,h.box.oth hk (hq [38] (by decide)) (by simp),h.nxt.oth hk (hq _ (by decide)),zbb h.ots hk (hq [51] (by decide)) (by simp),fun b e=>Nat.lt_of_lt_of_le (h.olt b e) hk.size,⟨us++[u],by simp[h1],by rw[List.length_append];exact hr,fun i x y e1 e2=>?_⟩,zbb h.row hk (hq [3] (by decide)) (by simp),h.rO⟩;have hw:∀ x y,Ws w B x y->Ws w' B x y:=fun x y hx=>zbb hx hk (hq [127] (by decide)) (by simp)
 by_cases hi:i<us.length
 . rw[List.getElem?_append_left hi] at e1;rw[List.getElem?_append_left (by omega)] at e2;exact hw _ _ (h3 i x y e1 e2)
 . have hi':i=us.length:=by
     have:=(List.getElem?_eq_some_iff.1 e1).1;simp at this;omega
   subst hi';rw[List.getElem?_append_right (Nat.le_refl _),Nat.sub_self] at e1;rw[h1,List.getElem?_append_right (Nat.le_refl _),Nat.sub_self] at e2;simp at e1 e2;subst e1 e2;exact hw _ _ hu
theorem DS.pushO (h:DS B w gm O F n vS vN vO vr ts rows outs row) {o:Nat×Nat} (hk:Kept (fun b=>vO.ownBlock=some b∨b=gm) w w') (hb:BoxM w' gm 38 F n vN v') (hr:w'.ownsRow B 51 2 v' (outs.length+1) (outC outs++[.int .u64 (o.1:Int),.int .u64 (o.2:Int)])):
   DS B w' gm O F n vS vN v' vr ts rows (outs++[o]) row:=by
 have hq:∀ l,51∉l->38∉l->Oth w (fun b=>vO.ownBlock=some b∨b=gm) l:=fun l e e'=>zwy (zd0 h.ots e) (zf7 h.box e')
 exact⟨h.gB,hb,h.nxt.oth hk (hq _ (by decide) (by decide)),by rw[List.length_append,zgf];exact hr,fun b e=>Nat.lt_of_lt_of_le (h.olt b e) hk.size,h.sts.oth hk (hq _ (by decide) (by decide)),zbb h.row hk (hq [3] (by decide) (by decide)) (by simp),h.rO⟩
theorem DS.pushR (h:DS B w gm O F n vS vN vO vr ts rows outs row) {k:Nat} (hk:Kept (fun b=>vr.ownBlock=some b) w w') (hr:Ints w' B v' (ns (row++[k]))) (hv:v'.ownBlock=vr.ownBlock∨∃ c,v'.ownBlock=some c∧w.heap.size<=c):DS B w' gm O F n vS vN vO v' ts rows outs (row++[k]):=by
 have hq:∀ l,3∉l->Oth w (fun b=>vr.ownBlock=some b) l:=fun l e=>zd0 h.row e
 refine⟨h.gB,h.box.oth hk (hq [38] (by decide)) (by simp),h.nxt.kept hk fun b e e'=>h.rO b e' e,zbb h.ots hk (hq [51] (by decide)) (by simp),fun b e=>Nat.lt_of_lt_of_le (h.olt b e) hk.size,h.sts.oth hk (hq _ (by decide)),hr,fun b e k=>?_⟩;rcases hv with e' | ⟨c,e',hc⟩
 . exact h.rO b (e'.symm.trans e) k
 . have:c=b:=by rw[e'] at e;injection e
   have:=h.olt b k;omega
theorem DS.pushN' (h:DS B w gm O F n vS vN vO vr ts rows outs row) {vs:List Value} (n1:vs.length=rows.length) (n2:w.ownsRow B 44 1 vN rows.length vs) (n3:∀ (i:Nat) u r,vs[i]?=some u->rows[i]?=some r->Ints w B u (ns r)) (n4:∀ u∈vs,∀ b,u.ownBlock=some b->O b)
   (hk:Kept (fun b=>vN.ownBlock=some b∨b=gm) w w') (hb:BoxM w' gm 38 F n v' vO) (hr:w'.ownsRow B 44 1 v' (rows.length+1) (vs++[vr])):
   DS B w' gm (fun b=>O b∨vr.ownBlock=some b∨v'.ownBlock=some b) F n vS v' vO (.slice none 0 0) ts (rows++[row]) outs []:=by
 have hq:∀ l,44∉l->38∉l->Oth w (fun b=>vN.ownBlock=some b∨b=gm) l:=fun l e e'=>zwy (zd0 n2 e) (zf7 h.box e')
 have hi:∀ x y,Ints w B x y->Ints w' B x y:=fun x y hx=>zbb hx hk (hq [3] (by decide) (by decide)) (by simp)
 have hrow:=hi _ _ h.row;refine⟨h.gB,hb,⟨⟨vs++[vr],by simp[n1],by rw[List.length_append];exact hr,fun i x y e1 e2=>?_,fun x hx b e=>?_⟩,fun b e => .inr (.inr e)⟩,zbb h.ots hk (hq [51] (by decide) (by decide)) (by simp),fun b e=>?_,h.sts.oth hk (hq _ (by decide) (by decide)),World.ownsRow_nil _ _ _ 1,fun b e=>by cases e⟩
 . by_cases hi':i<vs.length
   . rw[List.getElem?_append_left hi'] at e1;rw[List.getElem?_append_left (by omega)] at e2;exact hi _ _ (n3 i x y e1 e2)
   . have hi2:i=vs.length:=by
       have:=(List.getElem?_eq_some_iff.1 e1).1;simp at this;omega
     subst hi2;rw[List.getElem?_append_right (Nat.le_refl _),Nat.sub_self] at e1;rw[n1,List.getElem?_append_right (Nat.le_refl _),Nat.sub_self] at e2;simp at e1 e2;subst e1 e2;exact hrow
 . rw[List.mem_append,List.mem_singleton] at hx;rcases hx with hx|rfl
   . exact .inl (n4 x hx b e)
   . exact .inr (.inl e)
 . rcases e with e|e|e
   . exact Nat.lt_of_lt_of_le (h.olt b e) hk.size
   . exact (World.ownsRow.lt hrow b e).2
   . exact (World.ownsRow.lt hr b e).2
theorem DS.pushN (h:DS B w gm O F n vS vN vO vr ts rows outs row) {vs:List Value} (n1:vs.length=rows.length) (n2:w.ownsRow B 44 1 vN rows.length vs) (n3:∀ (i:Nat) u r,vs[i]?=some u->rows[i]?=some r->Ints w B u (ns r)) (n4:∀ u∈vs,∀ b,u.ownBlock=some b->O b)
   (hk:Kept (fun b=>vN.ownBlock=some b∨b=gm) w w') (hb:BoxM w' gm 38 F n v' vO) (hr:w'.ownsRow B 44 1 v' (rows.length+1) (vs++[vr])):
   ∃ O',DS B w' gm O' F n vS v' vO (.slice none 0 0) ts (rows++[row]) outs []:=⟨_,h.pushN' n1 n2 n3 n4 hk hb hr⟩
theorem zf1 {e tl:TypeId} {size bytes:Nat} {z:Value} (hinfo:(Try.prog.info? e).map (fun i=>(i.zero,i.size,i.bytes))=some (some z,size,bytes)) (hund:Try.prog.underlying tl=some (.slice e)) (hzs:z.cells.size=size) (hsz:0<size) (hby:bytes<=1000)
   {ops:Array Oper} {rest:List Oper} {o:Oper} {a:Act} {Q:Exit->Act->World->Prop} (hgd:o.guard=none) (s x:Operand) (ho:o.op = .call {callee := .builtin .append,args:=#[s,x],argTypes:=#[tl,tl]})
   {k g c:Nat} {vs:List Value} {cs:Array Value} (hs:a.eval s=v) (hr:w.ownsRow B e size v k vs) (hx:a.eval x = .slice (some ⟨g,0,none⟩) 1 c) (hc:HasO w g (.cells cs e (0,0))) (hcs:cs.size=size) (h1:cs.all (·.oneCell')=true) (hn:k<=100000) (hB:B<=w.heap.size)
   (hk:∀ v' w',w'.ownsRow B e size v' (k+1) (vs++cs.toList)->w.grownBy w' v.ownBlock->(v'.ownBlock=v.ownBlock∨v'.ownBlock=some w.heap.size)->wpList Try.prog ops Q rest (a.put o.dst v') w'):wpList Try.prog ops Q (o::rest) a w:=by
 obtain⟨i0,hi,hz0,hz1,hz2⟩:=info_parts hinfo;have hm:(k+1)*bytes<=100001*1000:=Nat.mul_le_mul (by omega) hby;obtain⟨v',w',hrun,h4,h5,_,h6⟩:=run_append_own_at (P:=Try.prog) w B tl o.type e i0 z size bytes hund hi hz0 hz1 hz2 hzs hsz v k vs hr ⟨g,0,none⟩ 1 c cs.toList (by simp[hcs]) (zj7 hc) (by
   intro y hy;exact (Array.all_eq_true_iff_forall_mem.1 h1) y (by simpa using hy)) (by unfold maxLen;omega) (by omega) hB
 refine wpList_plain hgd fun _ hK=>?_
 unfold Oper.wp execOp;simp only[ho,resolve,invoke,builtin,Sem.run_bind,Sem.run_pure,Result.andThen_ok,List.map_toArray,List.map_cons,List.map_nil,hs,hx,hrun];exact hK _ _ (hk v' w' h4 h5 h6)
end
end
end Go.Proofs.Ytgbdanddbgomhaa
