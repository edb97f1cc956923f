import Derived.Test.YtipfgpfplakhiaaTc16
import Derived.Test.YtipfgpfplakhiaaTc18
set_option linter.unusedVariables false
set_option linter.unusedSimpArgs false
set_option maxRecDepth 20000
set_option maxHeartbeats 4000000
namespace Go.Proofs.Ytipfgpfplakhiaa
open Go Go.RowKit
theorem Try.infoWd:(Try.prog.info? 121).map (fun i=>(i.zero,i.size,i.bytes))=some (some (.agg #[.int .i64 0,.int .i64 0,.int .i64 0]),3,24):=by kernel_rfl
def Ws (w:World) (B:Nat) (v:Value) (l:List Wd):Prop:=w.ownsRow B 121 3 v l.length (wdL l)
theorem Ws.nil (w:World) (B:Nat):Ws w B (.slice none 0 0) []:=yhd w B _ 3
theorem Ws.stays {w w':World} {B:Nat} {v:Value} {l:List Wd} (h:Ws w B v l) (hb:Below w.heap.size w w'):Ws w' B v l:=za7 h fun b e hl=>hb.block b hl
theorem Ws.form {w:World} {B:Nat} {v:Value} {l:List Wd} (h:Ws w B v l):∃ A c,v = .slice A l.length c:=by
 rcases h.2 with ⟨rfl,h0⟩|⟨g,cap,cur,rfl,_⟩
 .exact⟨none,0,by rw[h0]⟩
 .exact⟨_,_,rfl⟩
theorem Ws.rd {w:World} {B n c:Nat} {A:Option Addr} {l:List Wd} (h:Ws w B (.slice A n c) l):RdW w A l:=by
 obtain⟨A',c',e⟩:=h.form;injection e with e1 e2 e3
 subst e1 e2 e3;exact RdW.of_row h rfl
theorem yct {w:World} {B:Nat} {v:Value} {l:List Wd} (h:Ws w B v l) (hB:B<=w.heap.size) (hl:l.length<=100000) (x:Wd) (ty:TypeId) (ad:Addr) (c:Nat)
 (hc:∀ (j:Nat) u,(wdC x)[j]?=some u->w.cell? (ad.add j)=some u):
 ∃ v' w',(Builtin.append_ #[83,83] ty #[v,.slice (some ad) 1 c]).run Try.prog w = .ok v' w'∧Ws w' B v' (l++[x])∧w.grownBy w' v.ownBlock∧(v'.ownBlock=v.ownBlock∨v'.ownBlock=some w.heap.size):=by
 obtain⟨i0,hi,hz0,hz1,hz2⟩:=info_parts Try.infoWd;obtain⟨v',w',hr,h4,h5,_,h6⟩:=run_append_own_at (P:=Try.prog) w B 83 ty 121 i0 _ 3 24 Try.underlying83 hi hz0 hz1 hz2 rfl yk6 v l.length (wdL l) h ad 1 c (wdC x) rfl hc
  (by
    intro u hu;simp[wdC] at hu;rcases hu with rfl|rfl|rfl
    all_goals rfl) yka yjz hB
 refine⟨v',w',hr,?_,h5,h6⟩;have e:wdL l++wdC x=wdL (l++[x]):=(by rw[ycx];simp[wdL]);unfold Ws;rw[←e]
 simpa using h4
theorem znk {w:World} {ops:Array Oper} {rest:List Oper} {o:Oper} {a:Act} {Q:Exit->Act->World->Prop} (hgd:o.guard=none) (s x:Operand)
 (ho:o.op = .call {callee := .builtin .append,args:=#[s,x],argTypes:=#[83,83]})
 {B:Nat} {v:Value} {l:List Wd} (hs:a.eval s=v) (h:Ws w B v l) (hB:B<=w.heap.size) (hl:l.length<=100000) (y:Wd)
 (ad:Addr) (c:Nat) (hx:a.eval x = .slice (some ad) 1 c) (hc:∀ (j:Nat) u,(wdC y)[j]?=some u->w.cell? (ad.add j)=some u)
 (hk:∀ v' w',Ws w' B v' (l++[y])->w.grownBy w' v.ownBlock->(v'.ownBlock=v.ownBlock∨v'.ownBlock=some w.heap.size)->wpList Try.prog ops Q rest (a.put o.dst v') w'):wpList Try.prog ops Q (o::rest) a w:=by
 obtain⟨v',w',hr,h2,h3,h4⟩:=yct h hB hl y o.type ad c hc;refine wpList_plain hgd fun _ hK=>?_
 unfold Oper.wp execOp;simp only[ho,resolve,invoke,builtin,Sem.run_bind,Sem.run_pure,Result.andThen_ok,yi4,yhw,yia,hs,hx,hr];exact hK _ _ (hk v' w' h2 h3 h4)
theorem yci (w:World) (x:Wd):∀ (j:Nat) u,(wdC x)[j]?=some u->(w.alloc (.cells #[.int .i64 (x.rule:Int),.int .i64 (x.place:Int),.int .i64 (x.age:Int)] 121)).cell? ((⟨w.heap.size,0,none⟩:Addr).add j)=some u:=by
 intro j u hu;rw[Addr.add_lit,yhm,cell_of_row _ _ j _ 121 (0,0) (heap_alloc_new w _)]
 simpa [wdC] using hu
theorem Ws.in {w:World} {B:Nat} {v:Value} {l:List Wd} (h:Ws w B v l):∀ b,v.ownBlock=some b->B<=b∧b<w.heap.size:=fun b e=>ygs h b e
section
theorem Try.infoStsD:(Try.prog.info? 83).map (fun i=>(i.zero,i.size,i.bytes))=some (some (.slice none 0 0),1,24):=by kernel_rfl
def Sts (w:World) (B:Nat) (vS:Value) (ts:List (List Wd)):Prop:=
 ∃ us,us.length=ts.length∧w.ownsRow B 83 1 vS ts.length us∧∀ (i:Nat) u t,us[i]?=some u->ts[i]?=some t->Ws w B u t
section
variable {w w' W:World} {B gm:Nat} {O Q:Nat->Prop} {F:Nat->Nat} {n:Int} {vS vN vO vr v v' u:Value} {ts:List (List Wd)} {rows:List (List Nat)} {outs:List (Nat×Nat)} {row:List Nat} {t:List Wd}
theorem Sts.form (h:Sts w B vS ts):∃ A c,vS = .slice A ts.length c:=by obtain⟨us,h1,h2,h3⟩:=h;exact zaf h2
theorem Sts.at (h:Sts w B vS ts) {i:Nat} (hi:ts[i]?=some t):∃ g c A m,vS = .slice (some ⟨g,0,none⟩) ts.length c∧w.cell? ⟨g,i,none⟩=some (.slice A t.length m)∧Ws w B (.slice A t.length m) t:=by
 obtain⟨us,h1,h2,h3⟩:=h;have hl:i<us.length:=(by rw[h1];exact (ygp.1 hi).1);obtain⟨u,hu⟩:∃ u,us[i]?=some u:=⟨_,ygn hl⟩;have hw:=h3 i u t hu hi;obtain⟨A,m,rfl⟩:=hw.form;rcases h2.2 with ⟨_,h0⟩|⟨g,cap,cur,rfl,hB,hg,_⟩
 .omega
 .exact⟨g,cap,A,m,rfl,(ygt h2 i yjz).trans hu,hw⟩
theorem Sts.oth (h:Sts w B vS ts) (hk:Kept Q w w') (hq:Oth w Q [83,121]):Sts w' B vS ts:=by
 obtain⟨us,h1,h2,h3⟩:=h;exact⟨us,h1,zb9 h2 hk hq yk3,fun i u t e1 e2=>zb9 (h3 i u t e1 e2) hk hq yk3⟩
structure DS (B:Nat) (w:World) (gm:Nat) (O:Nat->Prop) (F:Nat->Nat) (n:Int) (vS vN vO vr:Value) (ts:List (List Wd)) (rows:List (List Nat)) (outs:List (Nat×Nat)) (row:List Nat):Prop where
 gB:B<=gm
 box:BoxM w gm 38 F n vN vO
 nxt:Nxt w B O vN rows
 ots:w.ownsRow B 51 2 vO outs.length (outC outs)
 olt:∀ b,O b->b<w.heap.size
 sts:Sts w B vS ts
 row:Ints w B vr (ns row)
 rO:∀ b,vr.ownBlock=some b->¬ O b
theorem DS.hB (h:DS B w gm O F n vS vN vO vr ts rows outs row):B<=w.heap.size:=by
 have:=h.box.lt;have:=h.gB;omega
theorem DS.stays (h:DS B w gm O F n vS vN vO vr ts rows outs row) (hb:Below w.heap.size w w'):DS B w' gm O F n vS vN vO vr ts rows outs row:=by
 have hk:=Kept.of_below (fun _=>False) hb;exact⟨h.gB,h.box.oth hk (zce (l:=[38])) yk3,h.nxt.oth hk zce,zb9 h.ots hk (zce (l:=[51])) yk3,fun b e=>yh3 (h.olt b e) hk.size,h.sts.oth hk zce,zb9 h.row hk (zce (l:=[3])) yk3,h.rO⟩
theorem DS.pushS (h:DS B w gm O F n vS vN vO vr ts rows outs row) {us:List Value} (h1:us.length=ts.length) (h2:w.ownsRow B 83 1 vS ts.length us) (h3:∀ (i:Nat) u t,us[i]?=some u->ts[i]?=some t->Ws w B u t) (hu:Ws w B u t)
 (hk:Kept (fun b=>vS.ownBlock=some b) w w') (hr:w'.ownsRow B 83 1 v' (ts.length+1) (us++[u])):DS B w' gm O F n v' vN vO vr (ts++[t]) rows outs row:=by
 have hq:∀ l,83∉l->Oth w (fun b=>vS.ownBlock=some b) l:=fun l e=>zdb h2 e
 refine⟨h.gB,h.box.oth hk (hq [38] yk6) yk3,h.nxt.oth hk (hq _ yk6),zb9 h.ots hk (hq [51] yk6) yk3,fun b e=>yh3 (h.olt b e) hk.size,⟨us++[u],by simp[h1],by rw[ygu];exact hr,fun i x y e1 e2=>?_⟩,zb9 h.row hk (hq [3] yk6) yk3,h.rO⟩;have hw:∀ x y,Ws w B x y->Ws w' B x y:=fun x y hx=>zb9 hx hk (hq [121] yk6) yk3
 by_cases hi:i<us.length
 .rw[ygv hi] at e1;rw[ygv yjz] at e2;exact hw _ _ (h3 i x y e1 e2)
 .have hi':i=us.length:=by
   have:=(ygp.1 e1).1;simp at this;omega
  subst hi';rw[ygx (ygo _),yi3] at e1;rw[h1,ygx (ygo _),yi3] at e2;simp at e1 e2;subst e1 e2;exact hw _ _ hu
theorem DS.pushO (h:DS B w gm O F n vS vN vO vr ts rows outs row) {o:Nat×Nat} (hk:Kept (fun b=>vO.ownBlock=some b∨b=gm) w w') (hb:BoxM w' gm 38 F n vN v') (hr:w'.ownsRow B 51 2 v' (outs.length+1) (outC outs++[.int .u64 (o.1:Int),.int .u64 (o.2:Int)])):
 DS B w' gm O F n vS vN v' vr ts rows (outs++[o]) row:=by
 have hq:∀ l,51∉l->38∉l->Oth w (fun b=>vO.ownBlock=some b∨b=gm) l:=fun l e e'=>zro (zdb h.ots e) (zdm h.box e')
 exact⟨h.gB,hb,h.nxt.oth hk (hq _ yk6 yk6),by rw[ygu,zjv];exact hr,fun b e=>yh3 (h.olt b e) hk.size,h.sts.oth hk (hq _ yk6 yk6),zb9 h.row hk (hq [3] yk6 yk6) yk3,h.rO⟩
theorem DS.pushR (h:DS B w gm O F n vS vN vO vr ts rows outs row) {k:Nat} (hk:Kept (fun b=>vr.ownBlock=some b) w w') (hr:Ints w' B v' (ns (row++[k]))) (hv:v'.ownBlock=vr.ownBlock∨∃ c,v'.ownBlock=some c∧w.heap.size<=c):DS B w' gm O F n vS vN vO v' ts rows outs (row++[k]):=by
 have hq:∀ l,3∉l->Oth w (fun b=>vr.ownBlock=some b) l:=fun l e=>zdb h.row e
 refine⟨h.gB,h.box.oth hk (hq [38] yk6) yk3,h.nxt.kept hk fun b e e'=>h.rO b e' e,zb9 h.ots hk (hq [51] yk6) yk3,fun b e=>yh3 (h.olt b e) hk.size,h.sts.oth hk (hq _ yk6),hr,fun b e k=>?_⟩;rcases hv with e' | ⟨c,e',hc⟩
 .exact h.rO b (e'.symm.trans e) k
 .have:c=b:=by rw[e'] at e;injection e
  have:=h.olt b k;omega
theorem DS.pushN' (h:DS B w gm O F n vS vN vO vr ts rows outs row) {vs:List Value} (n1:vs.length=rows.length) (n2:w.ownsRow B 44 1 vN rows.length vs) (n3:∀ (i:Nat) u r,vs[i]?=some u->rows[i]?=some r->Ints w B u (ns r)) (n4:∀ u∈vs,∀ b,u.ownBlock=some b->O b)
 (hk:Kept (fun b=>vN.ownBlock=some b∨b=gm) w w') (hb:BoxM w' gm 38 F n v' vO) (hr:w'.ownsRow B 44 1 v' (rows.length+1) (vs++[vr])):
 DS B w' gm (fun b=>O b∨vr.ownBlock=some b∨v'.ownBlock=some b) F n vS v' vO (.slice none 0 0) ts (rows++[row]) outs []:=by
 have hq:∀ l,44∉l->38∉l->Oth w (fun b=>vN.ownBlock=some b∨b=gm) l:=fun l e e'=>zro (zdb n2 e) (zdm h.box e')
 have hi:∀ x y,Ints w B x y->Ints w' B x y:=fun x y hx=>zb9 hx hk (hq [3] yk6 yk6) yk3
 have hrow:=hi _ _ h.row;refine⟨h.gB,hb,⟨⟨vs++[vr],by simp[n1],by rw[ygu];exact hr,fun i x y e1 e2=>?_,fun x hx b e=>?_⟩,fun b e => .inr (.inr e)⟩,zb9 h.ots hk (hq [51] yk6 yk6) yk3,fun b e=>?_,h.sts.oth hk (hq _ yk6 yk6),yhd _ _ _ 1,fun b e=>by cases e⟩
 .by_cases hi':i<vs.length
  .rw[ygv hi'] at e1;rw[ygv yjz] at e2;exact hi _ _ (n3 i x y e1 e2)
  .have hi2:i=vs.length:=by
    have:=(ygp.1 e1).1;simp at this;omega
   subst hi2;rw[ygx (ygo _),yi3] at e1;rw[n1,ygx (ygo _),yi3] at e2;simp at e1 e2;subst e1 e2;exact hrow
 .rw[yh7,yha] at hx;rcases hx with hx|rfl
  .exact .inl (n4 x hx b e)
  .exact .inr (.inl e)
 .rcases e with e|e|e
  .exact yh3 (h.olt b e) hk.size
  .exact (ygs hrow b e).2
  .exact (ygs hr b e).2
theorem DS.pushN (h:DS B w gm O F n vS vN vO vr ts rows outs row) {vs:List Value} (n1:vs.length=rows.length) (n2:w.ownsRow B 44 1 vN rows.length vs) (n3:∀ (i:Nat) u r,vs[i]?=some u->rows[i]?=some r->Ints w B u (ns r)) (n4:∀ u∈vs,∀ b,u.ownBlock=some b->O b)
 (hk:Kept (fun b=>vN.ownBlock=some b∨b=gm) w w') (hb:BoxM w' gm 38 F n v' vO) (hr:w'.ownsRow B 44 1 v' (rows.length+1) (vs++[vr])):
 ∃ O',DS B w' gm O' F n vS v' vO (.slice none 0 0) ts (rows++[row]) outs []:=⟨_,h.pushN' n1 n2 n3 n4 hk hb hr⟩
end
end
section
theorem Try.infoSetE:(Try.prog.info? 64).map (fun i=>(i.zero,i.size,i.bytes))=some (some (.agg #[.int .u64 0,.int .u64 0,.int .u64 0,.int .u64 0]),4,32):=by kernel_rfl
def SetsG (w:World) (B:Nat) (v:Value) (S:List (Nat->Bool)):Prop:=w.ownsRow B 64 4 v S.length (zb8 S)
section
variable {w w':World} {B:Nat} {v u:Value} {S T:List (Nat->Bool)}
theorem zvj (S T:List (Nat->Bool)):zb8 (S++T)=zb8 S++zb8 T:=by simp[zb8]
theorem zvi (T:List (Nat->Bool)):∀ u∈zb8 T,u.oneCell'=true:=by
 intro u hu;simp only[zb8,List.mem_flatMap] at hu;obtain⟨p,_,hu⟩:=hu;simp at hu;rcases hu with rfl|rfl|rfl|rfl <;> rfl
theorem SetsG.nil (w:World) (B:Nat):SetsG w B (.slice none 0 0) []:=yhd w B _ 4
theorem SetsG.form (h:SetsG w B v S):∃ A c,v = .slice A S.length c:=zaf h
theorem SetsG.rd {A:Option Addr} {n c:Nat} (h:SetsG w B (.slice A n c) S):RdS w w.heap.size A S:=fun k hk=>by
 obtain⟨A',c',e⟩:=h.form;injection e with e1 e2 e3
 subst e1 e2 e3;unfold SetsG at h;rcases h.2 with ⟨_,h0⟩|⟨g,cap,cur,e,hB,hg,_⟩
 .omega
 .injection e with e1 e2 e3
  subst e1;refine⟨g,0,rfl,za1 hg,fun q hq=>?_⟩;rw[yhm,ygt h (k*4+q) yjz];exact zcs S k q hk hq
theorem zvm (ty:TypeId) (h:SetsG w B v S) {A:Option Addr} {c:Nat} (hu:RdS w w.heap.size A T) (hl:S.length+T.length<=100000) (hB:B<=w.heap.size):
 ∃ v' w',(Builtin.append_ #[74,74] ty #[v,.slice A T.length c]).run Try.prog w = .ok v' w'∧SetsG w' B v' (S++T)∧w.grownBy w' v.ownBlock∧(v'.ownBlock=v.ownBlock∨v'.ownBlock=some w.heap.size):=by
 obtain⟨i0,hi,hz0,hz1,hz2⟩:=info_parts Try.infoSetE;unfold SetsG at h ⊢;rw[ygu,zvj];cases A with
 | none =>
  have hT:T=[]:=by
   rcases T with _|⟨p,T⟩
   .rfl
   .obtain⟨b,off,e,_⟩:=hu 0 yk3;cases e
  subst hT;refine⟨v,w,?_,by simpa [zb8] using h,⟨rfl,rfl,rfl,ygo _,fun _ _ _=>rfl⟩,.inl rfl⟩;rcases h.2 with ⟨rfl,h0⟩|⟨g,cap,cur,rfl,_,_,hnc,_⟩
  .simp[Builtin.append_,run_underlying Try.underlying74,sizeOf,typeInfo,hi,Builtin.lenOf,Builtin.firstCells]
  .simp[Builtin.append_,run_underlying Try.underlying74,sizeOf,typeInfo,hi,Builtin.lenOf,Builtin.firstCells,hnc,storeCells]
 | some ad =>
  obtain⟨v',w',hr,h2,h3,_,h5⟩:=run_append_own_at (P:=Try.prog) w B 74 ty 64 i0 _ 4 32 Try.underlying74 hi hz0 hz1 hz2 rfl yk6 v S.length _ h ad T.length c (zb8 T) (zet T) (by
   intro j x hx;have hj:j<T.length*4:=(by rw[←zet];exact (ygp.1 hx).1);have hd:j=j / 4*4+j % 4:=yjz;have hk:j / 4<T.length:=yjz;obtain⟨b,off,e,_,hc⟩:=hu (j / 4) hk;obtain rfl:=Option.some.inj e;have h1:=zcs T (j / 4) (j % 4) hk yjz;rw[←hd,hx] at h1;have h1:=Option.some.inj h1;rw[h1,Addr.add_lit,show off+j=off+j / 4*4+j % 4 by omega];exact hc (j % 4) yjz) (zvi T) yka yjz hB
  exact⟨v',w',hr,h2,h3,h5⟩
theorem znm {ops:Array Oper} {rest:List Oper} {o:Oper} {a:Act} {Q:Exit->Act->World->Prop} (hgd:o.guard=none) (s x:Operand) (ho:o.op = .call {callee := .builtin .append,args:=#[s,x],argTypes:=#[74,74]})
 {A:Option Addr} {n c:Nat} (hs:a.eval s=v) (hx:a.eval x = .slice A n c) (hn:n=T.length) (h:SetsG w B v S) (hu:RdS w w.heap.size A T) (hl:S.length+T.length<=100000) (hB:B<=w.heap.size)
 (hK:∀ v' w',SetsG w' B v' (S++T)->w.grownBy w' v.ownBlock->(v'.ownBlock=v.ownBlock∨v'.ownBlock=some w.heap.size)->wpList Try.prog ops Q rest (a.put o.dst v') w'):wpList Try.prog ops Q (o::rest) a w:=by
 subst hn;obtain⟨v',w',hr,h2,h3,h4⟩:=zvm o.type h (A:=A) (c:=c) hu hl hB;refine wpList_plain hgd fun _ hK'=>?_
 unfold Oper.wp execOp;simp only[ho,resolve,invoke,builtin,Sem.run_bind,Sem.run_pure,Result.andThen_ok,yi4,yhw,yia,hs,hx,hr];exact hK' _ _ (hK v' w' h2 h3 h4)
end
theorem NfaIn.rdS {w:World} {B gm:Nat} {A1:Option Addr} {m1 c1:Nat} {v1 vf:Value} {s:Lay} {x:Str} (h:NfaIn w B (.slice A1 m1 c1) v1 gm vf s x) (hB:B<=w.heap.size):RdS w w.heap.size A1 s.sets:=fun k hk=>by
 obtain⟨g,c,e,hg,hc⟩:=h.sets k hk;injection e with e1 e2 e3
 subst e1;refine⟨g,0,rfl,by omega,fun q hq=>?_⟩;rw[yhm,hc q hq];simp[ygq,ygn hk]
def zc5:Array Value:=zac (fun _=>0) 0 (.slice none 0 0) (.slice none 0 0)
theorem zqt (w:World):(Instr.build 38 #[]).run Try.prog w = .ok (.agg zc5) w:=by
 refine run_build w _ _ _ ?_
 kernel_rfl
theorem zh0 {w:World} {ops:Array Oper} {rest:List Oper} {o:Oper} {a:Act} {Q:Exit->Act->World->Prop} (hgd:o.guard=none) (ho:o.op = .build 38 #[]) (hk:wpList Try.prog ops Q rest (a.put o.dst (.agg zc5)) w):wpList Try.prog ops Q (o::rest) a w:=by
 refine wpList_plain hgd fun _ hK=>?_
 unfold Oper.wp execOp;have e:(#[]:Array (Nat×Operand)).map (fun (i,x)=>(i,a.eval x))=#[]:=yk3;simp only[ho,e,Sem.run_bind,Sem.run_pure,Result.andThen_ok,zqt];exact hK _ _ hk
end
section
attribute [local go_sem ↓] Go.wp_at_zero Go.wp_at_succ
theorem zzl {w:World} {A C:Option Addr} {ca cc lam:Nat} {b:Int} {L:List (Lay×Str)} {st:List Wd} (hL:RdNfas w w.heap.size A L) (hs:RdW w C st) (hok:yg1 L) (hst:OkSt L st) (hl:st.length<=100000) (hLl:L.length<=64) (hlam:lam<=64) (hb:0<=b) (hb':b<=255)
 (hfin:(zfp L lam b.toNat st (fstN L b.toNat L.length)).length<=100000):
 Calls Try.prog 25 #[.slice A L.length ca,.int .i64 (lam:Int),.slice C st.length cc,.int .u8 b] w fun e w'=>∃ v',e = .returned v'∧Ws w' w.heap.size v' (zfp L lam b.toNat st (fstN L b.toNat L.length))∧Below w.heap.size w w':=by
 obtain⟨N,hN⟩:∃ N,st.length=N:=⟨_,rfl⟩;obtain⟨K,hK⟩:∃ K,L.length=K:=⟨_,rfl⟩;have hf1:(fstN L b.toNat L.length).length<=100000:=ygw (zml L lam b.toNat st _) hfin;rw[hN] at hl ⊢;rw[hK] at hLl hfin hf1 ⊢;have HN:=Zh hN;have HK:=Zh hK;have HL:=Zh hL;have HS:=Zh hs;have HOK:=Zh hok;have HST:=Zh hst;have HF1:=Zh hf1;have HFIN:=Zh hfin;have HAS:=Zh (fun (p:Nat->Bool) (W:World)=>zio p b W hb hb');clear hN hK hL hs hok hst hf1 hfin;go_enter Try.func25,Try.ntmps25;go_wp2;go_loopg [9,10] K (fun mm v i wr=>∃ k:Nat,i = .int .i64 (k:Int)∧k<=K∧mm=K-k∧Ws wr w.heap.size v (fstN L b.toNat k)∧Below w.heap.size w wr)
 case atStart=>exact⟨0,rfl,ygy _,rfl,Ws.nil _ _,ygr _ _⟩
 case round =>
  obtain⟨k,rfl,hk,hmk,hv,hW⟩:=hrel;obtain⟨wo,hwo⟩:∃ x,x=wr:=⟨_,rfl⟩;subst hwo;have HMK:=Zh hmk;have HV:=Zh hv;have HW:=Zh hW;clear hmk hv hW
  by_cases hkK:k<K
  .obtain⟨⟨s,x⟩,hx⟩:∃ x,L[k]?=some x:=⟨_,ygn (by rw[HK.o];exact hkK)⟩;obtain⟨g,off,A1,m1,c1,A2,m2,c2,gm,A3,m3,c3,rfl,hg,hc,q1,q2,q3,hin⟩:=HL.o k s x hx;obtain⟨hfst,hfn,-⟩:=HOK.o k s x hx;have HPart:=Zh (fun q=>zxt L b.toNat k s x hx q);have HNX:=Zh (show fstN L b.toNat (k+1)=fstN L b.toNat k++zej k s b.toNat x.first by rw[fstN,hx]);have HFST:=Zh hfst;have hrd:∀ W,Below w.heap.size w W->W.cell? ⟨g,off+k*5,none⟩=some (.slice A1 m1 c1)∧W.cell? ⟨g,off+k*5+1,none⟩=some (.slice A2 m2 c2)∧NfaIn W w.heap.size (.slice A1 m1 c1) (.slice A2 m2 c2) gm (.slice A3 m3 c3) s x:=fun W hb=>⟨(hb.cell (p:=⟨g,off+k*5,none⟩) hg).trans (hc 0 _ rfl),(hb.cell (p:=⟨g,off+k*5+1,none⟩) hg).trans (hc 1 _ rfl),hin.below hb⟩
   have HRD:=Zh hrd;obtain⟨F,hF⟩:∃ F,x.first.length=F:=⟨_,rfl⟩
   have HF:=Zh hF;obtain⟨z,hz⟩:∃ z,s.sets.length=z:=⟨_,rfl⟩;have HZ:=Zh hz;rw[hF] at q2 hfn;rw[hz] at q1;subst q1 q2;have i0:(0:Int)<=(k:Int):=yjz;have i1:(k:Int)<(K:Int):=yjz;clear hx hc hin hfst hrd hF hz q3 hg;go_wp2;go_loopg [9,11] m2 (fun mm v i wi=>∃ q:Nat,i = .int .i64 (q:Int)∧q<=m2∧mm=m2-q∧Ws wi w.heap.size v (fstN L b.toNat k++zej k s b.toNat (x.first.take q))∧Below w.heap.size w wi)
   case atStart=>exact⟨0,rfl,ygy _,rfl,by simpa [zej] using HV.o,HW.o⟩
   case round =>
    obtain⟨q,rfl,hq,hmq,hvq,hWq⟩:=hrel;have HMQ:=Zh hmq;have HVQ:=Zh hvq;have HWQ:=Zh hWq;obtain⟨y0,y1,hin⟩:=HRD.o wr hWq;clear hmq hvq hWq
    by_cases hqF:q<m2
    .have hqs:q<x.first.length:=by rw[HF.o];exact hqF
     obtain⟨g1,cc1,e1,_,hg1,hc1⟩:=hin.first.at q (by rw[za9];exact hqs)
     simp only[Value.slice.injEq] at e1;obtain⟨rfl,-,rfl⟩:=e1;have hce:(ns x.first)[q]'(by rw[za9];exact hqs)=((x.first[q]'hqs:Nat):Int):=(by simp[ns]);rw[hce] at hc1;obtain⟨p,hp⟩:∃ p,x.first[q]'hqs=p:=⟨_,rfl⟩
     have hpz:=HFST.o _ (yhb hqs);rw[hp] at hc1 hpz;have hsucc:=zqm k s b.toNat x.first q p (by rw[ygn hqs,hp])
     obtain⟨gs,cs,e2,hgs,hsc⟩:=hin.sets p hpz;simp only[Value.slice.injEq] at e2;obtain⟨rfl,-,rfl⟩:=e2;have s0:=hsc 0 yk6;have s1:=hsc 1 yk6;have s2:=hsc 2 yk6;have s3:=hsc 3 yk6;rw[yi2] at s0;rw[HZ.o] at hpz;have hle:=ygw (HPart.o q) (by rw[HK.o];exact HF1.o);obtain⟨bb,hbb⟩:∃ bb,s.sets.getD p zaa b.toNat=bb:=⟨_,rfl⟩;have hcall:=HAS.o (s.sets.getD p zaa) wr;rw[hbb] at hcall hsucc;obtain⟨a0,ha0⟩:∃ a,word (s.sets.getD p zaa) 0=a:=⟨_,rfl⟩;obtain⟨a1,ha1⟩:∃ a,word (s.sets.getD p zaa) 1=a:=⟨_,rfl⟩;obtain⟨a2,ha2⟩:∃ a,word (s.sets.getD p zaa) 2=a:=⟨_,rfl⟩;obtain⟨a3,ha3⟩:∃ a,word (s.sets.getD p zaa) 3=a:=⟨_,rfl⟩;rw[ha0] at s0 hcall;rw[ha1] at s1 hcall;rw[ha2] at s2 hcall;rw[ha3] at s3 hcall;have HC:=Zh hcall;have HSU:=Zh hsucc;have HLE:=Zh hle;have j0:(0:Int)<=(q:Int):=yjz;have j1:(q:Int)<(m2:Int):=yjz;have j2:(0:Int)<=(p:Int):=yjz;have j3:(p:Int)<(m1:Int):=yjz;clear hin hg1 hce hp hsucc hgs hsc hle hbb hcall ha0 ha1 ha2 ha3;cases bb
     all_goals
      go_wp2_with (first
       | (go_at_call 47;(with_reducible refine HC.o.mono ?_);rintro e w5 ⟨rfl,h5⟩;have HW5:=Zh (gro HWQ.o h5);have HV5:=Zh (HVQ.o.stays h5);have hs5:=HW5.o.size;clear h5)
       | (at_builtin;refine znk yk5 _ _ yk5 yk5 (HV5.o.stays ((ygr _ _).alloc (ygo _) _)) yk8 HLE.o ⟨k,p,1⟩ ⟨w5.heap.size,0,none⟩ 1 yk5 (yci w5 ⟨k,p,1⟩) ?_;intro v6 w6 i6 g6 o6;have I6:=Zh i6;have HW6:=Zh ((HW5.o.alloc hs5 _).grown g6 yk8 fun u e=>(HV5.o.in u e).1);clear i6 g6 o6)
       | fail)
     .go_roundg (m2-(q+1))
      case measure=>have:=HMQ.o;omega
      case rel=>exact⟨q+1,by go_num,by omega,rfl,by rw[HSU.o,if_neg yk6,yht];exact HV5.o,HW5.o⟩
     .go_roundg (m2-(q+1))
      case measure=>have:=HMQ.o;omega
      case rel=>exact⟨q+1,by go_num,by omega,rfl,by rw[HSU.o,if_pos trivial,←yhe];exact I6.o,HW6.o⟩
    .have hqn:q=x.first.length:=by rw[HF.o];omega
     have hv:=HVQ.o;rw[hqn,yhn,←HNX.o] at hv;have HV2:=Zh hv;clear hv hqn hin;go_wp2;go_roundg (K-(k+1))
     case measure=>have:=HMK.o;omega
     case rel=>exact⟨k+1,by go_num,by omega,rfl,HV2.o,HWQ.o⟩
  .have hkl:k=K:=yjz;subst hkl;clear HMK HF1;go_wp2;have HV0:=Zh HV.o;have HW0:=Zh HW.o;clear HV HW hkK;go_loopg [9,14] N (fun mm v i wr=>∃ (j:Nat) (o:List Wd),i = .int .i64 (j:Int)∧j<=N∧mm=N-j∧Ws wr w.heap.size v o∧Below w.heap.size w wr∧zfp L lam b.toNat (st.drop j) o=zfp L lam b.toNat st (fstN L b.toNat k))
   case atStart=>exact⟨0,_,rfl,ygy _,rfl,HV0.o,HW0.o,rfl⟩
   case round =>
    obtain⟨j,o,rfl,hj,hmj,hv,hW,ho⟩:=hrel;obtain⟨wo,hwo⟩:∃ x,x=wr:=⟨_,rfl⟩;subst hwo;have HMJ:=Zh hmj;have HV:=Zh hv;have HW:=Zh hW;have HO:=Zh ho;clear hmj hv ho
    by_cases hjN:j<N
    .obtain⟨x,hx⟩:∃ x,st[j]?=some x:=⟨_,ygn (by rw[HN.o];exact hjN)⟩;obtain⟨s,t,e1,e2,e3⟩:=HST.o x (yh1 hx);obtain⟨gw,ow,rfl,hgw,z0,z1,z2⟩:=HS.o j x hx;obtain⟨g,off,A1,m1,c1,A2,m2,c2,gm,A3,m3,c3,rfl,hg,hc,q1,q2,q3,hin⟩:=HL.o x.rule s t e1;obtain⟨-,-,hfo⟩:=HOK.o x.rule s t e1;obtain⟨hfq,hfn⟩:=hfo x.place e2;have hdr:=ztd L lam b.toNat st j x hx o;rw[HO.o] at hdr;have hone:zen L lam b.toNat x o=if x.age<lam then ze6 s b.toNat x (s.follow.getD x.place []) o else o:=by unfold zen;rw[e1]
     have hlo:(zen L lam b.toNat x o).length<=100000:=by
      refine ygw (zml L lam b.toNat (st.drop (j+1)) _) ?_;rw[←hdr];exact HFIN.o
     rw[hone] at hdr hlo;have hcc:∀ q u,(nfaC (.slice A1 m1 c1) (.slice A2 m2 c2) (.slice (some ⟨gm,0,none⟩) s.sets.length s.sets.length) (.slice A3 m3 c3) t.empty)[q]?=some u->wo.cell? ⟨g,off+x.rule*5+q,none⟩=some u:=fun q u hu=>(hW.cell (p:=⟨g,off+x.rule*5+q,none⟩) hg).trans (hc q u hu)
     have n0:=hcc 0 _ rfl;have n1:=hcc 1 _ rfl;have n2:=hcc 2 _ rfl;have n3:=hcc 3 _ rfl;have n4:=hcc 4 _ rfl;rw[yi2] at n0;have hxr:x.rule<k:=(by have:=(ygp.1 e1).1;have:=HK.o;omega);have HFQ:=Zh hfq;have HX:=Zh hx;obtain⟨xr,xp,xa⟩:=x;simp only at z0 z1 z2 n0 n1 n2 n3 n4 hxr e2 e3 hfn hdr hlo HFQ;subst q1 q2 q3;obtain⟨gf,cf,vf,ef,hgf,hcf,hfi,hfb⟩:=hin.fols xp e2;simp only[Value.slice.injEq,true_and] at ef;obtain⟨rfl,rfl⟩:=ef;obtain⟨Av,cv,ev,-,-⟩:=hfi.news;rw[za9] at ev;subst ev;have hrd:∀ W,Below w.heap.size w W->W.cell? ⟨gw,ow+j*3,none⟩=some (.int .i64 (xr:Int))∧W.cell? ⟨gw,ow+j*3+1,none⟩=some (.int .i64 (xp:Int))∧W.cell? ⟨gw,ow+j*3+2,none⟩=some (.int .i64 (xa:Int))∧W.cell? ⟨gf,xp,none⟩=some (.slice Av (s.follow.getD xp []).length cv)∧Ints W 0 (.slice Av (s.follow.getD xp []).length cv) (ns (s.follow.getD xp []))∧NfaIn W w.heap.size (.slice A1 s.sets.length c1) (.slice A2 t.first.length c2) gm (.slice (some ⟨gf,0,none⟩) s.sets.length c3) s t:=fun W hb=>⟨(hb.cell (p:=⟨gw,ow+j*3,none⟩) hgw).trans z0,(hb.cell (p:=⟨gw,ow+j*3+1,none⟩) hgw).trans z1,(hb.cell (p:=⟨gw,ow+j*3+2,none⟩) hgw).trans z2,(hb.cell (p:=⟨gf,xp,none⟩) hgf).trans hcf,hfi.block fun b e _=>hb.block b (hfb b e),hin.below hb⟩
     have HRD:=Zh hrd;obtain⟨y0,y1,y2,y3,-,-⟩:=hrd wo hW;obtain⟨fol,hfol⟩:∃ f,s.follow.getD xp []=f:=⟨_,rfl⟩;rw[hfol] at HRD HFQ hfn hdr hlo y3;obtain⟨F,hF⟩:∃ F,fol.length=F:=⟨_,rfl⟩;have HF:=Zh hF;rw[hF] at HRD hfn y3;obtain⟨z,hz⟩:∃ z,s.sets.length=z:=⟨_,rfl⟩;have HZ:=Zh hz;rw[hz] at HRD HFQ n0 n2 n3 e2;obtain⟨fin,hfi'⟩:∃ f,(if xa<lam then ze6 s b.toNat ⟨xr,xp,xa⟩ fol o else o)=f:=⟨_,rfl⟩;rw[hfi'] at hdr hlo;have HFI:=Zh hfi';have HLO:=Zh hlo;have HDR:=Zh hdr;have i0:(0:Int)<=(j:Int):=yjz;have i1:(j:Int)<(N:Int):=yjz;have i2:(0:Int)<=(xr:Int):=yjz;have i3:(xr:Int)<(k:Int):=yjz;have hal:Below w.heap.size w (wo.alloc (.cells #[.slice A1 z c1,.slice A2 t.first.length c2,.slice (some ⟨gm,0,none⟩) z z,.slice (some ⟨gf,0,none⟩) z c3,.bool t.empty] 76)):=hW.alloc hW.size _;have hbx:=heap_alloc_new wo (.cells #[.slice A1 z c1,.slice A2 t.first.length c2,.slice (some ⟨gm,0,none⟩) z z,.slice (some ⟨gf,0,none⟩) z c3,.bool t.empty] 76);have HAL:=Zh hal;have HBX:=Zh hbx;have HWO:=Zh hW;clear hx e1 hgw hg hc hcc hin hfo hfq hdr hone hW hlo hfol hF hz hfi' hrd hcf hfi hfb hgf z0 z1 z2 hal hbx y3 HX;go_wp2;go_loopg [9,16] F (fun mm v i wi=>∃ (q:Nat) (o':List Wd),i = .int .i64 (q:Int)∧q<=F∧mm=F-q∧Ws wi w.heap.size v o'∧Below w.heap.size w wi∧HasO wi wo.heap.size (.cells #[.slice A1 z c1,.slice A2 t.first.length c2,.slice (some ⟨gm,0,none⟩) z z,.slice (some ⟨gf,0,none⟩) z c3,.bool t.empty] 76 (0,0))∧(∀ e,v.ownBlock=some e->e≠wo.heap.size)∧(if xa<lam then ze6 s b.toNat ⟨xr,xp,xa⟩ (fol.drop q) o' else o')=fin)
     case atStart=>exact⟨0,o,rfl,ygy _,rfl,HV.o.stays ((ygr _ _).alloc (ygo _) _),HAL.o,HBX.o,fun e he=>by have:=(HV.o.in e he).2;omega,HFI.o⟩
     case round =>
      obtain⟨q,o',rfl,hq,hmq,hvq,hWq,hbq,hap,hof⟩:=hrel;have HMQ:=Zh hmq;have HVQ:=Zh hvq;have HWQ:=Zh hWq;have HBQ:=Zh hbq;have HAP:=Zh hap;have HOF:=Zh hof;obtain⟨y0,y1,y2,y3,hfi,hin⟩:=HRD.o wr hWq;have u0:wr.cell? ⟨wo.heap.size,0,none⟩=some (.slice A1 z c1):=cell_of_row wr _ 0 _ _ (0,0) hbq;have u3:wr.cell? ⟨wo.heap.size,3,none⟩=some (.slice (some ⟨gf,0,none⟩) z c3):=cell_of_row wr _ 3 _ _ (0,0) hbq;have j2:(0:Int)<=(xp:Int):=yjz;have j3:(xp:Int)<(z:Int):=yjz;clear hmq hvq hWq hbq hap hof
      by_cases hqF:q<F
      .have hd1:decide ((q:Int)<(F:Int))=true:=by simp;omega
       by_cases hxl:xa<lam
       .have hd2:decide ((xa:Int)<(lam:Int))=true:=yk8;have hqs:q<fol.length:=(by rw[HF.o];exact hqF);obtain⟨Ao,co,eo⟩:=HVQ.o.form;subst eo;obtain⟨gv,cv',e4,_,hgv,hcv⟩:=hfi.at q (by rw[za9];exact hqs);simp only[Value.slice.injEq] at e4;obtain⟨rfl,-,rfl⟩:=e4;have hce:(ns fol)[q]'(by rw[za9];exact hqs)=((fol[q]'hqs:Nat):Int):=(by simp[ns]);rw[hce] at hcv;obtain⟨f,hf⟩:∃ f,fol[q]'hqs=f:=⟨_,rfl⟩;have hfz:=HFQ.o _ (yhb hqs);rw[hf] at hcv hfz;have hfd:=zqn s b.toNat ⟨xr,xp,xa⟩ fol q f (by rw[ygn hqs,hf]) o';have ho2:=HOF.o;rw[if_pos hxl,hfd] at ho2;have hol:o'.length<=100000:=ygw (ygw (zp8 s b.toNat ⟨xr,xp,xa⟩ f o') (zki s b.toNat ⟨xr,xp,xa⟩ (fol.drop (q+1)) _)) (by rw[ho2];exact HLO.o);obtain⟨gs,cs,e5,hgs,hsc⟩:=hin.sets f (by rw[HZ.o];exact hfz);simp only[Value.slice.injEq] at e5;obtain⟨rfl,-,rfl⟩:=e5;have s0:=hsc 0 yk6;have s1:=hsc 1 yk6;have s2:=hsc 2 yk6;have s3:=hsc 3 yk6;rw[yi2] at s0;obtain⟨bb,hbb⟩:∃ bb,s.sets.getD f zaa b.toNat=bb:=⟨_,rfl⟩;obtain⟨a0,ha0⟩:∃ a,word (s.sets.getD f zaa) 0=a:=⟨_,rfl⟩;obtain⟨a1,ha1⟩:∃ a,word (s.sets.getD f zaa) 1=a:=⟨_,rfl⟩;obtain⟨a2,ha2⟩:∃ a,word (s.sets.getD f zaa) 2=a:=⟨_,rfl⟩;obtain⟨a3,ha3⟩:∃ a,word (s.sets.getD f zaa) 3=a:=⟨_,rfl⟩;have hcall:=fun W=>HAS.o (s.sets.getD f zaa) W
        simp only[ha0,ha1,ha2,ha3,hbb] at hcall;rw[ha0] at s0;rw[ha1] at s1;rw[ha2] at s2;rw[ha3] at s3;obtain⟨hh,hhh⟩:∃ bb,decide ((⟨xr,f,xa+1⟩:Wd)∈o')=bb:=⟨_,rfl⟩;have hask:=fun (W:World) (hb2:Below wr.heap.size wr W)=>zxm (c:=co) ⟨xr,f,xa+1⟩ ((HVQ.o.stays hb2).rd) hol
        simp only[hhh,wdV] at hask
        push_cast at hask
        have hput:zir s b.toNat ⟨xr,xp,xa⟩ f o'=if bb=true∧¬ hh=true then o'++[⟨xr,f,xa+1⟩] else o':=by
         unfold zir;rw[hbb,←hhh];simp
        rw[hput] at ho2;have hwr:IntKind.i64.wrap ((xa:Int)+1)=(xa:Int)+1:=(by rw[IntKind.wrap_i64];omega);have HPUT:=Zh ho2;have HASK:=Zh hask;have HC:=Zh hcall;have HOL:=Zh hol;have k0:(0:Int)<=(q:Int):=yjz;have k1:(q:Int)<(F:Int):=yjz;have k2:(0:Int)<=(f:Int):=yjz;have k3:(f:Int)<(z:Int):=yjz;clear hce hf hfd ho2 hgs hsc hbb ha0 ha1 ha2 ha3 hcall hask hhh hput hol hgv hin hfi;go_wp2;go_quiet (fail);go_wp2;generalize hw8:World.drewN wr _=w8;have py0:w8.cell? ⟨gw,ow+j*3,none⟩=some (.int .i64 (xr:Int)):=(by rw[←hw8];exact y0);have py1:w8.cell? ⟨gw,ow+j*3+1,none⟩=some (.int .i64 (xp:Int)):=(by rw[←hw8];exact y1);have py2:w8.cell? ⟨gw,ow+j*3+2,none⟩=some (.int .i64 (xa:Int)):=(by rw[←hw8];exact y2);have pu3:w8.cell? ⟨wo.heap.size,3,none⟩=some (.slice (some ⟨gf,0,none⟩) z c3):=(by rw[←hw8];exact u3);have py3:w8.cell? ⟨gf,xp,none⟩=some (.slice (some ⟨gv,0,none⟩) F cv):=(by rw[←hw8];exact y3);have phcv:w8.cell? ⟨gv,q,none⟩=some (.int .i64 (f:Int)):=(by rw[←hw8];exact hcv);have h8:Below wr.heap.size wr w8:=(by rw[←hw8];exact zb5 (ygr _ _) _);have H8:=Zh h8;have hnbd:((w8.drew.alloc (.cells #[.int .i64 0,.int .i64 0,.int .i64 0] 121))).heap[w8.heap.size]?=some (.cells #[.int .i64 0,.int .i64 0,.int .i64 0] 121 (0,0)):=heap_alloc_new w8.drew _;have m0d:((w8.drew.alloc (.cells #[.int .i64 0,.int .i64 0,.int .i64 0] 121))).cell? ⟨w8.heap.size,0,none⟩=some (.int .i64 0):=cell_of_row _ w8.heap.size 0 _ _ (0,0) hnbd;have f0d:((w8.drew.alloc (.cells #[.int .i64 0,.int .i64 0,.int .i64 0] 121))).frozen? ⟨w8.heap.size,0,none⟩=false:=ykd;have m1d:((w8.drew.alloc (.cells #[.int .i64 0,.int .i64 0,.int .i64 0] 121))).cell? ⟨w8.heap.size,1,none⟩=some (.int .i64 0):=cell_of_row _ w8.heap.size 1 _ _ (0,0) hnbd;have f1d:((w8.drew.alloc (.cells #[.int .i64 0,.int .i64 0,.int .i64 0] 121))).frozen? ⟨w8.heap.size,1,none⟩=false:=ykd;have m2d:((w8.drew.alloc (.cells #[.int .i64 0,.int .i64 0,.int .i64 0] 121))).cell? ⟨w8.heap.size,2,none⟩=some (.int .i64 0):=cell_of_row _ w8.heap.size 2 _ _ (0,0) hnbd;have f2d:((w8.drew.alloc (.cells #[.int .i64 0,.int .i64 0,.int .i64 0] 121))).frozen? ⟨w8.heap.size,2,none⟩=false:=ykd;have hnbe:((w8.alloc (.cells #[.int .i64 0,.int .i64 0,.int .i64 0] 121)).drew).heap[w8.heap.size]?=some (.cells #[.int .i64 0,.int .i64 0,.int .i64 0] 121 (0,0)):=heap_alloc_new w8 _;have m0e:((w8.alloc (.cells #[.int .i64 0,.int .i64 0,.int .i64 0] 121)).drew).cell? ⟨w8.heap.size,0,none⟩=some (.int .i64 0):=cell_of_row _ w8.heap.size 0 _ _ (0,0) hnbe;have f0e:((w8.alloc (.cells #[.int .i64 0,.int .i64 0,.int .i64 0] 121)).drew).frozen? ⟨w8.heap.size,0,none⟩=false:=yke;have m1e:((w8.alloc (.cells #[.int .i64 0,.int .i64 0,.int .i64 0] 121)).drew).cell? ⟨w8.heap.size,1,none⟩=some (.int .i64 0):=cell_of_row _ w8.heap.size 1 _ _ (0,0) hnbe;have f1e:((w8.alloc (.cells #[.int .i64 0,.int .i64 0,.int .i64 0] 121)).drew).frozen? ⟨w8.heap.size,1,none⟩=false:=yke;have m2e:((w8.alloc (.cells #[.int .i64 0,.int .i64 0,.int .i64 0] 121)).drew).cell? ⟨w8.heap.size,2,none⟩=some (.int .i64 0):=cell_of_row _ w8.heap.size 2 _ _ (0,0) hnbe;have f2e:((w8.alloc (.cells #[.int .i64 0,.int .i64 0,.int .i64 0] 121)).drew).frozen? ⟨w8.heap.size,2,none⟩=false:=yke;clear hw8 h8 hnbd hnbe y0 y1 y2 y3 u3 hcv
        go_region_held3 (fun W=>W.cell? ⟨gw,ow+j*3,none⟩=some (.int .i64 (xr:Int))∧W.cell? ⟨gw,ow+j*3+1,none⟩=some (.int .i64 (xp:Int))∧W.cell? ⟨gw,ow+j*3+2,none⟩=some (.int .i64 (xa:Int))∧W.cell? ⟨wo.heap.size,3,none⟩=some (.slice (some ⟨gf,0,none⟩) z c3)∧W.cell? ⟨gf,xp,none⟩=some (.slice (some ⟨gv,0,none⟩) F cv)∧W.cell? ⟨gv,q,none⟩=some (.int .i64 (f:Int)))
         ((refine⟨?_,?_,?_,?_,?_,?_⟩ <;> (repeat (first | with_reducible assumption | with_reducible refine zba ?_ | with_reducible refine zcj ?_ _ | with_reducible refine yed _ ?_ (by with_reducible assumption))))) (first | fail)
        try rw[hwr]
        generalize hw9:World.drew _=w9;have hbx9:w9.heap[w8.heap.size]?=some (.cells #[.int .i64 (xr:Int),.int .i64 (f:Int),.int .i64 ((xa:Int)+1)] 121 (0,0)):=(by rw[←hw9];exact heap_alloc_new w8 _);have hb9:Below wr.heap.size wr w9:=(by rw[←hw9];exact (H8.o.alloc H8.o.size _).drew);have v0:w9.cell? ⟨w8.heap.size,0,none⟩=some (.int .i64 (xr:Int)):=cell_of_row w9 _ 0 _ _ (0,0) hbx9;have v1:w9.cell? ⟨w8.heap.size,1,none⟩=some (.int .i64 (f:Int)):=cell_of_row w9 _ 1 _ _ (0,0) hbx9;have v2:w9.cell? ⟨w8.heap.size,2,none⟩=some (.int .i64 ((xa:Int)+1)):=cell_of_row w9 _ 2 _ _ (0,0) hbx9;have b0:=za3 u0 hb9;have t0:=za3 s0 hb9;have t1:=za3 s1 hb9;have t2:=za3 s2 hb9;have t3:=za3 s3 hb9;have HB9:=Zh hb9;clear hw9 hbx9 hb9 u0 s0 s1 s2 s3 py0 py1 py2 pu3 py3 phcv m0d m1d m2d m0e m1e m2e f0d f1d f2d f0e f1e f2e;cases bb <;> cases hh
        all_goals
         go_wp2_with (first
          | (go_at_call 47;(with_reducible refine (HC.o w9).mono ?_);rintro e wA ⟨rfl,hA⟩;have HA:=Zh (gro HB9.o hA);have v0A:=za3 v0 hA;have v1A:=za3 v1 hA;have v2A:=za3 v2 hA;clear hA)
          | (go_at_call 48;(with_reducible refine (HASK.o wA HA.o).mono ?_);rintro e wB ⟨rfl,hB⟩;have HB:=Zh (gro HA.o hB);have v0B:=za3 v0A hB;have v1B:=za3 v1A hB;have v2B:=za3 v2A hB;clear hB)
          | (at_builtin;refine znk yk5 _ _ yk5 yk5 ((HVQ.o.stays HB.o).stays ((ygr _ _).alloc (ygo _) _)) (ygw (HWQ.o.trans (HB.o.mono HWQ.o.size)).size yk3) HOL.o ⟨xr,f,xa+1⟩ ⟨wB.heap.size,0,none⟩ 1 yk5 (yci wB ⟨xr,f,xa+1⟩) ?_;intro v6 w6 i6 g6 o6;have I6:=Zh i6;have G6:=Zh g6;have O6:=Zh o6;clear i6 g6 o6)
          | fail)
         go_roundg (F-(q+1))
         case measure=>have:=HMQ.o;omega
         case rel =>
          have hpp:=HPUT.o;simp at hpp;have hWB:Below w.heap.size w wB:=HWQ.o.trans (HB.o.mono HWQ.o.size);have hbB:HasO wB wo.heap.size _:=zb7 HBQ.o HB.o
          first
           | exact⟨q+1,o',by go_num,by omega,rfl,HVQ.o.stays HB.o,hWB,hbB,HAP.o,by rw[if_pos hxl];exact hpp⟩
           | exact⟨q+1,_,by go_num,by omega,rfl,I6.o,(hWB.alloc hWB.size _).grown G6.o (ygw hWB.size yk3) (fun u e=>(HVQ.o.in u e).1),zbt G6.o (zb3 _ hbB) (fun e=>HAP.o _ e.symm rfl),fun e he=>by
            rcases O6.o with o|o
            .exact HAP.o e (o▸he)
            .rw[he] at o;injection o with o;have h1:=za1 hbB;have h2:e=wB.heap.size+1:=by simpa using o
             omega,by rw[if_pos hxl];exact hpp⟩
       .have hd2:decide ((xa:Int)<(lam:Int))=false:=yk8;have ho2:=HOF.o;rw[if_neg hxl] at ho2;have HO2:=Zh ho2;clear ho2 hin hfi;go_wp2;go_quiet (fail);go_wp2;go_roundg (N-(j+1))
        case measure=>have:=HMJ.o;omega
        case rel=>exact⟨j+1,fin,by go_num,by omega,rfl,by rw[←HO2.o];exact HVQ.o,zb5 HWQ.o _,by rw[←HDR.o]⟩
      .have hd1:decide ((q:Int)<(F:Int))=false:=yk8;have ho2:=HOF.o;rw[show q=fol.length by rw[HF.o];omega,yii,ze6,ite_self] at ho2;have HO2:=Zh ho2;clear ho2 hin hfi;go_wp2;go_quiet (fail);go_wp2;go_roundg (N-(j+1))
       case measure=>have:=HMJ.o;omega
       case rel=>exact⟨j+1,fin,by go_num,by omega,rfl,by rw[←HO2.o];exact HVQ.o,zb5 HWQ.o _,by rw[←HDR.o]⟩
    .have hjn:j=st.length:=yky;have ho:=HO.o;rw[hjn,yii,zfp] at ho;have HO2:=Zh ho;clear ho hjn;go_wp2;go_ret;exact⟨_,rfl,by rw[←HO2.o];exact HV.o,HW.o⟩
end
end Go.Proofs.Ytipfgpfplakhiaa
