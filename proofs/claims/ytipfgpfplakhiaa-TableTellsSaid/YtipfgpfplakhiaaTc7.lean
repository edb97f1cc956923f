import Derived.Test.YtipfgpfplakhiaaTc6
set_option linter.unusedVariables false
set_option linter.unusedSimpArgs false
namespace Go.Proofs.Ytipfgpfplakhiaa
open Go Go.RowKit
section
def outC (l:List (Nat×Nat)):List Value:=l.flatMap fun o=>[.int .u64 (o.1:Int),.int .u64 (o.2:Int)]
theorem zjv (l:List (Nat×Nat)) (o:Nat×Nat):outC (l++[o])=outC l++[.int .u64 (o.1:Int),.int .u64 (o.2:Int)]:=by simp[outC]
theorem zf8:∀ (l:List (Nat×Nat)) (i:Nat) (o:Nat×Nat),l[i]?=some o->(outC l)[i*2]?=some (.int .u64 (o.1:Int))∧(outC l)[i*2+1]?=some (.int .u64 (o.2:Int))
 | [],i,o,h=>by simp at h
 | p::l,0,o,h=>by
  simp at h;subst h;exact⟨rfl,rfl⟩
 | p::l,i+1,o,h=>by
  obtain⟨h1,h2⟩:=zf8 l i o ykc;have e:outC (p::l)=[.int .u64 (p.1:Int),.int .u64 (p.2:Int)]++outC l:=rfl;rw[e,ygx yk8,ygx yk8];simp only[yi8,yj5];rw[show (i+1)*2-(0+1+1)=i*2 by omega,show (i+1)*2+1-(0+1+1)=i*2+1 by omega];exact⟨h1,h2⟩
structure Nxt (w:World) (B:Nat) (O:Nat->Prop) (vN:Value) (rows:List (List Nat)):Prop where
 mem:∃ vs,vs.length=rows.length∧w.ownsRow B 44 1 vN rows.length vs∧(∀ (i:Nat) u r,vs[i]?=some u->rows[i]?=some r->Ints w B u (ns r))∧∀ u∈vs,∀ b,u.ownBlock=some b->O b
 inO:∀ b,vN.ownBlock=some b->O b
structure Ots (w:World) (B:Nat) (O:Nat->Prop) (vO:Value) (outs:List (Nat×Nat)):Prop where
 row:w.ownsRow B 51 2 vO outs.length (outC outs)
 inO:∀ b,vO.ownBlock=some b->O b
section
variable {w w':World} {B:Nat} {O O' Q:Nat->Prop} {vN vO v':Value} {rows:List (List Nat)} {outs:List (Nat×Nat)}
theorem Nxt.kept (h:Nxt w B O vN rows) (hk:Kept Q w w') (hq:∀ b,O b->¬ Q b):Nxt w' B O vN rows:=by
 obtain⟨vs,h1,h2,h3,h4⟩:=h.mem;exact⟨⟨vs,h1,za7 h2 fun b e hb=>hk.block b hb (hq b (h.inO b e)),fun i u r e1 e2=>(h3 i u r e1 e2).block fun b e hb=>hk.block b hb (hq b (h4 u (yh1 e1) b e)),h4⟩,h.inO⟩
theorem Ots.kept (h:Ots w B O vO outs) (hk:Kept Q w w') (hq:∀ b,O b->¬ Q b):Ots w' B O vO outs:=⟨za7 h.row fun b e hb=>hk.block b hb (hq b (h.inO b e)),h.inO⟩
theorem Nxt.more (h:Nxt w B O vN rows) (ho:∀ b,O b->O' b):Nxt w B O' vN rows:=by
 obtain⟨vs,h1,h2,h3,h4⟩:=h.mem;exact⟨⟨vs,h1,h2,h3,fun u hu b e=>ho b (h4 u hu b e)⟩,fun b e=>ho b (h.inO b e)⟩
theorem Nxt.low {C:Nat} (h:Nxt w B O vN rows) (hC:C<=B):Nxt w C O vN rows:=by
 obtain⟨vs,h1,h2,h3,h4⟩:=h.mem;exact⟨⟨vs,h1,zb2 h2 hC,fun i u r e1 e2=>(h3 i u r e1 e2).low hC,h4⟩,h.inO⟩
theorem Ots.low {C:Nat} (h:Ots w B O vO outs) (hC:C<=B):Ots w C O vO outs:=⟨zb2 h.row hC,h.inO⟩
theorem Nxt.nil (w:World) (B:Nat) (O:Nat->Prop):Nxt w B O (.slice none 0 0) []:=⟨⟨[],rfl,yhd _ _ _ 1,fun i u r e1 e2=>by simp at e1,fun u hu=>by simp at hu⟩,fun b e=>by cases e⟩
theorem Ots.nil (w:World) (B:Nat) (O:Nat->Prop):Ots w B O (.slice none 0 0) []:=⟨yhd _ _ _ 2,fun b e=>by cases e⟩
theorem Nxt.form (h:Nxt w B O vN rows):∃ A c,vN = .slice A rows.length c:=by obtain⟨vs,h1,h2,_⟩:=h.mem;exact zaf h2
theorem Ots.form (h:Ots w B O vO outs):∃ A c,vO = .slice A outs.length c:=zaf h.row
theorem Nxt.in (h:Nxt w B O vN rows):∀ b,vN.ownBlock=some b->B<=b∧b<w.heap.size:=fun b e=>by obtain⟨vs,h1,h2,_⟩:=h.mem;exact ygs h2 b e
theorem Ots.in (h:Ots w B O vO outs):∀ b,vO.ownBlock=some b->B<=b∧b<w.heap.size:=fun b e=>ygs h.row b e
end
structure BS (w0 w:World) (gm gs:Nat) (K O:Nat->Prop) (F:Nat->Nat) (n:Int) (vN vO vr:Value) (rows:List (List Nat)) (outs:List (Nat×Nat)) (ss:List Sta) (l0:Sta):Prop where
 keep:Kept (fun b=>b=gm) w0 w
 gmlt:gm<w0.heap.size
 box:BoxM w gm 41 F n vN vO
 nxt:Nxt w w0.heap.size O vN rows
 ots:Ots w w0.heap.size O vO outs
 olt:∀ b,O b->w0.heap.size<=b∧b<w.heap.size
 kn:Known w K gs ss
 kge:∀ b,K b->w0.heap.size<=b
 room:Wds w w0.heap.size vr l0
 rK:∀ b,vr.ownBlock=some b->¬ K b
 rO:∀ b,vr.ownBlock=some b->¬ O b
 oK:∀ b,O b->¬ K b
section
variable {w0 w w':World} {gm gs:Nat} {K K' O Q:Nat->Prop} {F:Nat->Nat} {n:Int} {vN vO vr v':Value} {rows:List (List Nat)} {outs:List (Nat×Nat)} {ss ss':List Sta} {l0 l1:Sta}
theorem zh1 {w:World} {B:Nat} {v:Value} {l:Sta} (h:Wds w B v l):∀ b,v.ownBlock=some b->B<=b∧b<w.heap.size:=fun b e=>ygs h b e
theorem BS.off (h:BS w0 w gm gs K O F n vN vO vr rows outs ss l0) (hk:Kept Q w w') (hq:∀ b,Q b->b<w.heap.size->w0.heap.size<=b∧¬ K b∧¬ O b∧vr.ownBlock≠some b):BS w0 w' gm gs K O F n vN vO vr rows outs ss l0:=by
 have hs:=h.keep.size;have hg:=h.gmlt;have hqO:∀ b,O b->¬ Q b:=fun b e q=>(hq b q (h.olt b e).2).2.2.1 e
 refine⟨h.keep.trans (hk.mono (Q':=fun b=>w0.heap.size<=b) fun b e=>?_) fun b e => .inr e,h.gmlt,h.box.kept hk fun e=>?_,h.nxt.kept hk hqO,h.ots.kept hk hqO,fun b e=>⟨(h.olt b e).1,yh3 (h.olt b e).2 hk.size⟩,h.kn.off (Q:=fun b=>Q b∧b<w.heap.size) ?_ fun b e=>(hq b e.1 e.2).2.1,h.kge,za7 h.room fun b e hb=>hk.block b hb fun q=>(hq b q hb).2.2.2 e,h.rK,h.rO,h.oK⟩
 .by_cases hb:b<w.heap.size
  .exact .inl (hq b e hb).1
  .exact .inr yjz
 .have:=(hq gm e yjz).1;omega
 .exact hk.mono fun b e=>by
   by_cases hb:b<w.heap.size
   .exact .inl ⟨e,hb⟩
   .exact .inr yjz
theorem BS.stays (h:BS w0 w gm gs K O F n vN vO vr rows outs ss l0) (hb:Below w.heap.size w w'):BS w0 w' gm gs K O F n vN vO vr rows outs ss l0:=h.off (Kept.of_below (fun _=>False) hb) fun b e=>e.elim
theorem BS.by' (h:BS w0 w gm gs K O F n vN vO vr rows outs ss l0) (hw:Wds w' w0.heap.size v' l1) (hk:Kept (fun b=>vr.ownBlock=some b) w w') (hv:∀ b,v'.ownBlock=some b->vr.ownBlock=some b∨w.heap.size<=b):BS w0 w' gm gs K O F n vN vO v' rows outs ss l1:=by
 have hs:=h.keep.size;have hg:=h.gmlt;have hin:=zh1 h.room;have hqO:∀ b,O b->¬ vr.ownBlock=some b:=fun b e q=>h.rO b q e
 refine⟨h.keep.trans hk fun b e => .inr (hin b e).1,h.gmlt,h.box.kept hk fun e=>?_,h.nxt.kept hk hqO,h.ots.kept hk hqO,fun b e=>⟨(h.olt b e).1,yh3 (h.olt b e).2 hk.size⟩,h.kn.off hk fun b e=>h.rK b e,h.kge,hw,fun b e=>?_,fun b e=>?_,h.oK⟩
 .have:=(hin gm e).1;omega
 .rcases hv b e with e' | e'
  .exact h.rK b e'
  .exact fun k=>by have:=h.kn.lt b k;omega
 .rcases hv b e with e' | e'
  .exact h.rO b e'
  .exact fun k=>by have:=(h.olt b k).2;omega
theorem BS.met (h:BS w0 w gm gs K O F n vN vO vr rows outs ss l0) (hn:Known w' K' gs ss') (hk:Kept K w w') (hK:∀ b,K' b->K b∨w.heap.size<=b):BS w0 w' gm gs K' O F n vN vO vr rows outs ss' l0:=by
 have hs:=h.keep.size;have hg:=h.gmlt;refine⟨h.keep.trans hk fun b e => .inr (h.kge b e),h.gmlt,h.box.kept hk fun e=>?_,h.nxt.kept hk h.oK,h.ots.kept hk h.oK,fun b e=>⟨(h.olt b e).1,yh3 (h.olt b e).2 hk.size⟩,hn,fun b e=>(hK b e).elim (h.kge b) fun x=>by omega,za7 h.room fun b e hb=>hk.block b hb (h.rK b e),fun b e k=>?_,h.rO,fun b e k=>?_⟩
 .have:=h.kge gm e;omega
 .have:=(zh1 h.room b e).2;exact (hK b k).elim (h.rK b e) fun x=>by omega
 .have:=(h.olt b e).2;exact (hK b k).elim (h.oK b e) fun x=>by omega
end
end
section
structure IS (w0 w:World) (gm gs:Nat) (K O:Nat->Prop) (F:Nat->Nat) (n:Int) (vN vO vr:Value) (rows:List (List Nat)) (outs:List (Nat×Nat)) (ss:List Sta) (l0:Sta) (va:Value) (al:Sta) (gx C:Nat) (xs:List Nat):Prop where
 bs:BS w0 w gm gs K O F n vN vO vr rows outs ss l0
 ah:Wds w w0.heap.size va al
 aK:∀ b,va.ownBlock=some b->¬ K b
 aR:∀ b,va.ownBlock=some b->vr.ownBlock≠some b
 row:Ints w w0.heap.size (.slice (some ⟨gx,0,none⟩) C C) (ns xs)
 xK:¬ K gx
 xR:vr.ownBlock≠some gx
 xA:va.ownBlock≠some gx
 xO:¬ O gx
section
variable {w0 w w':World} {gm gs gx C:Nat} {K K' O Q:Nat->Prop} {F:Nat->Nat} {n:Int} {vN vO vr v' va:Value} {rows:List (List Nat)} {outs:List (Nat×Nat)} {ss ss':List Sta} {l0 l1 al:Sta} {xs:List Nat}
theorem IS.gxlt (h:IS w0 w gm gs K O F n vN vO vr rows outs ss l0 va al gx C xs):w0.heap.size<=gx∧gx<w.heap.size:=ygs h.row gx rfl
theorem IS.by' (h:IS w0 w gm gs K O F n vN vO vr rows outs ss l0 va al gx C xs) (hw:Wds w' w0.heap.size v' l1) (hk:Kept (fun b=>vr.ownBlock=some b) w w') (hv:∀ b,v'.ownBlock=some b->vr.ownBlock=some b∨w.heap.size<=b):IS w0 w' gm gs K O F n vN vO v' rows outs ss l1 va al gx C xs:=by
 refine⟨h.bs.by' hw hk hv,za7 h.ah fun b e hb=>hk.block b hb (h.aR b e),h.aK,fun b e e'=>?_,za7 h.row fun b e hb=>hk.block b hb fun q=>?_,h.xK,fun e=>?_,h.xA,h.xO⟩
 .have:=(zh1 h.ah b e).2;exact (hv b e').elim (h.aR b e) fun x=>by omega
 .have e2:gx=b:=(by injection e);subst e2;exact h.xR q
 .have:=h.gxlt.2;exact (hv gx e).elim h.xR fun x=>by omega
theorem IS.met (h:IS w0 w gm gs K O F n vN vO vr rows outs ss l0 va al gx C xs) (hn:Known w' K' gs ss') (hk:Kept K w w') (hK:∀ b,K' b->K b∨w.heap.size<=b):IS w0 w' gm gs K' O F n vN vO vr rows outs ss' l0 va al gx C xs:=by
 refine⟨h.bs.met hn hk hK,za7 h.ah fun b e hb=>hk.block b hb (h.aK b e),fun b e k=>?_,h.aR,za7 h.row fun b e hb=>hk.block b hb fun q=>?_,fun k=>?_,h.xR,h.xA,h.xO⟩
 .have:=(zh1 h.ah b e).2;exact (hK b k).elim (h.aK b e) fun x=>by omega
 .have e2:gx=b:=(by injection e);subst e2;exact h.xK q
 .have:=h.gxlt.2;exact (hK gx k).elim h.xK fun x=>by omega
theorem IS.cell (h:IS w0 w gm gs K O F n vN vO vr rows outs ss l0 va al gx C xs) (j:Nat) (hj:j<C):∃ y,w.cell? ⟨gx,j,none⟩=some y∧w.frozen? ⟨gx,j,none⟩=false:=by
 have hr:=h.row;have hC:C=(ns xs).length:=by
  obtain⟨A',c',e⟩:=hr.form;injection e
 subst hC;have h1:=ygt hr j yjz;rw[ygn (by rw[yh8];exact hj)] at h1;exact⟨_,h1,yhh hr j⟩
theorem yf7 (l:List Nat) (c v:Nat):(ns l).set c (v:Int)=ns (l.set c v):=by
 unfold ns;rw[List.map_set];rfl
theorem IS.set (h:IS w0 w gm gs K O F n vN vO vr rows outs ss l0 va al gx C xs) (c v:Nat):IS w0 (w.setCell ⟨gx,c,none⟩ (.int .i64 (v:Int))) gm gs K O F n vN vO vr rows outs ss l0 va al gx C (xs.set c v):=by
 have hk:Kept (fun b=>b=gx) w (w.setCell ⟨gx,c,none⟩ (.int .i64 (v:Int))):=(Kept.refl (fun b=>b=gx) w).setCell (a:=⟨gx,c,none⟩) (.inl rfl) _;have hgx:=h.gxlt;refine⟨h.bs.off hk fun b e hb=>?_,za7 h.ah fun b e hb=>hk.block b hb fun q=>h.xA (q▸e),h.aK,h.aR,?_,h.xK,h.xR,h.xA,h.xO⟩
 .subst e;exact⟨hgx.1,h.xK,h.xO,h.xR⟩
 .have hr:=h.row;have hC:C=(ns xs).length:=by
   obtain⟨A',c',e⟩:=hr.form;injection e
  subst hC;have:=(yhk (g:=gx) hr c (.int .i64 (v:Int))).1;unfold Ints;rw[←yf7,yjk,List.map_set];exact this
end
theorem zx9 (F:Nat->Nat) (c:Nat):lastB F 256 c<=255:=by
 show (if F 255=c then 255 else lastB F 255 c)<=255
 split
 .exact ygo _
 .exact zry F 255 c
theorem ydo {w:World} {K:Nat->Prop} {gs:Nat} {ss:List Sta} {st:Sta} {e:Ending} {w':World} (h:zz1 w K gs ss st e w') (hn:ss.Nodup):∃ K',e = .returned (.int .i64 ((idxM (zdn ss st) st:Nat):Int))∧Known w' K' gs (zdn ss st)∧(∀ b,K' b->K b∨w.heap.size<=b)∧Kept K w w':=by
 obtain⟨i,ss',K',rfl,hi,hs,hk,hK,hkp⟩:=h;have e:ss'=zdn ss st:=by
  unfold zdn;rcases hs with rfl|⟨h1,h2⟩
  .rw[if_pos (yh1 hi)]
  .rw[if_neg h1,h2]
 subst e;exact⟨K',by rw[yfh (zk2 hn st) hi],hk,hK,hkp⟩
theorem zzp (row:List Nat) (C v:Nat) (h:row.length<C):(row++List.replicate (C-row.length) 0).set row.length v=(row++[v])++List.replicate (C-(row.length+1)) 0:=by
 have e:C-row.length=(C-(row.length+1))+1:=yjz;rw[e,List.replicate_succ,yjl _ _ (ygo _),yi3];simp
theorem yap {α:Type} [DecidableEq α] (ss:List α) (t:α):(zdn ss t).length<=ss.length+1:=by
 unfold zdn;split <;> simp
theorem zwt {α:Type} [DecidableEq α] {ss:List α} {t:α} {P:α->Prop} (h:∀ s∈ss,P s) (ht:P t):∀ s∈zdn ss t,P s:=fun s hs=>by
 unfold zdn at hs;split at hs
 .exact h s hs
 .rw[yh7,yha] at hs;rcases hs with hs|rfl
  .exact h s hs
  .exact ht
end
def runN (F:Nat->Nat) (rows:List (List Nat)):List Int->Nat->Nat
 | [],s=>s
 | b::w,s=>runN F rows w ((rows.getD s []).getD (F b.toNat) 0)
structure OkM (F:Nat->Nat) (n:Nat) (rows:List (List Nat)) (outs:List (Nat×Nat)):Prop where
 cls:∀ b,b<256->F b<n
 row:∀ (i:Nat) r,rows[i]?=some r->r.length=n∧∀ t∈r,t<rows.length
 out:outs.length=rows.length
 some:0<rows.length
 few:rows.length<=100000
end Go.Proofs.Ytipfgpfplakhiaa
