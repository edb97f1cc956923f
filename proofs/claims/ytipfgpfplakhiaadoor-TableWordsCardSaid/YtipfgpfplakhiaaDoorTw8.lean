import Derived.Test.YtipfgpfplakhiaaDoorTw7
set_option linter.unusedVariables false
set_option linter.unusedSimpArgs false
set_option maxRecDepth 20000
set_option maxHeartbeats 4000000
namespace Go.Proofs.YtipfgpfplakhiaaDoor
open Go Go.RowKit
section
def outC (l:List (Nat×Nat)):List Value:=l.flatMap fun o=>[.int .u64 (o.1:Int),.int .u64 (o.2:Int)]
theorem zoa (l:List (Nat×Nat)) (o:Nat×Nat):outC (l++[o])=outC l++[.int .u64 (o.1:Int),.int .u64 (o.2:Int)]:=by simp[outC]
theorem zen:∀ (l:List (Nat×Nat)) (i:Nat) (o:Nat×Nat),l[i]?=some o->(outC l)[i*2]?=some (.int .u64 (o.1:Int))∧(outC l)[i*2+1]?=some (.int .u64 (o.2:Int))
 | [],i,o,h=>by simp at h
 | p::l,0,o,h=>by
  simp at h;subst h;exact⟨rfl,rfl⟩
 | p::l,i+1,o,h=>by
  obtain⟨h1,h2⟩:=zen l i o yit;have e:outC (p::l)=[.int .u64 (p.1:Int),.int .u64 (p.2:Int)]++outC l:=rfl;rw[e,yfc yil,yfc yil];simp only[yg7,yh5];rw[show (i+1)*2-(0+1+1)=i*2 by omega,show (i+1)*2+1-(0+1+1)=i*2+1 by omega];exact⟨h1,h2⟩
structure Nxt (w:World) (B:Nat) (O:Nat->Prop) (vN:Value) (rows:List (List Nat)):Prop where
 mem:∃ vs,vs.length=rows.length∧w.ownsRow B 68 1 vN rows.length vs∧(∀ (i:Nat) u r,vs[i]?=some u->rows[i]?=some r->Ints w B u (ns r))∧∀ u∈vs,∀ b,u.ownBlock=some b->O b
 inO:∀ b,vN.ownBlock=some b->O b
structure Ots (w:World) (B:Nat) (O:Nat->Prop) (vO:Value) (outs:List (Nat×Nat)):Prop where
 row:w.ownsRow B 49 2 vO outs.length (outC outs)
 inO:∀ b,vO.ownBlock=some b->O b
section
variable {w w':World} {B:Nat} {O O' Q:Nat->Prop} {vN vO v':Value} {rows:List (List Nat)} {outs:List (Nat×Nat)}
theorem Nxt.kept (h:Nxt w B O vN rows) (hk:Kept Q w w') (hq:∀ b,O b->¬ Q b):Nxt w' B O vN rows:=by
 obtain⟨vs,h1,h2,h3,h4⟩:=h.mem;exact⟨⟨vs,h1,za8 h2 fun b e hb=>hk.block b hb (hq b (h.inO b e)),fun i u r e1 e2=>(h3 i u r e1 e2).block fun b e hb=>hk.block b hb (hq b (h4 u (yfh e1) b e)),h4⟩,h.inO⟩
theorem Ots.kept (h:Ots w B O vO outs) (hk:Kept Q w w') (hq:∀ b,O b->¬ Q b):Ots w' B O vO outs:=⟨za8 h.row fun b e hb=>hk.block b hb (hq b (h.inO b e)),h.inO⟩
theorem Nxt.low {C:Nat} (h:Nxt w B O vN rows) (hC:C<=B):Nxt w C O vN rows:=by
 obtain⟨vs,h1,h2,h3,h4⟩:=h.mem;exact⟨⟨vs,h1,zbh h2 hC,fun i u r e1 e2=>(h3 i u r e1 e2).low hC,h4⟩,h.inO⟩
theorem Ots.low {C:Nat} (h:Ots w B O vO outs) (hC:C<=B):Ots w C O vO outs:=⟨zbh h.row hC,h.inO⟩
theorem Nxt.nil (w:World) (B:Nat) (O:Nat->Prop):Nxt w B O (.slice none 0 0) []:=⟨⟨[],rfl,yfx _ _ _ 1,fun i u r e1 e2=>by simp at e1,fun u hu=>by simp at hu⟩,fun b e=>by cases e⟩
theorem Ots.nil (w:World) (B:Nat) (O:Nat->Prop):Ots w B O (.slice none 0 0) []:=⟨yfx _ _ _ 2,fun b e=>by cases e⟩
theorem Nxt.form (h:Nxt w B O vN rows):∃ A c,vN = .slice A rows.length c:=by obtain⟨vs,h1,h2,_⟩:=h.mem;exact zas h2
theorem Ots.form (h:Ots w B O vO outs):∃ A c,vO = .slice A outs.length c:=zas h.row
theorem Nxt.in (h:Nxt w B O vN rows):∀ b,vN.ownBlock=some b->B<=b∧b<w.heap.size:=fun b e=>by obtain⟨vs,h1,h2,_⟩:=h.mem;exact yf5 h2 b e
theorem Ots.in (h:Ots w B O vO outs):∀ b,vO.ownBlock=some b->B<=b∧b<w.heap.size:=fun b e=>yf5 h.row b e
end
structure BS (w0 w:World) (gm gs:Nat) (K O:Nat->Prop) (F:Nat->Nat) (n:Int) (vN vO vr:Value) (rows:List (List Nat)) (outs:List (Nat×Nat)) (ss:List Sta) (l0:Sta):Prop where
 keep:Kept (fun b=>b=gm) w0 w
 gmlt:gm<w0.heap.size
 box:BoxM w gm 38 F n vN vO
 nxt:Nxt w w0.heap.size O vN rows
 ots:Ots w w0.heap.size O vO outs
 olt:∀ b,O b->w0.heap.size<=b∧b<w.heap.size
 kn:Known w K gs ss
 kge:∀ b,K b->w0.heap.size<=b
 room:Wds w w0.heap.size vr l0
 rK:∀ b,vr.ownBlock=some b->¬ K b
 rO:∀ b,vr.ownBlock=some b->¬ O b
 oK:∀ b,O b->¬ K b
section
variable {w0 w w':World} {gm gs:Nat} {K K' O Q:Nat->Prop} {F:Nat->Nat} {n:Int} {vN vO vr v':Value} {rows:List (List Nat)} {outs:List (Nat×Nat)} {ss ss':List Sta} {l0 l1:Sta}
theorem zgl {w:World} {B:Nat} {v:Value} {l:Sta} (h:Wds w B v l):∀ b,v.ownBlock=some b->B<=b∧b<w.heap.size:=fun b e=>yf5 h b e
theorem BS.off (h:BS w0 w gm gs K O F n vN vO vr rows outs ss l0) (hk:Kept Q w w') (hq:∀ b,Q b->b<w.heap.size->w0.heap.size<=b∧¬ K b∧¬ O b∧vr.ownBlock≠some b):BS w0 w' gm gs K O F n vN vO vr rows outs ss l0:=by
 have hs:=h.keep.size;have hg:=h.gmlt;have hqO:∀ b,O b->¬ Q b:=fun b e q=>(hq b q (h.olt b e).2).2.2.1 e
 refine⟨h.keep.trans (hk.mono (Q':=fun b=>w0.heap.size<=b) fun b e=>?_) fun b e => .inr e,h.gmlt,h.box.kept hk fun e=>?_,h.nxt.kept hk hqO,h.ots.kept hk hqO,fun b e=>⟨(h.olt b e).1,yff (h.olt b e).2 hk.size⟩,h.kn.off (Q:=fun b=>Q b∧b<w.heap.size) ?_ fun b e=>(hq b e.1 e.2).2.1,h.kge,za8 h.room fun b e hb=>hk.block b hb fun q=>(hq b q hb).2.2.2 e,h.rK,h.rO,h.oK⟩
 .by_cases hb:b<w.heap.size
  .exact .inl (hq b e hb).1
  .exact .inr yie
 .have:=(hq gm e yie).1;omega
 .exact hk.mono fun b e=>by
   by_cases hb:b<w.heap.size
   .exact .inl ⟨e,hb⟩
   .exact .inr yie
theorem BS.stays (h:BS w0 w gm gs K O F n vN vO vr rows outs ss l0) (hb:Below w.heap.size w w'):BS w0 w' gm gs K O F n vN vO vr rows outs ss l0:=h.off (Kept.of_below (fun _=>False) hb) fun b e=>e.elim
theorem BS.by' (h:BS w0 w gm gs K O F n vN vO vr rows outs ss l0) (hw:Wds w' w0.heap.size v' l1) (hk:Kept (fun b=>vr.ownBlock=some b) w w') (hv:∀ b,v'.ownBlock=some b->vr.ownBlock=some b∨w.heap.size<=b):BS w0 w' gm gs K O F n vN vO v' rows outs ss l1:=by
 have hs:=h.keep.size;have hg:=h.gmlt;have hin:=zgl h.room;have hqO:∀ b,O b->¬ vr.ownBlock=some b:=fun b e q=>h.rO b q e
 refine⟨h.keep.trans hk fun b e => .inr (hin b e).1,h.gmlt,h.box.kept hk fun e=>?_,h.nxt.kept hk hqO,h.ots.kept hk hqO,fun b e=>⟨(h.olt b e).1,yff (h.olt b e).2 hk.size⟩,h.kn.off hk fun b e=>h.rK b e,h.kge,hw,fun b e=>?_,fun b e=>?_,h.oK⟩
 .have:=(hin gm e).1;omega
 .rcases hv b e with e' | e'
  .exact h.rK b e'
  .exact fun k=>by have:=h.kn.lt b k;omega
 .rcases hv b e with e' | e'
  .exact h.rO b e'
  .exact fun k=>by have:=(h.olt b k).2;omega
theorem BS.met (h:BS w0 w gm gs K O F n vN vO vr rows outs ss l0) (hn:Known w' K' gs ss') (hk:Kept K w w') (hK:∀ b,K' b->K b∨w.heap.size<=b):BS w0 w' gm gs K' O F n vN vO vr rows outs ss' l0:=by
 have hs:=h.keep.size;have hg:=h.gmlt;refine⟨h.keep.trans hk fun b e => .inr (h.kge b e),h.gmlt,h.box.kept hk fun e=>?_,h.nxt.kept hk h.oK,h.ots.kept hk h.oK,fun b e=>⟨(h.olt b e).1,yff (h.olt b e).2 hk.size⟩,hn,fun b e=>(hK b e).elim (h.kge b) fun x=>by omega,za8 h.room fun b e hb=>hk.block b hb (h.rK b e),fun b e k=>?_,h.rO,fun b e k=>?_⟩
 .have:=h.kge gm e;omega
 .have:=(zgl h.room b e).2;exact (hK b k).elim (h.rK b e) fun x=>by omega
 .have:=(h.olt b e).2;exact (hK b k).elim (h.oK b e) fun x=>by omega
end
end
section
structure IS (w0 w:World) (gm gs:Nat) (K O:Nat->Prop) (F:Nat->Nat) (n:Int) (vN vO vr:Value) (rows:List (List Nat)) (outs:List (Nat×Nat)) (ss:List Sta) (l0:Sta) (va:Value) (al:Sta) (gx C:Nat) (xs:List Nat):Prop where
 bs:BS w0 w gm gs K O F n vN vO vr rows outs ss l0
 ah:Wds w w0.heap.size va al
 aK:∀ b,va.ownBlock=some b->¬ K b
 aR:∀ b,va.ownBlock=some b->vr.ownBlock≠some b
 row:Ints w w0.heap.size (.slice (some ⟨gx,0,none⟩) C C) (ns xs)
 xK:¬ K gx
 xR:vr.ownBlock≠some gx
 xA:va.ownBlock≠some gx
 xO:¬ O gx
section
variable {w0 w w':World} {gm gs gx C:Nat} {K K' O Q:Nat->Prop} {F:Nat->Nat} {n:Int} {vN vO vr v' va:Value} {rows:List (List Nat)} {outs:List (Nat×Nat)} {ss ss':List Sta} {l0 l1 al:Sta} {xs:List Nat}
theorem IS.gxlt (h:IS w0 w gm gs K O F n vN vO vr rows outs ss l0 va al gx C xs):w0.heap.size<=gx∧gx<w.heap.size:=yf5 h.row gx rfl
theorem IS.by' (h:IS w0 w gm gs K O F n vN vO vr rows outs ss l0 va al gx C xs) (hw:Wds w' w0.heap.size v' l1) (hk:Kept (fun b=>vr.ownBlock=some b) w w') (hv:∀ b,v'.ownBlock=some b->vr.ownBlock=some b∨w.heap.size<=b):IS w0 w' gm gs K O F n vN vO v' rows outs ss l1 va al gx C xs:=by
 refine⟨h.bs.by' hw hk hv,za8 h.ah fun b e hb=>hk.block b hb (h.aR b e),h.aK,fun b e e'=>?_,za8 h.row fun b e hb=>hk.block b hb fun q=>?_,h.xK,fun e=>?_,h.xA,h.xO⟩
 .have:=(zgl h.ah b e).2;exact (hv b e').elim (h.aR b e) fun x=>by omega
 .have e2:gx=b:=(by injection e);subst e2;exact h.xR q
 .have:=h.gxlt.2;exact (hv gx e).elim h.xR fun x=>by omega
theorem IS.met (h:IS w0 w gm gs K O F n vN vO vr rows outs ss l0 va al gx C xs) (hn:Known w' K' gs ss') (hk:Kept K w w') (hK:∀ b,K' b->K b∨w.heap.size<=b):IS w0 w' gm gs K' O F n vN vO vr rows outs ss' l0 va al gx C xs:=by
 refine⟨h.bs.met hn hk hK,za8 h.ah fun b e hb=>hk.block b hb (h.aK b e),fun b e k=>?_,h.aR,za8 h.row fun b e hb=>hk.block b hb fun q=>?_,fun k=>?_,h.xR,h.xA,h.xO⟩
 .have:=(zgl h.ah b e).2;exact (hK b k).elim (h.aK b e) fun x=>by omega
 .have e2:gx=b:=(by injection e);subst e2;exact h.xK q
 .have:=h.gxlt.2;exact (hK gx k).elim h.xK fun x=>by omega
theorem IS.cell (h:IS w0 w gm gs K O F n vN vO vr rows outs ss l0 va al gx C xs) (j:Nat) (hj:j<C):∃ y,w.cell? ⟨gx,j,none⟩=some y∧w.frozen? ⟨gx,j,none⟩=false:=by
 have hr:=h.row;have hC:C=(ns xs).length:=by
  obtain⟨A',c',e⟩:=hr.form;injection e
 subst hC;have h1:=yf7 hr j yie;rw[yey (by rw[yfr];exact hj)] at h1;exact⟨_,h1,yfw hr j⟩
theorem ydn (l:List Nat) (c v:Nat):(ns l).set c (v:Int)=ns (l.set c v):=by
 unfold ns;rw[List.map_set];rfl
theorem IS.set (h:IS w0 w gm gs K O F n vN vO vr rows outs ss l0 va al gx C xs) (c v:Nat):IS w0 (w.setCell ⟨gx,c,none⟩ (.int .i64 (v:Int))) gm gs K O F n vN vO vr rows outs ss l0 va al gx C (xs.set c v):=by
 have hk:Kept (fun b=>b=gx) w (w.setCell ⟨gx,c,none⟩ (.int .i64 (v:Int))):=(Kept.refl (fun b=>b=gx) w).setCell (a:=⟨gx,c,none⟩) (.inl rfl) _;have hgx:=h.gxlt;refine⟨h.bs.off hk fun b e hb=>?_,za8 h.ah fun b e hb=>hk.block b hb fun q=>h.xA (q▸e),h.aK,h.aR,?_,h.xK,h.xR,h.xA,h.xO⟩
 .subst e;exact⟨hgx.1,h.xK,h.xO,h.xR⟩
 .have hr:=h.row;have hC:C=(ns xs).length:=by
   obtain⟨A',c',e⟩:=hr.form;injection e
  subst hC;have:=(yg1 (g:=gx) hr c (.int .i64 (v:Int))).1;unfold Ints;rw[←ydn,List.length_set,List.map_set];exact this
end
theorem zwe (F:Nat->Nat) (c:Nat):lastB F 256 c<=255:=by
 show (if F 255=c then 255 else lastB F 255 c)<=255
 split
 .exact yez _
 .exact zrl F 255 c
theorem ybt {w:World} {K:Nat->Prop} {gs:Nat} {ss:List Sta} {st:Sta} {e:Ending} {w':World} (h:zxs w K gs ss st e w') (hn:ss.Nodup):∃ K',e = .returned (.int .i64 ((idxM (ze7 ss st) st:Nat):Int))∧Known w' K' gs (ze7 ss st)∧(∀ b,K' b->K b∨w.heap.size<=b)∧Kept K w w':=by
 obtain⟨i,ss',K',rfl,hi,hs,hk,hK,hkp⟩:=h;have e:ss'=ze7 ss st:=by
  unfold ze7;rcases hs with rfl|⟨h1,h2⟩
  .rw[if_pos (yfh hi)]
  .rw[if_neg h1,h2]
 subst e;exact⟨K',by rw[ydx (zjh hn st) hi],hk,hK,hkp⟩
theorem zye (row:List Nat) (C v:Nat) (h:row.length<C):(row++List.replicate (C-row.length) 0).set row.length v=(row++[v])++List.replicate (C-(row.length+1)) 0:=by
 have e:C-row.length=(C-(row.length+1))+1:=yie;rw[e,List.replicate_succ,List.set_append_right _ _ (yez _),ygf];simp
theorem zz2 {α:Type} [DecidableEq α] (ss:List α) (t:α):(ze7 ss t).length<=ss.length+1:=by
 unfold ze7;split <;> simp
theorem zvx {α:Type} [DecidableEq α] {ss:List α} {t:α} {P:α->Prop} (h:∀ s∈ss,P s) (ht:P t):∀ s∈ze7 ss t,P s:=fun s hs=>by
 unfold ze7 at hs;split at hs
 .exact h s hs
 .rw[yfm,yfn] at hs;rcases hs with hs|rfl
  .exact h s hs
  .exact ht
end
def runN (F:Nat->Nat) (rows:List (List Nat)):List Int->Nat->Nat
 | [],s=>s
 | b::w,s=>runN F rows w ((rows.getD s []).getD (F b.toNat) 0)
theorem BoxO.far' {w w':World} {g:Nat} {a b:Value} (h:BoxO w g a b) (hb:Below w.heap.size w w'):BoxO w' g a b:=(hb.block g (za0 h)).trans h
structure OkM (F:Nat->Nat) (n:Nat) (rows:List (List Nat)) (outs:List (Nat×Nat)):Prop where
 cls:∀ b,b<256->F b<n
 row:∀ (i:Nat) r,rows[i]?=some r->r.length=n∧∀ t∈r,t<rows.length
 out:outs.length=rows.length
 some:0<rows.length
 few:rows.length<=100000
theorem ydo {w:World} {B B' n c:Nat} {O O':Nat->Prop} {F:Nat->Nat} {vN vO:Value} {rows:List (List Nat)} {outs:List (Nat×Nat)} {A:Option Addr} {xs:List Int} (hm:OkM F n rows outs) (hN:Nxt w B O vN rows) (hO:Ots w B' O' vO outs) (hx:RdB w w.heap.size A xs) (hby:∀ k,k<xs.length->0<=xs.getD k 0∧xs.getD k 0<=255) (hl:xs.length<=9223372036854775807):
 Calls Tryd.prog 13 #[.agg (zaf F n vN vO),.slice A xs.length c] w fun e w'=>(e = .returned (.agg #[.int .u64 ((outs.getD (runN F rows xs 0) (0,0)).1:Int),.int .u64 ((outs.getD (runN F rows xs 0) (0,0)).2:Int)]))∧Below w.heap.size w w':=by
 obtain⟨vs,n1,n2,n3,n4⟩:=hN.mem;obtain⟨An,cn,hfn⟩:=hN.form;obtain⟨Ao,co,hfo⟩:=hO.form;subst hfn hfo;obtain⟨S,hS⟩:∃ S,rows.length=S:=⟨_,rfl⟩;obtain⟨N,hNN⟩:∃ N,xs.length=N:=⟨_,rfl⟩;have hol:=hm.out;have hor:=hO.row;have hS0:=hm.some;have hSf:=hm.few;rw[hS] at hol hS0 n2 hSf;rw[hol] at hor;rw[hS,hol];rw[hNN] at hl ⊢;have hbx:=BoxM.new w 38 F (n:Int) (.slice An S cn) (.slice Ao S co);have hb1:Below w.heap.size w (w.alloc (.cells (zaf F n (.slice An S cn) (.slice Ao S co)) 38)):=(yf6 _ _).alloc (yez _) _;obtain⟨w1,hw1⟩:∃ w1,w.alloc (.cells (zaf F n (.slice An S cn) (.slice Ao S co)) 38)=w1:=⟨_,rfl⟩;have hs1:w1.heap.size=w.heap.size+1:=(by rw[←hw1];simp);rw[hw1] at hbx hb1;have HW1:=Zh hw1;have HBX:=Zh hbx;have HB1:=Zh hb1;have HX:=Zh hx;have HBY:=Zh hby;have HN:=Zh hNN;have HRL:=Zh hS;have HVL:=Zh n1;have HV2:=Zh n2;have HV3:=Zh n3;have HROK:=Zh hm.row;have HF:=Zh hm.cls;have HOL:=Zh hol;have HO:=Zh hor;clear hw1 hbx hb1 hx hby hNN hS n1 n2 n3 n4 hm hol hor hN hO;go_enter Tryd.func13,Tryd.ntmps13;go_upto_region 1 with fail
 rw[HW1.o];have hbo2:BoxO (w1.alloc (.cells #[.int .u64 0,.int .u64 0] 49)) (w.heap.size+1) (.int .u64 0) (.int .u64 0):=BoxO.new w1 _ _ _ hs1;have hb2:Below w1.heap.size w1 (w1.alloc (.cells #[.int .u64 0,.int .u64 0] 49)):=(yf6 _ _).alloc (yez _) _;generalize w1.alloc (.cells #[.int .u64 0,.int .u64 0] 49)=w2 at *;have HBX2:=Zh (HBX.o.stays hb2);have HB2:=Zh (gro HB1.o hb2);have HBO:=Zh hbo2;clear HBX HB1 hbo2 hb2 hs1 HW1;have HBX:=HBX2;have hS0':0<S:=hS0;go_wp2;go_loopg [5,10] N (fun mm s i wr=>∃ (st k:Nat),s = .int .i64 (st:Int)∧i = .int .i64 (k:Int)∧k<=N∧mm=N-k∧st<S∧runN F rows (xs.drop k) st=runN F rows xs 0∧Below w2.heap.size w2 wr)
 case atStart=>exact⟨0,0,by first | rfl | trivial,by first | rfl | trivial,yf8 _,by first | rfl | trivial,hS0',rfl,yf6 _ _⟩
 case round =>
  obtain⟨st,k,rfl,rfl,hk,hmk,hst,hru,hbw⟩:=hrel;have HMK:=Zh hmk;have HST:=Zh hst;have HRUN:=Zh hru;have HBW:=Zh hbw;have HB:=Zh (HB2.o.trans (hbw.mono HB2.o.size));clear hmk hst hru hbw
  by_cases hkN:k<N
  .have hst:=HST.o;obtain⟨r,hr⟩:∃ r,rows[st]?=some r:=⟨_,yey (by rw[HRL.o];exact hst)⟩;obtain⟨u,hu⟩:∃ u,vs[st]?=some u:=⟨_,yey (by rw[HVL.o,HRL.o];exact hst)⟩;obtain⟨gb,off,rfl,hgb,zb⟩:=HX.o k (by rw[HN.o];exact hkN);have zb:=(HB.o.cell (p:=⟨gb,off+k,none⟩) hgb).trans zb;have hbb:=HBY.o k (by rw[HN.o];exact hkN);obtain⟨b,hb⟩:∃ b:Nat,xs.getD k 0=(b:Int):=⟨(xs.getD k 0).toNat,by omega⟩;rw[hb] at zb hbb;have hrow:=za6 (HV3.o st u r hu hr) HB.o;rw[zaj] at hrow;obtain⟨hrl,hre⟩:=HROK.o st r hr;have hfb:=HF.o b yie;obtain⟨t,ht⟩:∃ t,r[F b]?=some t:=⟨_,yey yie⟩;have htS:=hre t (yfh ht);obtain⟨Au,cu,hfu⟩:=zas hrow;subst hfu;have hv2:=za6 HV2.o HB.o;obtain⟨gn,rfl⟩:∃ g,An=some ⟨g,0,none⟩:=by
    rcases hv2.2 with ⟨_,h0⟩|⟨g,cap,cur,e,_⟩
    .omega
    .injection e with e1;exact⟨g,e1⟩
   obtain⟨gu,rfl⟩:∃ g,Au=some ⟨g,0,none⟩:=by
    rcases hrow.2 with ⟨_,h0⟩|⟨g,cap,cur,e,_⟩
    .omega
    .injection e with e1;exact⟨g,e1⟩
   have c1:wr.cell? ⟨gn,st,none⟩=some (.slice (some ⟨gu,0,none⟩) r.length cu):=(yf7 hv2 st yie).trans hu;have c2:wr.cell? ⟨gu,F b,none⟩=some (.int .i64 (t:Int)):=by
    rw[yf7 hrow (F b) yie];simp[ns,ht]
   have hbx:=HBX.o.stays HBW.o;have c3:=hbx.nxt;have c4:=hbx.cls b yie;have hrun:=HRUN.o;have hgd:rows.getD st []=r:=(by rw[yf0,hr];rfl);have hgt:r.getD (F b) 0=t:=(by rw[yf0,ht];rfl);have hxd:xs.drop k=(b:Int)::xs.drop (k+1):=by
    rw[yge (show k<xs.length by rw[HN.o];exact hkN)];rw[←hb,yf0,yey (show k<xs.length by rw[HN.o];exact hkN)];rfl
   rw[hxd,runN,yft,hgd,hgt] at hrun;have HRUN2:=Zh hrun;obtain⟨fb,hfbe⟩:∃ f,F b=f:=⟨_,rfl⟩;rw[hfbe] at c2 c4 hfb;have hrl':r.length=n:=hrl;obtain⟨rl,hrle⟩:∃ x,r.length=x:=⟨_,rfl⟩;rw[hrle] at c1 hrl';have i0:(0:Int)<=(k:Int):=yie;have i1:(k:Int)<(N:Int):=yie;have i2:(0:Int)<=(st:Int):=yie;have i3:(st:Int)<(S:Int):=yie;have i4:(0:Int)<=(fb:Int):=yie;have i5:(fb:Int)<(rl:Int):=yie;have i6:(0:Int)<=(b:Int):=yie;have i7:(b:Int)<256:=yie;clear hgd hgt hr hu hb hrow hrl hre ht hv2 hbx hrun hxd hfbe hrle hgb hst;go_wp2;go_quiet (fail);go_wp2;go_roundg (N-(k+1))
   case measure=>have:=HMK.o;omega
   case rel=>exact⟨t,k+1,by first | rfl | trivial,by go_num,by omega,rfl,by rw[←HRL.o];exact htS,HRUN2.o,zbg HBW.o nq⟩
  .have hkl:k=N:=yie;subst hkl;have hst:=HST.o;have hrun:=HRUN.o;rw[List.drop_of_length_le (by rw[HN.o];exact yez _),runN] at hrun;obtain⟨o,ho⟩:∃ o,outs[st]?=some o:=⟨_,yey (by rw[HOL.o];exact hst)⟩;have hor:=za6 HO.o HB.o;obtain⟨go,rfl⟩:∃ g,Ao=some ⟨g,0,none⟩:=by
    rcases hor.2 with ⟨_,h0⟩|⟨g,cap,cur,e,_⟩
    .omega
    .injection e with e1;exact⟨g,e1⟩
   obtain⟨o0,o1⟩:=zen outs st o ho;have d0:wr.cell? ⟨go,st*2,none⟩=some (.int .u64 (o.1:Int)):=(yf7 hor (st*2) yie).trans o0;have d1:wr.cell? ⟨go,st*2+1,none⟩=some (.int .u64 (o.2:Int)):=(yf7 hor (st*2+1) yie).trans o1;have hbx:=HBX.o.stays HBW.o;have c4:=hbx.out;have hbo:=HBO.o.far' HBW.o;obtain⟨q0,q1⟩:=hbo.cell;obtain⟨f2,f3⟩:=hbo.frozen;have HE:=Zh (show outs.getD (runN F rows xs 0) (0,0)=o by rw[←hrun,yf0,ho];rfl);have i2:(0:Int)<=(st:Int):=yie;have i3:(st:Int)<(S:Int):=yie;have HBOF:=Zh hbo;clear hst hrun ho hor o0 o1 hbx hbo;go_wp2;have bF:=(HBOF.o.put0 (.int .u64 (o.1:Int))).put1 (.int .u64 (o.2:Int));obtain⟨y0,y1⟩:=bF.cell;refine bodyPost_ret (v := .agg #[.int .u64 (o.1:Int),.int .u64 (o.2:Int)]) ?_ rfl ⟨by rw[HE.o],(HB.o.setCell (p:=⟨w.heap.size+1,0,none⟩) (Nat.le_succ _) _).setCell (p:=⟨w.heap.size+1,1,none⟩) (Nat.le_succ _) _⟩;simp[results,Tryd.results13,go_sem,y0,y1]
end Go.Proofs.YtipfgpfplakhiaaDoor
