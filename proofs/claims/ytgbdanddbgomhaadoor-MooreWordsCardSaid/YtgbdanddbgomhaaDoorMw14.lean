import Derived.Test.YtgbdanddbgomhaaDoorMw13
set_option linter.unusedVariables false
set_option linter.unusedSimpArgs false
namespace Go.Proofs.YtgbdanddbgomhaaDoor
open Go Go.RowKit
section
def outC (l:List (Nat×Nat)):List Value:=l.flatMap fun o=>[.int .u64 (o.1:Int),.int .u64 (o.2:Int)]
theorem zq3 (l:List (Nat×Nat)) (o:Nat×Nat):outC (l++[o])=outC l++[.int .u64 (o.1:Int),.int .u64 (o.2:Int)]:=by simp[outC]
theorem zlr:∀ (l:List (Nat×Nat)) (i:Nat) (o:Nat×Nat),l[i]?=some o->(outC l)[i*2]?=some (.int .u64 (o.1:Int))∧(outC l)[i*2+1]?=some (.int .u64 (o.2:Int))
 | [],i,o,h=>by simp at h
 | p::l,0,o,h=>by
   simp at h;subst h;exact⟨rfl,rfl⟩
 | p::l,i+1,o,h=>by
   obtain⟨h1,h2⟩:=zlr l i o (by simpa using h);have e:outC (p::l)=[.int .u64 (p.1:Int),.int .u64 (p.2:Int)]++outC l:=rfl;rw[e,List.getElem?_append_right (by simp;omega),List.getElem?_append_right (by simp;omega)];simp only[List.length_cons,List.length_nil];rw[show (i+1)*2-(0+1+1)=i*2 by omega,show (i+1)*2+1-(0+1+1)=i*2+1 by omega];exact⟨h1,h2⟩
structure Nxt (w:World) (B:Nat) (O:Nat->Prop) (vN:Value) (rows:List (List Nat)):Prop where
 mem:∃ vs,vs.length=rows.length∧w.ownsRow B 38 1 vN rows.length vs∧(∀ (i:Nat) u r,vs[i]?=some u->rows[i]?=some r->Ints w B u (ns r))∧∀ u∈vs,∀ b,u.ownBlock=some b->O b
 inO:∀ b,vN.ownBlock=some b->O b
structure Ots (w:World) (B:Nat) (O:Nat->Prop) (vO:Value) (outs:List (Nat×Nat)):Prop where
 row:w.ownsRow B 123 2 vO outs.length (outC outs)
 inO:∀ b,vO.ownBlock=some b->O b
section
variable {w w':World} {B:Nat} {O O' Q:Nat->Prop} {vN vO v':Value} {rows:List (List Nat)} {outs:List (Nat×Nat)}
theorem Nxt.kept (h:Nxt w B O vN rows) (hk:Kept Q w w') (hq:∀ b,O b->¬ Q b):Nxt w' B O vN rows:=by
 obtain⟨vs,h1,h2,h3,h4⟩:=h.mem;exact⟨⟨vs,h1,za3 h2 fun b e hb=>hk.block b hb (hq b (h.inO b e)),fun i u r e1 e2=>(h3 i u r e1 e2).block fun b e hb=>hk.block b hb (hq b (h4 u (List.mem_of_getElem? e1) b e)),h4⟩,h.inO⟩
theorem Ots.kept (h:Ots w B O vO outs) (hk:Kept Q w w') (hq:∀ b,O b->¬ Q b):Ots w' B O vO outs:=⟨za3 h.row fun b e hb=>hk.block b hb (hq b (h.inO b e)),h.inO⟩
theorem Nxt.low {C:Nat} (h:Nxt w B O vN rows) (hC:C<=B):Nxt w C O vN rows:=by
 obtain⟨vs,h1,h2,h3,h4⟩:=h.mem;exact⟨⟨vs,h1,zap h2 hC,fun i u r e1 e2=>(h3 i u r e1 e2).low hC,h4⟩,h.inO⟩
theorem Ots.low {C:Nat} (h:Ots w B O vO outs) (hC:C<=B):Ots w C O vO outs:=⟨zap h.row hC,h.inO⟩
theorem Nxt.nil (w:World) (B:Nat) (O:Nat->Prop):Nxt w B O (.slice none 0 0) []:=⟨⟨[],rfl,World.ownsRow_nil _ _ _ 1,fun i u r e1 e2=>by simp at e1,fun u hu=>by simp at hu⟩,fun b e=>by cases e⟩
theorem Ots.nil (w:World) (B:Nat) (O:Nat->Prop):Ots w B O (.slice none 0 0) []:=⟨World.ownsRow_nil _ _ _ 2,fun b e=>by cases e⟩
theorem Nxt.form (h:Nxt w B O vN rows):∃ A c,vN = .slice A rows.length c:=by obtain⟨vs,h1,h2,_⟩:=h.mem;exact zam h2
theorem Ots.form (h:Ots w B O vO outs):∃ A c,vO = .slice A outs.length c:=zam h.row
end
structure BS (w0 w:World) (gm gs:Nat) (K O:Nat->Prop) (F:Nat->Nat) (n:Int) (vN vO vr:Value) (rows:List (List Nat)) (outs:List (Nat×Nat)) (ss:List Sta) (l0:Sta):Prop where
 keep:Kept (fun b=>b=gm) w0 w
 gmlt:gm<w0.heap.size
 box:BoxM w gm 60 F n vN vO
 nxt:Nxt w w0.heap.size O vN rows
 ots:Ots w w0.heap.size O vO outs
 olt:∀ b,O b->w0.heap.size<=b∧b<w.heap.size
 kn:Known w K gs ss
 kge:∀ b,K b->w0.heap.size<=b
 room:Wds w w0.heap.size vr l0
 rK:∀ b,vr.ownBlock=some b->¬ K b
 rO:∀ b,vr.ownBlock=some b->¬ O b
 oK:∀ b,O b->¬ K b
section
variable {w0 w w':World} {gm gs:Nat} {K K' O Q:Nat->Prop} {F:Nat->Nat} {n:Int} {vN vO vr v':Value} {rows:List (List Nat)} {outs:List (Nat×Nat)} {ss ss':List Sta} {l0 l1:Sta}
theorem zdg {w:World} {B:Nat} {v:Value} {l:Sta} (h:Wds w B v l):∀ b,v.ownBlock=some b->B<=b∧b<w.heap.size:=fun b e=>World.ownsRow.lt h b e
theorem BS.off (h:BS w0 w gm gs K O F n vN vO vr rows outs ss l0) (hk:Kept Q w w') (hq:∀ b,Q b->b<w.heap.size->w0.heap.size<=b∧¬ K b∧¬ O b∧vr.ownBlock≠some b):BS w0 w' gm gs K O F n vN vO vr rows outs ss l0:=by
 have hs:=h.keep.size;have hg:=h.gmlt;have hqO:∀ b,O b->¬ Q b:=fun b e q=>(hq b q (h.olt b e).2).2.2.1 e
 refine⟨h.keep.trans (hk.mono (Q':=fun b=>w0.heap.size<=b) fun b e=>?_) fun b e => .inr e,h.gmlt,h.box.kept hk fun e=>?_,h.nxt.kept hk hqO,h.ots.kept hk hqO,fun b e=>⟨(h.olt b e).1,Nat.lt_of_lt_of_le (h.olt b e).2 hk.size⟩,h.kn.off (Q:=fun b=>Q b∧b<w.heap.size) ?_ fun b e=>(hq b e.1 e.2).2.1,h.kge,za3 h.room fun b e hb=>hk.block b hb fun q=>(hq b q hb).2.2.2 e,h.rK,h.rO,h.oK⟩
 . by_cases hb:b<w.heap.size
   . exact .inl (hq b e hb).1
   . exact .inr (by omega)
 . have:=(hq gm e (by omega)).1;omega
 . exact hk.mono fun b e=>by
     by_cases hb:b<w.heap.size
     . exact .inl ⟨e,hb⟩
     . exact .inr (by omega)
theorem BS.stays (h:BS w0 w gm gs K O F n vN vO vr rows outs ss l0) (hb:Below w.heap.size w w'):BS w0 w' gm gs K O F n vN vO vr rows outs ss l0:=h.off (Kept.of_below (fun _=>False) hb) fun b e=>e.elim
theorem BS.by' (h:BS w0 w gm gs K O F n vN vO vr rows outs ss l0) (hw:Wds w' w0.heap.size v' l1) (hk:Kept (fun b=>vr.ownBlock=some b) w w') (hv:∀ b,v'.ownBlock=some b->vr.ownBlock=some b∨w.heap.size<=b):BS w0 w' gm gs K O F n vN vO v' rows outs ss l1:=by
 have hs:=h.keep.size;have hg:=h.gmlt;have hin:=zdg h.room;have hqO:∀ b,O b->¬ vr.ownBlock=some b:=fun b e q=>h.rO b q e
 refine⟨h.keep.trans hk fun b e => .inr (hin b e).1,h.gmlt,h.box.kept hk fun e=>?_,h.nxt.kept hk hqO,h.ots.kept hk hqO,fun b e=>⟨(h.olt b e).1,Nat.lt_of_lt_of_le (h.olt b e).2 hk.size⟩,h.kn.off hk fun b e=>h.rK b e,h.kge,hw,fun b e=>?_,fun b e=>?_,h.oK⟩
 . have:=(hin gm e).1;omega
 . rcases hv b e with e' | e'
   . exact h.rK b e'
   . exact fun k=>by have:=h.kn.lt b k;omega
 . rcases hv b e with e' | e'
   . exact h.rO b e'
   . exact fun k=>by have:=(h.olt b k).2;omega
theorem BS.met (h:BS w0 w gm gs K O F n vN vO vr rows outs ss l0) (hn:Known w' K' gs ss') (hk:Kept K w w') (hK:∀ b,K' b->K b∨w.heap.size<=b):BS w0 w' gm gs K' O F n vN vO vr rows outs ss' l0:=by
 have hs:=h.keep.size;have hg:=h.gmlt;refine⟨h.keep.trans hk fun b e => .inr (h.kge b e),h.gmlt,h.box.kept hk fun e=>?_,h.nxt.kept hk h.oK,h.ots.kept hk h.oK,fun b e=>⟨(h.olt b e).1,Nat.lt_of_lt_of_le (h.olt b e).2 hk.size⟩,hn,fun b e=>(hK b e).elim (h.kge b) fun x=>by omega,za3 h.room fun b e hb=>hk.block b hb (h.rK b e),fun b e k=>?_,h.rO,fun b e k=>?_⟩
 . have:=h.kge gm e;omega
 . have:=(zdg h.room b e).2;exact (hK b k).elim (h.rK b e) fun x=>by omega
 . have:=(h.olt b e).2;exact (hK b k).elim (h.oK b e) fun x=>by omega
end
end
section
structure IS (w0 w:World) (gm gs:Nat) (K O:Nat->Prop) (F:Nat->Nat) (n:Int) (vN vO vr:Value) (rows:List (List Nat)) (outs:List (Nat×Nat)) (ss:List Sta) (l0:Sta) (va:Value) (al:Sta) (gx C:Nat) (xs:List Nat):Prop where
 bs:BS w0 w gm gs K O F n vN vO vr rows outs ss l0
 ah:Wds w w0.heap.size va al
 aK:∀ b,va.ownBlock=some b->¬ K b
 aR:∀ b,va.ownBlock=some b->vr.ownBlock≠some b
 row:Ints w w0.heap.size (.slice (some ⟨gx,0,none⟩) C C) (ns xs)
 xK:¬ K gx
 xR:vr.ownBlock≠some gx
 xA:va.ownBlock≠some gx
 xO:¬ O gx
section
variable {w0 w w':World} {gm gs gx C:Nat} {K K' O Q:Nat->Prop} {F:Nat->Nat} {n:Int} {vN vO vr v' va:Value} {rows:List (List Nat)} {outs:List (Nat×Nat)} {ss ss':List Sta} {l0 l1 al:Sta} {xs:List Nat}
theorem IS.gxlt (h:IS w0 w gm gs K O F n vN vO vr rows outs ss l0 va al gx C xs):w0.heap.size<=gx∧gx<w.heap.size:=World.ownsRow.lt h.row gx rfl
theorem IS.by' (h:IS w0 w gm gs K O F n vN vO vr rows outs ss l0 va al gx C xs) (hw:Wds w' w0.heap.size v' l1) (hk:Kept (fun b=>vr.ownBlock=some b) w w') (hv:∀ b,v'.ownBlock=some b->vr.ownBlock=some b∨w.heap.size<=b):IS w0 w' gm gs K O F n vN vO v' rows outs ss l1 va al gx C xs:=by
 refine⟨h.bs.by' hw hk hv,za3 h.ah fun b e hb=>hk.block b hb (h.aR b e),h.aK,fun b e e'=>?_,za3 h.row fun b e hb=>hk.block b hb fun q=>?_,h.xK,fun e=>?_,h.xA,h.xO⟩
 . have:=(zdg h.ah b e).2;exact (hv b e').elim (h.aR b e) fun x=>by omega
 . have e2:gx=b:=(by injection e);subst e2;exact h.xR q
 . have:=h.gxlt.2;exact (hv gx e).elim h.xR fun x=>by omega
theorem IS.met (h:IS w0 w gm gs K O F n vN vO vr rows outs ss l0 va al gx C xs) (hn:Known w' K' gs ss') (hk:Kept K w w') (hK:∀ b,K' b->K b∨w.heap.size<=b):IS w0 w' gm gs K' O F n vN vO vr rows outs ss' l0 va al gx C xs:=by
 refine⟨h.bs.met hn hk hK,za3 h.ah fun b e hb=>hk.block b hb (h.aK b e),fun b e k=>?_,h.aR,za3 h.row fun b e hb=>hk.block b hb fun q=>?_,fun k=>?_,h.xR,h.xA,h.xO⟩
 . have:=(zdg h.ah b e).2;exact (hK b k).elim (h.aK b e) fun x=>by omega
 . have e2:gx=b:=(by injection e);subst e2;exact h.xK q
 . have:=h.gxlt.2;exact (hK gx k).elim h.xK fun x=>by omega
theorem IS.cell (h:IS w0 w gm gs K O F n vN vO vr rows outs ss l0 va al gx C xs) (j:Nat) (hj:j<C):∃ y,w.cell? ⟨gx,j,none⟩=some y∧w.frozen? ⟨gx,j,none⟩=false:=by
 have hr:=h.row;have hC:C=(ns xs).length:=by
   obtain⟨A',c',e⟩:=hr.form;injection e
 subst hC;have h1:=World.ownsRow.cellAt hr j (by omega);rw[List.getElem?_eq_getElem (by rw[List.length_map];exact hj)] at h1;exact⟨_,h1,World.ownsRow.frozenAt hr j⟩
theorem zwi (l:List Nat) (c v:Nat):(ns l).set c (v:Int)=ns (l.set c v):=by
 unfold ns;rw[List.map_set];rfl
theorem IS.set (h:IS w0 w gm gs K O F n vN vO vr rows outs ss l0 va al gx C xs) (c v:Nat):IS w0 (w.setCell ⟨gx,c,none⟩ (.int .i64 (v:Int))) gm gs K O F n vN vO vr rows outs ss l0 va al gx C (xs.set c v):=by
 have hk:Kept (fun b=>b=gx) w (w.setCell ⟨gx,c,none⟩ (.int .i64 (v:Int))):=(Kept.refl (fun b=>b=gx) w).setCell (a:=⟨gx,c,none⟩) (.inl rfl) _;have hgx:=h.gxlt;refine⟨h.bs.off hk fun b e hb=>?_,za3 h.ah fun b e hb=>hk.block b hb fun q=>h.xA (q▸e),h.aK,h.aR,?_,h.xK,h.xR,h.xA,h.xO⟩
 . subst e;exact⟨hgx.1,h.xK,h.xO,h.xR⟩
 . have hr:=h.row;have hC:C=(ns xs).length:=by
     obtain⟨A',c',e⟩:=hr.form;injection e
   subst hC;have:=(World.ownsRow.stored (g:=gx) hr c (.int .i64 (v:Int))).1;unfold Ints;rw[←zwi,List.length_set,List.map_set];exact this
end
theorem zqt (F:Nat->Nat) (c:Nat):lastB F 256 c<=255:=by
 show (if F 255=c then 255 else lastB F 255 c)<=255
 split
 . exact Nat.le_refl _
 . exact zm7 F 255 c
theorem zvc {w:World} {K:Nat->Prop} {gs:Nat} {ss:List Sta} {st:Sta} {e:Ending} {w':World} (h:RetMeet w K gs ss st e w') (hn:ss.Nodup):∃ K',e = .returned (.int .i64 ((idxM (meetL ss st) st:Nat):Int))∧Known w' K' gs (meetL ss st)∧(∀ b,K' b->K b∨w.heap.size<=b)∧Kept K w w':=by
 obtain⟨i,ss',K',rfl,hi,hs,hk,hK,hkp⟩:=h;have e:ss'=meetL ss st:=by
   unfold meetL;rcases hs with rfl|⟨h1,h2⟩
   . rw[if_pos (List.mem_of_getElem? hi)]
   . rw[if_neg h1,h2]
 subst e;exact⟨K',by rw[zwt (zfg hn st) hi],hk,hK,hkp⟩
theorem zsr (row:List Nat) (C v:Nat) (h:row.length<C):(row++List.replicate (C-row.length) 0).set row.length v=(row++[v])++List.replicate (C-(row.length+1)) 0:=by
 have e:C-row.length=(C-(row.length+1))+1:=(by omega);rw[e,List.replicate_succ,List.set_append_right _ _ (Nat.le_refl _),Nat.sub_self];simp
theorem ztb {α:Type} [DecidableEq α] (ss:List α) (t:α):(meetL ss t).length<=ss.length+1:=by
 unfold meetL;split <;> simp
theorem zqj {α:Type} [DecidableEq α] {ss:List α} {t:α} {P:α->Prop} (h:∀ s∈ss,P s) (ht:P t):∀ s∈meetL ss t,P s:=fun s hs=>by
 unfold meetL at hs;split at hs
 . exact h s hs
 . rw[List.mem_append,List.mem_singleton] at hs;rcases hs with hs|rfl
   . exact h s hs
   . exact ht
end
def runN (F:Nat->Nat) (rows:List (List Nat)):List Int->Nat->Nat
 | [],s=>s
 | b::w,s=>runN F rows w ((rows.getD s []).getD (F b.toNat) 0)
theorem BoxO.far' {w w':World} {g:Nat} {a b:Value} (h:BoxO w g a b) (hb:Below w.heap.size w w'):BoxO w' g a b:=(hb.block g (za0 h)).trans h
structure OkM (F:Nat->Nat) (n:Nat) (rows:List (List Nat)) (outs:List (Nat×Nat)):Prop where
 cls:∀ b,b<256->F b<n
 row:∀ (i:Nat) r,rows[i]?=some r->r.length=n∧∀ t∈r,t<rows.length
 out:outs.length=rows.length
 some:0<rows.length
 few:rows.length<=100000
set_option maxRecDepth 20000 in
set_option maxHeartbeats 2000000 in
theorem zwm {w:World} {B B' n c:Nat} {O O':Nat->Prop} {F:Nat->Nat} {vN vO:Value} {rows:List (List Nat)} {outs:List (Nat×Nat)} {A:Option Addr} {xs:List Int} (hm:OkM F n rows outs) (hN:Nxt w B O vN rows) (hO:Ots w B' O' vO outs) (hx:RdB w w.heap.size A xs) (hby:∀ k,k<xs.length->0<=xs.getD k 0∧xs.getD k 0<=255) (hl:xs.length<=9223372036854775807):
   Calls Tryd.prog 53 #[.agg (machC F n vN vO),.slice A xs.length c] w fun e w'=>(e = .returned (.agg #[.int .u64 ((outs.getD (runN F rows xs 0) (0,0)).1:Int),.int .u64 ((outs.getD (runN F rows xs 0) (0,0)).2:Int)]))∧Below w.heap.size w w':=by
 obtain⟨vs,n1,n2,n3,n4⟩:=hN.mem;obtain⟨An,cn,hfn⟩:=hN.form;obtain⟨Ao,co,hfo⟩:=hO.form;subst hfn hfo;obtain⟨S,hS⟩:∃ S,rows.length=S:=⟨_,rfl⟩;obtain⟨N,hNN⟩:∃ N,xs.length=N:=⟨_,rfl⟩;have hol:=hm.out;have hor:=hO.row;have hS0:=hm.some;have hSf:=hm.few;rw[hS] at hol hS0 n2 hSf;rw[hol] at hor;rw[hS,hol];rw[hNN] at hl ⊢;have hbx:=BoxM.new w 60 F (n:Int) (.slice An S cn) (.slice Ao S co);have hb1:Below w.heap.size w (w.alloc (.cells (machC F n (.slice An S cn) (.slice Ao S co)) 60)):=(Below.refl _ _).alloc (Nat.le_refl _) _;obtain⟨w1,hw1⟩:∃ w1,w.alloc (.cells (machC F n (.slice An S cn) (.slice Ao S co)) 60)=w1:=⟨_,rfl⟩;have hs1:w1.heap.size=w.heap.size+1:=(by rw[←hw1];simp);rw[hw1] at hbx hb1;have HW1:=Zh hw1;have HBX:=Zh hbx;have HB1:=Zh hb1;have HX:=Zh hx;have HBY:=Zh hby;have HN:=Zh hNN;have HRL:=Zh hS;have HVL:=Zh n1;have HV2:=Zh n2;have HV3:=Zh n3;have HROK:=Zh hm.row;have HF:=Zh hm.cls;have HOL:=Zh hol;have HO:=Zh hor;clear hw1 hbx hb1 hx hby hNN hS n1 n2 n3 n4 hm hol hor hN hO;go_enter Tryd.func53,Tryd.ntmps53;go_upto_region 1 with fail
 rw[HW1.out];have hbo2:BoxO (w1.alloc (.cells #[.int .u64 0,.int .u64 0] 123)) (w.heap.size+1) (.int .u64 0) (.int .u64 0):=BoxO.new w1 _ _ _ hs1;have hb2:Below w1.heap.size w1 (w1.alloc (.cells #[.int .u64 0,.int .u64 0] 123)):=(Below.refl _ _).alloc (Nat.le_refl _) _;generalize w1.alloc (.cells #[.int .u64 0,.int .u64 0] 123)=w2 at *;have HBX2:=Zh (HBX.out.stays hb2);have HB2:=Zh (gro HB1.out hb2);have HBO:=Zh hbo2;clear HBX HB1 hbo2 hb2 hs1 HW1;have HBX:=HBX2;have hS0':0<S:=hS0;go_wp2;go_loopg [5,10] N (fun mm s i wr=>∃ (st k:Nat),s = .int .i64 (st:Int)∧i = .int .i64 (k:Int)∧k<=N∧mm=N-k∧st<S∧runN F rows (xs.drop k) st=runN F rows xs 0∧Below w2.heap.size w2 wr)
 case atStart=>exact⟨0,0,by first | rfl | trivial,by first | rfl | trivial,Nat.zero_le _,by first | rfl | trivial,hS0',rfl,Below.refl _ _⟩
 case round =>
   obtain⟨st,k,rfl,rfl,hk,hmk,hst,hru,hbw⟩:=hrel;have HMK:=Zh hmk;have HST:=Zh hst;have HRUN:=Zh hru;have HBW:=Zh hbw;have HB:=Zh (HB2.out.trans (hbw.mono HB2.out.size));clear hmk hst hru hbw
   by_cases hkN:k<N
   . have hst:=HST.out;obtain⟨r,hr⟩:∃ r,rows[st]?=some r:=⟨_,List.getElem?_eq_getElem (by rw[HRL.out];exact hst)⟩;obtain⟨u,hu⟩:∃ u,vs[st]?=some u:=⟨_,List.getElem?_eq_getElem (by rw[HVL.out,HRL.out];exact hst)⟩;obtain⟨gb,off,rfl,hgb,zb⟩:=HX.out k (by rw[HN.out];exact hkN);have zb:=(HB.out.cell (p:=⟨gb,off+k,none⟩) hgb).trans zb;have hbb:=HBY.out k (by rw[HN.out];exact hkN);obtain⟨b,hb⟩:∃ b:Nat,xs.getD k 0=(b:Int):=⟨(xs.getD k 0).toNat,by omega⟩;rw[hb] at zb hbb;have hrow:=za8 (HV3.out st u r hu hr) HB.out;rw[za9] at hrow;obtain⟨hrl,hre⟩:=HROK.out st r hr;have hfb:=HF.out b (by omega);obtain⟨t,ht⟩:∃ t,r[F b]?=some t:=⟨_,List.getElem?_eq_getElem (by omega)⟩;have htS:=hre t (List.mem_of_getElem? ht);obtain⟨Au,cu,hfu⟩:=zam hrow;subst hfu;have hv2:=za8 HV2.out HB.out;obtain⟨gn,rfl⟩:∃ g,An=some ⟨g,0,none⟩:=by
       rcases hv2.2 with ⟨_,h0⟩|⟨g,cap,cur,e,_⟩
       . omega
       . injection e with e1;exact⟨g,e1⟩
     obtain⟨gu,rfl⟩:∃ g,Au=some ⟨g,0,none⟩:=by
       rcases hrow.2 with ⟨_,h0⟩|⟨g,cap,cur,e,_⟩
       . omega
       . injection e with e1;exact⟨g,e1⟩
     have c1:wr.cell? ⟨gn,st,none⟩=some (.slice (some ⟨gu,0,none⟩) r.length cu):=(World.ownsRow.cellAt hv2 st (by omega)).trans hu;have c2:wr.cell? ⟨gu,F b,none⟩=some (.int .i64 (t:Int)):=by
       rw[World.ownsRow.cellAt hrow (F b) (by omega)];simp[ns,ht]
     have hbx:=HBX.out.stays HBW.out;have c3:=hbx.nxt;have c4:=hbx.cls b (by omega);have hrun:=HRUN.out;have hgd:rows.getD st []=r:=(by rw[List.getD_eq_getElem?_getD,hr];rfl);have hgt:r.getD (F b) 0=t:=(by rw[List.getD_eq_getElem?_getD,ht];rfl);have hxd:xs.drop k=(b:Int)::xs.drop (k+1):=by
       rw[List.drop_eq_getElem_cons (show k<xs.length by rw[HN.out];exact hkN)];rw[←hb,List.getD_eq_getElem?_getD,List.getElem?_eq_getElem (show k<xs.length by rw[HN.out];exact hkN)];rfl
     rw[hxd,runN,Int.toNat_natCast,hgd,hgt] at hrun;have HRUN2:=Zh hrun;obtain⟨fb,hfbe⟩:∃ f,F b=f:=⟨_,rfl⟩;rw[hfbe] at c2 c4 hfb;have hrl':r.length=n:=hrl;obtain⟨rl,hrle⟩:∃ x,r.length=x:=⟨_,rfl⟩;rw[hrle] at c1 hrl';have i0:(0:Int)<=(k:Int):=(by omega);have i1:(k:Int)<(N:Int):=(by omega);have i2:(0:Int)<=(st:Int):=(by omega);have i3:(st:Int)<(S:Int):=(by omega);have i4:(0:Int)<=(fb:Int):=(by omega);have i5:(fb:Int)<(rl:Int):=(by omega);have i6:(0:Int)<=(b:Int):=(by omega);have i7:(b:Int)<256:=(by omega);clear hgd hgt hr hu hb hrow hrl hre ht hv2 hbx hrun hxd hfbe hrle hgb hst;go_wp2;go_quiet (fail);go_wp2;go_roundg (N-(k+1))
     case measure=>have:=HMK.out;omega
     case rel=>exact⟨t,k+1,by first | rfl | trivial,by go_num,by omega,rfl,by rw[←HRL.out];exact htS,HRUN2.out,zbf HBW.out nq⟩
   . have hkl:k=N:=(by omega);subst hkl;have hst:=HST.out;have hrun:=HRUN.out;rw[List.drop_of_length_le (by rw[HN.out];exact Nat.le_refl _),runN] at hrun;obtain⟨o,ho⟩:∃ o,outs[st]?=some o:=⟨_,List.getElem?_eq_getElem (by rw[HOL.out];exact hst)⟩;have hor:=za8 HO.out HB.out;obtain⟨go,rfl⟩:∃ g,Ao=some ⟨g,0,none⟩:=by
       rcases hor.2 with ⟨_,h0⟩|⟨g,cap,cur,e,_⟩
       . omega
       . injection e with e1;exact⟨g,e1⟩
     obtain⟨o0,o1⟩:=zlr outs st o ho;have d0:wr.cell? ⟨go,st*2,none⟩=some (.int .u64 (o.1:Int)):=(World.ownsRow.cellAt hor (st*2) (by omega)).trans o0;have d1:wr.cell? ⟨go,st*2+1,none⟩=some (.int .u64 (o.2:Int)):=(World.ownsRow.cellAt hor (st*2+1) (by omega)).trans o1;have hbx:=HBX.out.stays HBW.out;have c4:=hbx.out;have hbo:=HBO.out.far' HBW.out;obtain⟨q0,q1⟩:=hbo.cell;obtain⟨f2,f3⟩:=hbo.frozen;have HE:=Zh (show outs.getD (runN F rows xs 0) (0,0)=o by rw[←hrun,List.getD_eq_getElem?_getD,ho];rfl);have i2:(0:Int)<=(st:Int):=(by omega);have i3:(st:Int)<(S:Int):=(by omega);have HBOF:=Zh hbo;clear hst hrun ho hor o0 o1 hbx hbo;go_wp2;have bF:=(HBOF.out.put0 (.int .u64 (o.1:Int))).put1 (.int .u64 (o.2:Int));obtain⟨y0,y1⟩:=bF.cell;refine bodyPost_ret (v := .agg #[.int .u64 (o.1:Int),.int .u64 (o.2:Int)]) ?_ rfl ⟨by rw[HE.out],(HB.out.setCell (p:=⟨w.heap.size+1,0,none⟩) (Nat.le_succ _) _).setCell (p:=⟨w.heap.size+1,1,none⟩) (Nat.le_succ _) _⟩;simp[results,Tryd.results53,go_sem,y0,y1]
end Go.Proofs.YtgbdanddbgomhaaDoor
