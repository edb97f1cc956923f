import Derived.Test.YtipfgpfplakhiaaTc25
import Derived.Test.YtipfgpfplakhiaaTc41
set_option linter.unusedVariables false
set_option linter.unusedSimpArgs false
set_option maxRecDepth 20000
set_option maxHeartbeats 4000000
namespace Go.Proofs.Ytipfgpfplakhiaa
open Go Go.RowKit
theorem yc7 (i j:Int):(i==j)=decide (i=j):=by
 by_cases h:i=j
 .rw[decide_eq_true h];simpa using h
 .rw[decide_eq_false h];simpa using h
def zng (w:World) (L:List (Lay×Str)) (bs:List Bool) (lam:Nat) (o:Option (List Sta×List (List Nat))) (e:Ending) (w':World):Prop:=match o with
 | none=>e = .returned (.tuple #[.agg zc5,.int .i64 11])
 | some (ss,rows)=>∃ vN vO O,e = .returned (.tuple #[.agg (zac (zhr L bs) (zdi L bs) vN vO),.int .i64 0])∧Nxt w' w.heap.size O vN rows∧Ots w' w.heap.size O vO (ss.map fun s=>zbr (RR L bs lam) s (0,0))
def yeo (w:World) (L:List (Lay×Str)) (bs:List Bool) (lam most:Int) (e:Ending) (w':World):Prop:=
 Below w.heap.size w w'∧
 if bs.length≠L.length∨lam<1∨32<lam∨most<1∨1000<most then e = .returned (.tuple #[.agg zc5,.int .i64 1]) else
 zng w L bs lam.toNat (zd6 L bs lam.toNat most.toNat) e w'
theorem yad {w:World} {B g:Nat} {e:TypeId} {u:Value} (h:HasO w g (.cells #[u] e (0,0))) (hB:B<=g):w.ownsRow B e 1 (.slice (some ⟨g,0,none⟩) 1 1) 1 [u]:=⟨rfl,.inr ⟨g,1,_,rfl,hB,h,ygo _,by decide,rfl,rfl⟩⟩
theorem yac {w:World} {B g:Nat} {e:TypeId} {u v:Value} (h:HasO w g (.cells #[u,v] e (0,0))) (hB:B<=g):w.ownsRow B e 2 (.slice (some ⟨g,0,none⟩) 1 1) 1 [u,v]:=⟨rfl,.inr ⟨g,1,_,rfl,hB,h,ygo _,by decide,rfl,rfl⟩⟩
theorem yc8 {w w7:World} (h:Below w.heap.size w w7) (hb:BoxM w7 w.heap.size 38 (fun _=>0) 0 (.slice none 0 0) (.slice none 0 0)):Below (w.alloc (.cells zc5 38)).heap.size (w.alloc (.cells zc5 38)) w7:=by
 have hlt:=hb.lt;refine⟨h.os,h.tape,h.output,by simp;omega,fun b hb2=>?_⟩
 by_cases e:b<w.heap.size
 .rw[h.block b e,yhf _ _ _ e]
 .have e':b=w.heap.size:=(by simp at hb2;omega);subst e';exact hb.trans (heap_alloc_new w _).symm
theorem yfo {w:World} {gm B:Nat} {F:Nat->Nat} {n:Int} (hB:B<=gm) (h:BoxM w gm 38 F n (.slice none 0 0) (.slice none 0 0)):
 DS B (((w.alloc (.cells #[.slice none 0 0] 83)).alloc (.cells #[.int .u64 0,.int .u64 0] 51)).setCell ⟨gm,258,none⟩ (.slice (some ⟨w.heap.size+1,0,none⟩) 1 1)) gm (fun _=>False) F n (.slice (some ⟨w.heap.size,0,none⟩) 1 1) (.slice none 0 0) (.slice (some ⟨w.heap.size+1,0,none⟩) 1 1) (.slice none 0 0) [[]] [] [(0,0)] []:=by
 have hlt:=h.lt;have hb:=((h.stays ((ygr _ _).alloc (ygo _) (.cells #[.slice none 0 0] 83))).stays ((ygr _ _).alloc (ygo _) (.cells #[.int .u64 0,.int .u64 0] 51))).setOut (.slice (some ⟨w.heap.size+1,0,none⟩) 1 1);have h1:HasO (((w.alloc (.cells #[.slice none 0 0] 83)).alloc (.cells #[.int .u64 0,.int .u64 0] 51)).setCell ⟨gm,258,none⟩ (.slice (some ⟨w.heap.size+1,0,none⟩) 1 1)) w.heap.size (.cells #[.slice none 0 0] 83 (0,0)):=
  (ygz _ _ _ _ yk8).trans ((yhf _ _ _ yk3).trans (heap_alloc_new w _))
 have h2:HasO (((w.alloc (.cells #[.slice none 0 0] 83)).alloc (.cells #[.int .u64 0,.int .u64 0] 51)).setCell ⟨gm,258,none⟩ (.slice (some ⟨w.heap.size+1,0,none⟩) 1 1)) (w.heap.size+1) (.cells #[.int .u64 0,.int .u64 0] 51 (0,0)):=
  (ygz _ _ _ _ yk8).trans (by have:=heap_alloc_new (w.alloc (.cells #[.slice none 0 0] 83)) (.cells #[.int .u64 0,.int .u64 0] 51);simpa using this)
 exact⟨hB,hb,Nxt.nil _ _ _,yac h2 yjz,fun b e=>e.elim,⟨[.slice none 0 0],rfl,yad h1 yjz,fun i u t e1 e2=>by
  rcases i with _|i
  .simp at e1 e2;subst e1 e2;exact Ws.nil _ _
  .simp at e1⟩,yhd _ _ _ 1,fun b e=>by cases e⟩
theorem RdTr.stays' {w w':World} {A:Option Addr} {L:List Bool} (h:RdTr w A L) (hb:Below w.heap.size w w'):RdTr w' A L:=fun i x e=>by
 obtain⟨b,off,e1,e2,e3⟩:=h i x e;exact⟨b,off,e1,yh3 e2 hb.size,za3 e3 hb⟩
theorem ya4 {w:World} {A B:Option Addr} {ca cb:Nat} {L:List (Lay×Str)} {bs:List Bool} {lam most:Int} (h:RdNfas w w.heap.size A L) (hb:RdTr w B bs) (hlam : -9223372036854775808<=lam∧lam<=9223372036854775807) (hmost : -9223372036854775808<=most∧most<=9223372036854775807) (hL:∀ s x,(s,x)∈L->zg1 s x) (hN:∀ s x,(s,x)∈L->x.first.Nodup) (hn:L.length<=64) (hbn:bs.length<=65) (hfew:(zf3 L L.length).length*64<=100000):
 Calls Try.prog 8 #[.slice A L.length ca,.slice B bs.length cb,.int .i64 lam,.int .i64 most] w (yeo w L bs lam most):=by
 have hz43:∀ w:World,Sem.run Try.prog (zeroValue 38) w = .ok (.agg zc5) w:=fun _=>by kernel_rfl
 have hz1:∀ w:World,Sem.run Try.prog (zeroValue 34) w = .ok (.agg (arrV 256 fun _=>0)) w:=fun _=>by kernel_rfl
 obtain⟨N,hNN⟩:∃ N,L.length=N:=⟨_,rfl⟩;obtain⟨M,hM⟩:∃ M,bs.length=M:=⟨_,rfl⟩;unfold yeo;rw[hNN,hM];have bx0:=BoxM.new w 38 (fun _=>0) 0 (.slice none 0 0) (.slice none 0 0);have hB0:Below w.heap.size w (w.alloc (.cells zc5 38)):=(ygr _ _).alloc (ygo _) _;have HBX0:=Zh bx0;have HB0:=Zh hB0
 by_cases hbad:M≠N∨lam<1∨32<lam∨most<1∨1000<most
 .simp only[if_pos hbad];rcases (show ¬ (M:Int)=(N:Int)∨((M:Int)=(N:Int)∧lam<1)∨((M:Int)=(N:Int)∧¬ lam<1∧32<lam)∨((M:Int)=(N:Int)∧¬ lam<1∧¬ 32<lam∧most<1)∨((M:Int)=(N:Int)∧¬ lam<1∧¬ 32<lam∧¬ most<1∧1000<most) by omega) with d1|⟨d1,d2⟩|⟨d1,d2,d3⟩|⟨d1,d2,d3,d4⟩|⟨d1,d2,d3,d4,d5⟩
  all_goals
   have hq:((N:Int)==(M:Int))=decide ((M:Int)=(N:Int)):=by
    rw[yc7];exact decide_eq_decide.2 ⟨fun e=>e.symm,fun e=>e.symm⟩
   have hq':((N:Int) != (M:Int)) = !decide ((M:Int)=(N:Int)):=(by rw[bne,hq]);simp only[d1,decide_true,decide_false,Bool.not_true,Bool.not_false] at hq hq';clear hNN hM h hb hbad bx0 hB0 hL hN;go_enter Try.func8,Try.ntmps8;go_wp2_with (first
    | (refine zh0 yk5 yk5 ?_;go_simp)
    | (refine zab yk5 _ _ yk5 yk5 yk5 Try.sizeMR rfl rfl HBX0.o ?_;intro hbx;have HBX1:=Zh hbx;clear hbx;go_simp)
    | fail)
   exact bodyPost_ret (v := .tuple #[.agg zc5,.int .i64 1]) (zb0 Try.results8 rfl rfl Try.underlying38 rfl Try.sizeMR HBX1.o) rfl ⟨below_setRow HB0.o (ygo _) _,rfl⟩
 simp only[if_neg hbad];obtain⟨ln,rfl⟩:∃ k:Nat,lam=(k:Int):=⟨lam.toNat,by omega⟩;obtain⟨mn,rfl⟩:∃ k:Nat,most=(k:Int):=⟨most.toNat,by omega⟩;rw[yh9,yh9];obtain rfl:M=N:=by omega
 have d2:¬ (ln:Int)<1:=yjz;have d3:¬ (32:Int)<(ln:Int):=yjz;have d4:¬ (mn:Int)<1:=yjz;have d5:¬ (1000:Int)<(mn:Int):=yjz;have hne:((M:Int) != (M:Int))=false:=yk3;have hM64:M<=64:=yjz;have HA:=Zh h;have HB:=Zh hb;have HLL:=Zh hL;have HND:=Zh hN;have HLN:=Zh hNN;have HBN:=Zh hM;have HFEW:=Zh hfew;obtain⟨TGT,hTGT⟩:∃ t,zd6 L bs ln mn=t:=⟨_,rfl⟩;rw[hTGT];have HTS:=Zh hTGT;clear h hb hL hN hNN hM hfew hbad bx0 hB0 hTGT;go_enter Try.func8,Try.ntmps8;go_wp2;go_loopg [10,11] M (fun mm v i wr=>∃ k:Nat,i = .int .i64 (k:Int)∧k<=M∧mm=M-k∧SetsG wr w.heap.size v (zf3 L k)∧Below w.heap.size w wr∧BoxM wr w.heap.size 38 (fun _=>0) 0 (.slice none 0 0) (.slice none 0 0))
 case atStart=>exact⟨0,rfl,ygy _,rfl,SetsG.nil _ _,HB0.o,HBX0.o⟩
 case round =>
  obtain⟨k,rfl,hk,hmk,hs,hbl,hbx⟩:=hrel;have HMK:=Zh hmk;have HS:=Zh hs;have HBL:=Zh hbl;have HBX:=Zh hbx;clear hmk hs hbl hbx
  by_cases hkM:k<M
  .obtain⟨s,x,hsx⟩:∃ s x,L[k]?=some (s,x):=⟨_,_,zdz (by rw[HLN.o];exact hkM)⟩;obtain⟨g,off,A1,m1,c1,A2,m2,c2,gm,A3,m3,c3,rfl,hg,hcell,e1,e2,e3,hni⟩:=(HA.o.stays HBL.o) k s x hsx;have c0:=hcell 0 _ rfl;have hrd:=hni.rdS (ygo _);have hle:=zzo L (show k+1<=L.length by rw[HLN.o];exact hkM);have hst:zf3 L (k+1)=zf3 L k++s.sets:=(by rw[zf3,getD_some hsx]);have hfe:=HFEW.o;rw[hst,ygu] at hle;have HST:=Zh hst;have HRD:=Zh hrd;have HLE:=Zh (show (zf3 L k).length+s.sets.length<=100000 by omega);have HM1:=Zh e1;have i0:(0:Int)<=(k:Int):=yjz;have i1:(k:Int)<(M:Int):=yjz;have hBs:=HBL.o.size;clear hcell hni hrd hle hst hfe e1 e2 e3 hsx hg;rw[yi2] at c0;go_wp2_with (first
    | (refine znm yk5 _ _ yk5 yk5 yk5 HM1.o HS.o HRD.o HLE.o hBs ?_;intro v' w' h2 hgr hor;have HS2:=Zh h2;have HG2:=Zh hgr;clear h2 hgr hor;go_simp)
    | fail)
   go_roundg (M-(k+1))
   case measure=>have:=HMK.o;omega
   case rel =>
    have hk2:Kept (fun b=>Value.ownBlock _=some b) wr _:=(Kept.refl _ _).grown HG2.o (fun b e => .inl e);exact⟨k+1,by go_num,by omega,rfl,by rw[HST.o];exact HS2.o,HBL.o.grown HG2.o hBs (fun b e=>(ygs HS.o b (by first | exact e | exact e.symm)).1),HBX.o.oth hk2 (zdb HS.o (l:=[38]) yk6) yk3⟩
  .have hkl:k=M:=yjz;subst hkl;obtain⟨As,cs,hfs⟩:=HS.o.form;subst hfs;obtain⟨S,hS⟩:∃ S,zf3 L k=S:=⟨_,rfl⟩;have HSN:=Zh hS;rw[hS] at HS ⊢;have hfe:=HFEW.o;rw[HLN.o,hS] at hfe;have hco:=fun (W:World) (A:Option Addr) (c:Nat) (hr:RdS W W.heap.size A S)=>ztq W A c S hr yjz
   unfold zt0 at hco;obtain⟨F,hF⟩:∃ F,zhr L bs=F:=⟨_,rfl⟩;obtain⟨C,hC⟩:∃ C,zdi L bs=C:=⟨_,rfl⟩;have hFk:F=numK (keyL S):=(by rw[←hF,←hS,←HLN.o,←zh3 L bs];rfl);have hCk:C=cntK (keyL S) 256:=(by rw[←hC,←hS,←HLN.o,←zh3 L bs];rfl);simp only[←hFk,←hCk] at hco;have hC256:C<=256:=(by rw[hCk];exact ze7 _ _);have HCO:=Zh hco;have HFK:=Zh hFk;have HCK:=Zh hCk;have HCF:=Zh (show zhr L bs=F∧zdi L bs=C from⟨hF,hC⟩);have HRD:=Zh (HS.o.rd);clear hco hF hC hFk hCk hS;obtain⟨Sl,hSl⟩:∃ n,S.length=n:=⟨_,rfl⟩;rw[hSl] at HCO hfe ⊢;have HSL:=Zh hSl;clear hSl;go_upto_region 9 with fail
   have hB2:Below wr.heap.size wr (wr.alloc (.cells zc5 38)):=(ygr _ _).alloc (ygo _) _;have HRD2:=Zh (RdS.more (RdS.below HRD.o hB2) hB2.size);have HRES2:=Zh (HBX.o.stays hB2);have HB2:=Zh (gro HBL.o hB2);have HBX2:=Zh (BoxM.new wr 38 (fun _=>0) 0 (.slice none 0 0) (.slice none 0 0));have HGM:=Zh (show w.heap.size<=wr.heap.size from HBL.o.size);have HGR:=Zh (show w.heap.size<wr.heap.size from HBX.o.lt);clear hB2 HRD HBX HBL HS;obtain⟨gm,hgm⟩:∃ gm,wr.heap.size=gm:=⟨_,rfl⟩;have e0:zac (fun _=>0) 0 (.slice none 0 0) (.slice none 0 0)=zc5:=rfl;rw[e0] at HBX2;rw[hgm] at HBX2 HGM HGR ⊢;generalize wr.alloc (.cells zc5 38)=w2 at *;clear hgm e0;go_upto_region 10 with (first
    | (go_at_call 24;(with_reducible refine (HCO.o _ _ _ HRD2.o).mono ?_);rintro e w3 ⟨rfl,b3⟩;have HB3:=Zh (gro HB2.o b3);have HBX3:=Zh (HBX2.o.stays b3);have HRES3:=Zh (HRES2.o.stays b3);have HRD3:=Zh b3.size;have HN3:=Zh (BoxN.new w3 34 256 (fun _=>0));clear b3)
    | (refine zmc yk5 yk5 HN3.o ?_;intro w4 hn4 hb4 hs4;have HN4:=Zh hn4;have B4:=Zh ((((ygr _ _).alloc (ygo _) (.cells (arrV 256 fun _=>0) 34)).trans hb4:Below w3.heap.size w3 w4));clear hn4 hb4 hs4;go_simp)
    | fail)
   have HBX4:=Zh (HBX3.o.stays B4.o);have HRES4:=Zh (HRES3.o.stays B4.o);have HB4:=Zh (gro HB3.o B4.o);clear HRD2 HCO HRES2 HBX2 HB2 HB3 HBX3 HRES3 HN3 HRD3;go_upto_region 11 with (first
    | (refine zbj yk5 HN4.o ?_;go_simp)
    | (refine zjd yk5 _ _ yk5 yk5 yk5 HBX4.o ?_;intro w5 hb5 hk5 hs5;have y5:=hb5.num;have f5:=hb5.frozen 256;have HBX5:=Zh hb5;have HK5:=Zh hk5;clear hb5 hk5 hs5;go_simp)
    | fail)
   go_upto_region 12 with fail
   have hb6:BoxM (w5.setCell ⟨gm,256,none⟩ (.int .i64 (C:Int))) gm 38 F (C:Int) (.slice none 0 0) (.slice none 0 0):=HBX5.o.setNum _;have hk6:Kept (fun b=>b=gm) w4 (w5.setCell ⟨gm,256,none⟩ (.int .i64 (C:Int))):=HK5.o.setCell (a:=⟨gm,256,none⟩) (.inl rfl) _;generalize w5.setCell ⟨gm,256,none⟩ (.int .i64 (C:Int))=w6 at *;have HRES6:=Zh (HRES4.o.kept hk6 fun e=>by have:=HGR.o;omega);have HB6:=Zh (HB4.o.trans (hk6.below HB4.o.size fun b e=>by have:=HGM.o;omega));have HBX6:=Zh hb6;clear hb6 hk6 HK5 HBX5 HBX4 HB4 HRES4 HN4 B4 y5 f5;have y6:((w6.alloc (.cells #[.slice none 0 0] 83)).alloc (.cells #[.int .u64 0,.int .u64 0] 51)).cell? ⟨gm,258,none⟩=some (.slice none 0 0):=((HBX6.o.stays ((ygr _ _).alloc (ygo _) _)).stays ((ygr _ _).alloc (ygo _) _)).out;have f6:=((HBX6.o.stays ((ygr _ _).alloc (ygo _) (.cells #[.slice none 0 0] 83))).stays ((ygr _ _).alloc (ygo _) (.cells #[.int .u64 0,.int .u64 0] 51))).frozen 258;go_upto_region 14 with fail
   have hb7:Below w6.heap.size w6 (((w6.alloc (.cells #[.slice none 0 0] 83)).alloc (.cells #[.int .u64 0,.int .u64 0] 51))):=((ygr _ _).alloc (ygo _) _).alloc yk3 _;have HDS0:=Zh (yfo (B:=(w.alloc (.cells zc5 38)).heap.size) (by have:=HGR.o;simp;omega) HBX6.o);have hb8:=Below.setCell (p:=⟨gm,258,none⟩) (gro HB6.o hb7) HGM.o (.slice (some ⟨w6.heap.size+1,0,none⟩) 1 1);have hr8:=(HRES6.o.stays hb7).kept ((Kept.refl (fun b=>b=gm) _).setCell (a:=⟨gm,258,none⟩) (.inl rfl) (.slice (some ⟨w6.heap.size+1,0,none⟩) 1 1)) fun e=>by have:=HGR.o;omega
   have HB7:=Zh (yc8 hb8 hr8);clear hb8 hr8;have HA1:=Zh (HA.o.stays HB0.o);have HTB1:=Zh (show RdTr (w.alloc (.cells zc5 38)) B bs from fun i x e=>by obtain⟨b,off,e1,e2,e3⟩:=HB.o i x e;exact⟨b,off,e1,yh3 e2 HB0.o.size,za3 e3 HB0.o⟩);have HRES0:=Zh (show BoxM (w.alloc (.cells zc5 38)) w.heap.size 38 (fun _=>0) 0 (.slice none 0 0) (.slice none 0 0) from HBX0.o);have HB01:=Zh HB0.o;clear hb7 y6 f6 HBX6 HB6 HRES6 HBX0 HB0;have hk1:w.heap.size<(w.alloc (.cells zc5 38)).heap.size:=yk3;have HK1:=Zh hk1;clear hk1;generalize w.alloc (.cells zc5 38)=w1 at *;obtain⟨g6,hg6⟩:∃ g,w6.heap.size=g:=⟨_,rfl⟩;rw[hg6] at HDS0 HB7 ⊢;generalize (((w6.alloc (.cells #[.slice none 0 0] 83)).alloc (.cells #[.int .u64 0,.int .u64 0] 51)).setCell ⟨gm,258,none⟩ (.slice (some ⟨g6+1,0,none⟩) 1 1))=w7 at *;clear hg6;have HTGT:=Zh (show zbz (zgi (RR L bs ln) F) mn C (mn+1) 0 [[]] []=TGT by rw[←HTS.o];unfold zd6;rw[HCF.o.1,HCF.o.2]);obtain⟨cn,hcn⟩:∃ cn,canon L bs=cn:=⟨_,rfl⟩;obtain⟨tl,htl⟩:∃ tl:List Wd->Nat×Nat,(fun t=>zfl L bs t (0,0))=tl:=⟨_,rfl⟩;have hstep:∀ (t:List Wd) (b c:Nat),GoodD L ln t->b<256->F b=c->cn (zjl L ln b t)=zgi (RR L bs ln) F (cn t) c:=fun t b c ht hb hc=>by
    rw[←hcn];exact ztc HLL.o (by rw[HFK.o,←HSN.o,HLN.o]) ht hb hc
   have hsame:∀ s t:List Wd,GoodD L ln s->GoodD L ln t->zo0 s t=decide (cn s=cn t):=fun s t hs ht=>by
    rw[←hcn];exact zvl hs ht
   have hout:∀ t:List Wd,GoodD L ln t->zbr (RR L bs ln) (cn t) (0,0)=tl t:=fun t ht=>by
    rw[←hcn,←htl];exact zw8 (by rw[HBN.o,HLN.o]) ht.ok
   have hfewt:∀ t:List Wd,GoodD L ln t->t.length<=100000:=fun t ht=>ygw (ht.few yjz) HFEW.o
   have htl0:tl []=(0,0):=(by rw[←htl];rfl);have hcn0:cn []=[]:=(by rw[←hcn];exact zyg);have HSTEP:=Zh hstep;have HSAME:=Zh hsame;have HOUT:=Zh hout;have HFT:=Zh hfewt;have HTL0:=Zh htl0;have HTLD:=Zh htl;have HCN0:=Zh hcn0;obtain⟨stp,hstp⟩:∃ f,zgi (RR L bs ln) F=f:=⟨_,rfl⟩;rw[hstp] at HTGT HSTEP;clear hcn htl hstep hsame hout hfewt htl0 hcn0 hstp;have HNE2:=Zh (show mn<=1000∧1<=mn by omega);clear hk HMK hkM HTS hne;go_wp2;go_loopg [15,16] (mn+1) (fun mm vS ii wr=>∃ (q:Nat) (O:Nat->Prop) (vN vO:Value) (ts:List (List Wd)) (rows:List (List Nat)),ii = .int .i64 (q:Int)∧q<=ts.length∧mm=mn+1-q∧DS w1.heap.size wr gm O F (C:Int) vS vN vO (.slice none 0 0) ts rows (ts.map tl) []∧Below w1.heap.size w1 wr∧(∀ t∈ts,GoodD L ln t)∧ts.length<=mn∧rows.length=q∧zbz stp mn C (mn+1-q) q (ts.map cn) rows=TGT)
   case atStart=>exact⟨0,_,_,_,[[]],[],by first | rfl | trivial,ygy _,by first | rfl | omega,by have:=HDS0.o;rw[←HTL0.o] at this;exact this,HB7.o,fun t ht=>by rw[yha] at ht;subst ht;exact GoodD.nil _ _,by have:=HNE2.o;simp;omega,rfl,by have:=HTGT.o;rw[←HCN0.o] at this;exact this⟩
   case round =>
    clear HDS0 HB7;obtain⟨q,O,vN,vO,ts,rows,rfl,hq,hmq,hds,hbl,hgd,hsl,hrw,htg⟩:=hrel;have HMQ:=Zh hmq;have HDS:=Zh hds;have HBL:=Zh hbl;have HGD:=Zh hgd;have HRW:=Zh hrw;have HTG:=Zh htg;obtain⟨As,cs,hfs⟩:=hds.sts.form;subst hfs;obtain⟨T,hT⟩:∃ T,ts.length=T:=⟨_,rfl⟩;have HT:=Zh hT;rw[hT] at hq hsl HDS ⊢;clear hmq hds hbl hgd hrw htg hT
    by_cases hqT:q<T
    .obtain⟨t0,ht0⟩:∃ t,ts[q]?=some t:=⟨_,ygn (by rw[HT.o];exact hqT)⟩;have HT0:=Zh ht0;have HG0:=Zh (HGD.o t0 (yh1 ht0));clear ht0;generalize wr=wo at *;go_upto_region 19 with fail
     go_loopg [15,17,18] 256 (fun mm vS vr bb wr=>∃ (j:Nat) (vO:Value) (ts':List (List Wd)) (row:List Nat),bb = .int .i64 (j:Int)∧j<=256∧mm=256-j∧DS w1.heap.size wr gm O F (C:Int) vS vN vO vr ts' rows (ts'.map tl) row∧Below w1.heap.size w1 wr∧(∀ t∈ts',GoodD L ln t)∧ts'.length<=mn∧row.length=cntK (keyL S) j∧rowS (stp (cn t0)) mn (C-row.length) row.length (ts'.map cn) row=rowS (stp (cn t0)) mn C 0 (ts.map cn) []∧∃ z,ts'=ts++z)
     case atStart=>exact⟨0,vO,ts,[],by first | rfl | trivial,by omega,by first | rfl | omega,HDS.o,HBL.o,HGD.o,by rw[HT.o];exact hsl,rfl,rfl,[],by simp⟩
     case round =>
      obtain⟨j,vO',ts',row,rfl,hj,hmj,hds,hbl,hgd,hsl',hrl,hrw,hz⟩:=hrel;have HMJ:=Zh hmj;have HDS':=Zh hds;have HBL':=Zh hbl;have HGD':=Zh hgd;have HRL:=Zh hrl;have HRW':=Zh hrw;have HZ:=Zh hz;have HT0':Hid (ts'[q]?=some t0):=Zh (by obtain⟨z,rfl⟩:=hz;rw[ygv (by have:=HT.o;omega)];exact HT0.o);obtain⟨Ar,cr,hfr⟩:=zaf hds.row;rw[za9] at hfr;subst hfr;obtain⟨gS,cS,A0,m0,hfs',hc0,hw0⟩:=hds.sts.at HT0'.o;subst hfs';obtain⟨P,hP⟩:∃ P,ts'.length=P:=⟨_,rfl⟩;have HP:=Zh hP;obtain⟨rl,hrl'⟩:∃ rl,row.length=rl:=⟨_,rfl⟩;have HRLL:=Zh hrl';rw[hP] at hsl' HDS' ⊢;rw[hrl'] at hrl HDS' HRW' ⊢;have hqP:q<P:=(by obtain⟨z,rfl⟩:=hz;have:=HT.o;rw[←hP,ygu];omega);have HW0:=Zh hw0;have HC0:=Zh hc0;clear hmj hgd hrw hz hw0 hc0 hP hrl'
      by_cases hj256:j<256
      .have htk:=zv6 (keyL S) j;have c1:wr.cell? ⟨gm,j,none⟩=some (.int .i64 (F j:Int)):=hds.box.cls j hj256;have hFj:F j=numK (keyL S) j:=(by rw[HFK.o]);have ij:(j:Int)<256:=yjz;have ij0:(0:Int)<=(j:Int):=by omega
       by_cases hf:zd4 (keyL S) j=true
       .have hFr:F j=rl:=(by rw[hFj,htk.1.2 hf,hrl]);have hr1:cntK (keyL S) (j+1)=rl+1:=(by rw[htk.2,if_pos hf,hrl]);have hrC:rl<C:=(by rw[HCK.o];have:=zhq (keyL S) (show j+1<=256 by omega);omega);rw[hFr] at c1;have hne:((rl:Int) != (rl:Int))=false:=yk3;have HR1:=Zh hr1;have HRC:=Zh hrC;have hgt:=GoodD.step (L:=L) (lam:=ln) HLL.o HND.o yjz j t0;have hct:=HSTEP.o t0 j rl HG0.o hj256 hFr;have hst:=zzl (ca:=ca) (cc:=m0) (lam:=ln) (b:=(j:Int)) (HA1.o.stays hbl) (HW0.o.rd) (yew HLL.o) (HG0.o.st yjz) (HFT.o t0 HG0.o) hn yjz ij0 yjz (by rw[yh9];exact HFT.o _ hgt);rw[yh9] at hst;obtain⟨t1,ht1⟩:∃ t,zjl L ln j t0=t:=⟨_,rfl⟩;rw[ht1] at hgt hct;rw[show zfp L ln j t0 (fstN L j L.length)=t1 from ht1,HLN.o] at hst;have HST:=Zh hst;have HGT:=Zh hgt;have HCT:=Zh hct;have hc0:=HC0.o;have iq0:(0:Int)<=(q:Int):=yjz;have iq1:(q:Int)<(P:Int):=yjz;clear hr1 hFr hFj htk hf hds hbl hrl hst hgt hct hrC ht1;go_upto_region 23 with (first
         | (go_at_call 25;(with_reducible refine HST.o.mono ?_);rintro e w5 ⟨v5,rfl,hv5,b5⟩;have HV5:=Zh hv5;have B5:=Zh b5;clear hv5 b5)
         | fail)
        have HDS5:=Zh (HDS'.o.stays B5.o);have HV5':Hid (Ws w5 w1.heap.size v5 t1):=Zh (zb2 HV5.o HDS'.o.hB);have HBL5:=Zh (gro HBL'.o B5.o);obtain⟨A5,c5,hf5⟩:=HV5'.o.form;subst hf5;obtain⟨L1,hL1⟩:∃ n,t1.length=n:=⟨_,rfl⟩;have HL1:=Zh hL1;rw[hL1] at HV5' ⊢;clear HST HV5 B5 HDS' HBL' hL1 c1 hc0 HC0 HW0;go_upto_region 24 with fail
        generalize wr=wb at *;have HRLB:=Zh (show rl<=256 by have:=HRC.o;omega);go_loopg [20] P (fun mm kk wr=>∃ x:Nat,kk = .int .i64 (x:Int)∧x<=P∧mm=P-x∧(∀ y,y<x->(ts'.map cn)[y]?≠some (cn t1))∧Below w5.heap.size w5 wr)
        case atStart=>exact⟨0,by first | rfl | trivial,ygy _,by first | rfl | omega,fun y hy=>by omega,ygr _ _⟩
        case round =>
         obtain⟨x,rfl,hx,hmx,hno,hb6⟩:=hrel;have HMX:=Zh hmx;have HNO:=Zh hno;have HDS6:=Zh (HDS5.o.stays hb6);have HV6:Hid (Ws wr w1.heap.size (.slice A5 L1 c5) t1):=Zh (HV5'.o.stays hb6);have HBL6:=Zh (gro HBL5.o hb6);have HB6:=Zh hb6;clear hmx hno hb6
         by_cases hxP:x<P
         .obtain⟨t2,ht2⟩:∃ t,ts'[x]?=some t:=⟨_,ygn (by rw[HP.o];exact hxP)⟩;have hg2:=HGD'.o t2 (yh1 ht2);obtain⟨g9,c9,A2,m2,hq9,hc2,hw2⟩:=HDS6.o.sts.at ht2;obtain rfl:gS=g9:=by injection hq9 with e;injection e with e;injection e
          have hsm:=zzq (c:=m2) (c':=c5) hw2.rd HV6.o.rd (HFT.o t2 hg2) (HFT.o t1 HGT.o);rw[HL1.o,HSAME.o t2 t1 hg2 HGT.o] at hsm;obtain⟨L2,hL2⟩:∃ n,t2.length=n:=⟨_,rfl⟩;rw[hL2] at hsm hc2;have HT2:=Zh ht2;have ix0:(0:Int)<=(x:Int):=yjz;have ix1:(x:Int)<(P:Int):=yjz;have ix2:((x:Int)==(P:Int))=false:=yk8;clear ht2 hg2 hq9 hw2 hL2
          by_cases he:cn t2=cn t1
          .rw[decide_eq_true he] at hsm;have HSM:=Zh hsm;have HE:=Zh he;have iPm:¬ (mn:Int)<(P:Int):=yjz;have HLEN:Hid ((ns row).length+(ns [x]).length<=100000):=Zh (by rw[za9,HRLL.o];simp[ns];have:=HRLB.o;omega);clear he hsm;go_wp2_with (first
            | (go_at_call 26;(with_reducible refine HSM.o.mono ?_);rintro e w7' ⟨rfl,b7⟩;have HDS7:=Zh (HDS6.o.stays b7);have HBL7:=Zh (gro HBL6.o b7);have hge:=HDS7.o.hB;clear b7)
            | (refine zaw (l:=ns row) (m:=ns [x]) (B:=w1.heap.size) (C:=w1.heap.size) yk5 _ _ yk5 yk5 yk5 (za6 HDS7.o.row ((ygr _ _).alloc (ygo _) _)) (zcz (heap_alloc_new _ _) hge) HLEN.o (ygw hge yk3) ?_;intro v8 w8 h8 hg8 ho8;have H8:=Zh h8;have HG8:=Zh hg8;have HO8:=Zh ho8;clear h8 hg8 ho8;go_simp)
            | fail)
           go_roundg (256-(j+1))
           case measure=>have:=HMJ.o;omega
           case rel =>
            have hk8:Kept (fun b=>(Value.slice Ar rl cr).ownBlock=some b) w7' w8:=((Kept.refl _ _).alloc _).grown HG8.o (fun b e => .inl e);have hds8:=HDS7.o.pushR (k:=x) hk8 ylg ykl;have hb8:=HBL7.o.trans (hk8.below HDS7.o.hB (fun b e=>(ygs HDS7.o.row b e).1));have hix:(ts'.map cn)[x]?=some (cn t1):=(by rw[yhj,HT2.o];simp[HE.o]);have hrw:rowS (stp (cn t0)) mn (C-(row++[x]).length) (row++[x]).length (ts'.map cn) (row++[x])=rowS (stp (cn t0)) mn C 0 (ts.map cn) []:=by
             have:=HRC.o;rw[←HRW'.o,ygu,HRLL.o,yi7,show C-rl=(C-(rl+1))+1 by omega,zzv (i:=x) (by rw[←HCT.o];exact hix) (fun y hy=>by rw[←HCT.o];exact HNO.o y hy) (by rw[yh8,HP.o];exact hsl')]
            exact⟨j+1,vO',ts',row++[x],by go_num,by omega,rfl,hds8,hb8,HGD'.o,by rw[HP.o];exact hsl',by rw[HR1.o,ygu,HRLL.o];rfl,hrw,HZ.o⟩
          .rw[decide_eq_false he] at hsm;have HSM:=Zh hsm;have HE:=Zh he;clear he hsm;go_wp2_with (first
            | (go_at_call 26;(with_reducible refine HSM.o.mono ?_);rintro e w7' ⟨rfl,b7⟩;have B7:=Zh b7;clear b7)
            | fail)
           go_roundg (P-(x+1))
           case measure=>have:=HMX.o;omega
           case rel =>
            refine⟨x+1,by go_num,by omega,rfl,fun y hy e=>?_,gro HB6.o B7.o⟩
            by_cases ey:y=x
            .subst ey;rw[yhj,HT2.o] at e;exact HE.o (Option.some.inj e)
            .exact HNO.o y yjz e
         .obtain rfl:P=x:=by omega
          obtain⟨us,n1,n2,n3⟩:=HDS6.o.sts;have hge:=HDS6.o.hB;have ixx:((P:Int)==(P:Int))=true:=yk3;have N1:=Zh n1;have N2:=Zh n2;have N3:=Zh n3;have hn2:=n2;rw[HP.o] at hn2;have NU:=Zh hn2;have hPn:P<=100000:=yjz;clear n1 n2 n3 hn2 hx hxP;go_upto_region 30 with (first
           | (at_builtin;(refine zg3 (B:=w1.heap.size) Try.infoStsD Try.underlying82 rfl yk6 yk6 yk5 _ _ yk5 yk5 (za6 NU.o ((ygr _ _).alloc (ygo _) _)) yk5 (heap_alloc_new _ _) rfl yle hPn (ygw hge yk3) ?_);intro v8 w8 h8 hg8 ho8;have H8:=Zh h8;have HG8:=Zh hg8;clear h8 hg8 ho8;go_simp)
           | fail)
          obtain⟨A8,c8,hf8⟩:=zaf H8.o;subst hf8;have hk8:Kept (fun b=>(Value.slice (some ⟨gS,0,none⟩) P cS).ownBlock=some b) wr w8:=((Kept.refl _ _).alloc _).grown HG8.o (fun b e => .inl e);have hds8:=DS.pushS HDS6.o N1.o N2.o N3.o HV6.o hk8 (by rw[HP.o];exact H8.o);have hb8:=HBL6.o.trans (hk8.below HDS6.o.hB (fun b e=>(ygs NU.o b e).1));have hv8:Ws w8 w1.heap.size (.slice A5 L1 c5) t1:=zb9 HV6.o hk8 (zdb NU.o (l:=[121]) yk6) yk3;have hot:=hds8.ots;obtain⟨Ao,co,hfo⟩:=zaf hot;subst hfo;have hPl:(ts'.map tl).length=P:=(by rw[yh8,HP.o]);rw[hPl] at hot hds8;have HC:=Zh (fun (W:World) (kk:Kept (fun b=>(Value.slice Ao P co).ownBlock=some b) w8 W)=>hds8.box.oth kk (zdb hot (l:=[38]) yk6) yk3);have hln63:ln<=63:=yjz;have hwd:=HGT.o.wd hln63 (show bs.length=L.length by rw[HBN.o,HLN.o]);have hft1:=HFT.o t1 HGT.o;have htl1:zfl L bs t1 (0,0)=tl t1:=(by rw[←HTLD.o]);have hgw:=hds8.hB;have HTL:Hid (∀ W:World,Kept (fun b=>(Value.slice Ao P co).ownBlock=some b) w8 W->Calls Try.prog 27 #[.slice A k ca,.slice B k cb,.slice A5 L1 c5] W fun e w'=>e = .returned (.agg #[.int .u64 ((tl t1).1:Nat),.int .u64 ((tl t1).2:Nat)])∧Below W.heap.size W w'):=Zh (by
           intro W kk;have hbw:=hb8.trans (kk.below hgw (fun b e=>(ygs hot b e).1));have hvW:Ws W w1.heap.size (.slice A5 L1 c5) t1:=zb9 hv8 kk (zdb hot (l:=[121]) yk6) yk3;have h1:=HA1.o.stays hbw;have h2:=RdTr.stays' HTB1.o hbw;have h3:=hvW.rd;have h4:=zv4 (ca:=ca) (cb:=cb) (cc:=c5) h1 h2 h3 hwd hft1 hn hbn;rw[htl1,HL1.o,HLN.o,HBN.o] at h4;exact h4)
          have HDS8:=Zh hds8;have HB8:=Zh hb8;have HOT:=Zh hot;obtain⟨o1,ho1⟩:∃ n,(tl t1).1=n:=⟨_,rfl⟩;obtain⟨o2,ho2⟩:∃ n,(tl t1).2=n:=⟨_,rfl⟩;rw[ho1,ho2] at HTL;have HO12:=Zh (show (o1,o2)=tl t1 by rw[←ho1,←ho2]);clear hwd hft1 htl1 hln63 hk8 hds8 hb8 hv8 hot H8 HG8 N1 N2 N3 NU ho1 ho2 hPl;have hmx:Try.prog.follows .mixedOrders=true:=yk2;have HQR:=Zh (fun (W:World) (kk:Kept (fun b=>(Value.slice Ao P co).ownBlock=some b) w8 W)=>(kk.mono (fun b e => .inl (.inl e)):Kept (fun b=>(Value.slice Ao P co).ownBlock=some b∨b=gm) w8 W));have hS0:Kept (fun b=>(Value.slice Ao P co).ownBlock=some b) w8 w8.drew:=(Kept.refl _ w8).drew;have hR0:=HQR.o _ hS0;refine zcp (R:=fun W=>Kept (fun b=>(Value.slice Ao P co).ownBlock=some b∨b=gm) w8 W) (S:=fun W=>Kept (fun b=>(Value.slice Ao P co).ownBlock=some b) w8 W) (T:=[9]) hmx ?_;refine anyR_tk (i:=0) (v := .pointer (some ⟨gm,258,none⟩)) rfl (Or.inl ⟨by rfl,fun w' hS=>by go_simp⟩) hR0 (fun _=>hS0) ?_;refine anyT_tk (i:=1) (v := .slice Ao P co) rfl (Or.inl ⟨by rfl,fun w' hS=>by have t1:=(HC.o w' hS).out;go_simp⟩) hR0 hS0 ?_;refine anyR_tk (i:=2) (v := .slice A k ca) rfl (Or.inl ⟨by rfl,fun w' hS=>by go_simp⟩) hR0 (fun _=>hS0) ?_;refine anyR_tk (i:=3) (v := .slice B k cb) rfl (Or.inl ⟨by rfl,fun w' hS=>by go_simp⟩) hR0 (fun _=>hS0) ?_;refine anyR_tk (i:=4) (v := .slice A5 L1 c5) rfl (Or.inl ⟨by rfl,fun w' hS=>by go_simp⟩) hR0 (fun _=>hS0) ?_;refine za2 (rs:=[5]) yk2 yk3 ?_;refine za5 (za4 rfl fun K hK=>?_);go_simp;go_at_call 27
          with_reducible refine (HTL.o _ yk4).mono ?_
          rintro e w15 ⟨rfl,b15⟩;have BB:=Zh b15;have KB:=Zh (Kept.of_below (fun _=>False) b15);clear b15;refine hK.out _ _ (HQR.o _ yk4) (fun _=>yk4) ?_;clear hK K;refine za2 (rs:=[6]) yk2 yk3 ?_;refine za5 (za4 rfl fun K hK=>?_);go_simp;refine hK.out _ _ (HQR.o _ yk4) (fun _=>yk4) ?_;clear hK K;refine za2 (rs:=[7]) yk2 yk3 ?_;refine za5 (za4 rfl fun K hK=>?_);refine zj0 yk5 _ _ yk5 yk5 (za7 HOT.o fun b e hb=>Kept.block (Q:=fun _=>False) (w:=w8) yk4 b hb (fun q=>q)) yk5 ykh hPn (ygw hgw (show Kept (fun b=>(Value.slice Ao P co).ownBlock=some b) w8 _ from yk4).size) ?_;intro v2 W2 r2 g2 o2';obtain⟨A2,c2',rfl⟩:=zaf r2;have R2:=Zh r2;have G2:=Zh g2;clear r2 g2 o2';refine hK.out _ _ (HQR.o _ yk4) (fun _=>yk4) ?_;clear hK K;have hSe:Kept (fun b=>(Value.slice Ao P co).ownBlock=some b) w8 W2:=yk4;refine za2 (rs:=[8]) yk2 yk3 ?_;refine za5 (za4 rfl fun K hK=>?_);go_simp;refine hK.out _ _ (HQR.o _ hSe) (fun _=>hSe) ?_;clear hK K;refine za2 (rs:=[9]) yk2 yk3 ?_;refine za5 (za4 rfl fun K hK=>?_);have t1':=(HC.o W2 hSe).out;have t2:=(HC.o W2 hSe).frozen 258;go_simp;have hR16:Kept (fun b=>(Value.slice Ao P co).ownBlock=some b∨b=gm) w8 (W2.setCell ⟨gm,258,none⟩ (.slice A2 (P+1) c2')):=(HQR.o _ hSe).setCell (a:=⟨gm,258,none⟩) (.inl (.inr rfl)) _;refine hK.out _ _ hR16 (zak (t:=9) yk3 yk2) ?_
          clear hK K;refine zcb yk2 ?_ _;have hbx2:=HC.o W2 hSe;have hr3:(W2.setCell ⟨gm,258,none⟩ (.slice A2 (P+1) c2')).ownsRow w1.heap.size 51 2 (.slice A2 (P+1) c2') (P+1) (outC (ts'.map tl)++[.int .u64 (o1:Int),.int .u64 (o2:Int)]):=
           zb9 R2.o ((Kept.refl (fun b=>b=gm) W2).setCell (a:=⟨gm,258,none⟩) (.inl rfl) _) (zdm hbx2 (l:=[51]) yk6) yk3
          have hds9:=DS.pushO (o:=(o1,o2)) HDS8.o hR16 (hbx2.setOut _) (by rw[yh8,HP.o];exact hr3);have hb9:=HB8.o.trans (hR16.below hgw (fun b e=>e.elim (fun e=>(ygs HOT.o b e).1) (fun e=>by subst e;exact HDS8.o.gB)));rw[HO12.o] at hds9;have hmt:ts'.map tl++[tl t1]=(ts'++[t1]).map tl:=yk3;rw[hmt] at hds9;have HDS9:=Zh hds9;have HB9:=Zh hb9;have hge:=hds9.hB;clear hbx2 hr3 hds9 hb9 hmt t1' t2 hR16 hSe hmx hS0 hR0 HC HTL HQR BB KB R2 G2 HDS8 HB8 HOT HO12 hgw;generalize W2.setCell ⟨gm,258,none⟩ (.slice A2 (P+1) c2')=W3 at *;have hnone:∀ y,y<(ts'.map cn).length->(ts'.map cn)[y]?≠some (stp (cn t0) rl):=by
           intro y hy;rw[←HCT.o];exact HNO.o y (by rw[yh8,HP.o] at hy;exact hy)
          have HNN:=Zh hnone;clear hnone
          by_cases hbig:mn<P+1
          .have ib:(mn:Int)<((P+1:Nat):Int):=yjz;have ib2:(mn:Int)<(P:Int)+1:=yjz;have HRESB:=Zh (HRES0.o.stays HB9.o);have HBIG:=Zh hbig;clear hbig;go_wp2_with (first
            | (refine zh0 yk5 yk5 ?_;go_simp)
            | (refine zab yk5 _ _ yk5 yk5 yk5 Try.sizeMR rfl rfl HRESB.o ?_;intro hbx;have HBX1:=Zh hbx;clear hbx;go_simp)
            | fail)
           have hTn:TGT=none:=by
            have:=HRC.o;rw[←HTG.o,show mn+1-q=(mn-q)+1 by omega];refine zyh (s:=cn t0) (by rw[yhj,HT0.o];rfl) ?_;rw[←HRW'.o,show C-rl=(C-(rl+1))+1 by omega];exact zzx HNN.o (by rw[yh8,HP.o];exact HBIG.o)
           subst hTn;refine bodyPost_ret (v := .tuple #[.agg zc5,.int .i64 11]) (zb0 Try.results8 rfl rfl Try.underlying38 rfl Try.sizeMR HBX1.o) rfl ⟨?_,rfl⟩;exact below_setRow (gro HB01.o HB9.o) (ygo _) _
          .have ib:¬ (mn:Int)<((P+1:Nat):Int):=yjz;have ib2:¬ (mn:Int)<(P:Int)+1:=yjz;have HLEN:Hid ((ns row).length+(ns [P]).length<=100000):=Zh (by rw[za9,HRLL.o];simp[ns];have:=HRLB.o;omega);go_wp2_with (first
            | (at_builtin;refine zaw (l:=ns row) (m:=ns [P]) (B:=w1.heap.size) (C:=w1.heap.size) yk5 _ _ yk5 yk5 yk5 (za6 HDS9.o.row ((ygr _ _).alloc (ygo _) _)) (zcz (heap_alloc_new _ _) hge) HLEN.o (ygw hge yk3) ?_;intro v8 w8 h8 hg8 ho8;have H8:=Zh h8;have HG8:=Zh hg8;have HO8:=Zh ho8;clear h8 hg8 ho8;go_simp)
            | fail)
           go_roundg (256-(j+1))
           case measure=>have:=HMJ.o;omega
           case rel =>
            have hk8:Kept (fun b=>(Value.slice Ar rl cr).ownBlock=some b) W3 _:=((Kept.refl _ _).alloc _).grown HG8.o (fun b e => .inl e);have hds8:=HDS9.o.pushR (k:=P) hk8 ylg ykl;have hb8:=HB9.o.trans (hk8.below HDS9.o.hB (fun b e=>(ygs HDS9.o.row b e).1));have hrw:rowS (stp (cn t0)) mn (C-(row++[P]).length) (row++[P]).length ((ts'++[t1]).map cn) (row++[P])=rowS (stp (cn t0)) mn C 0 (ts.map cn) []:=by
             have:=HRC.o;have e:=zzw (k:=C-(rl+1)) (row:=row) HNN.o (most:=mn) (by rw[yh8,HP.o];omega);rw[yh8,HP.o,←HCT.o] at e;rw[←HRW'.o,ygu,HRLL.o,yi7,show C-rl=(C-(rl+1))+1 by omega,e];simp
            obtain⟨z,hz⟩:=HZ.o;exact⟨j+1,_,ts'++[t1],row++[P],by go_num,by omega,rfl,hds8,hb8,fun t ht=>by
             rw[yh7,yha] at ht;rcases ht with ht|rfl
             .exact HGD'.o t ht
             .exact HGT.o,by rw[ygu,yi7,HP.o];omega,by rw[HR1.o,ygu,HRLL.o];rfl,hrw,z++[t1],by rw[hz,yhe]⟩
       .have hFr:F j≠rl:=by rw[hFj,hrl];exact fun e=>hf (htk.1.1 e)
        have hr1:cntK (keyL S) (j+1)=rl:=(by rw[htk.2,if_neg hf,hrl];rfl);have hne:((F j:Int) != (rl:Int))=true:=yk8;have HR1:=Zh hr1;clear hr1 hFr hFj htk hf hds hbl hrl;go_wp2;go_roundg (256-(j+1))
        case measure=>have:=HMJ.o;omega
        case rel=>exact⟨j+1,vO',ts',row,by go_num,by omega,rfl,HDS'.o,HBL'.o,HGD'.o,by rw[HP.o];exact hsl',by rw[HR1.o];exact HRLL.o,by rw[HRLL.o];exact HRW'.o,HZ.o⟩
      .have hje:j=256:=yjz;subst hje;have hrC:rl=C:=(by rw[HCK.o];exact hrl);have hend:rowS (stp (cn t0)) mn C 0 (ts.map cn) []=some (ts'.map cn,row):=by
        rw[←HRW'.o,show C-rl=0 by omega];rfl
       have HEND:=Zh hend;obtain⟨vs,n1,n2,n3,n4⟩:=hds.nxt.mem;obtain⟨An,cN,hfn⟩:=zaf n2;subst hfn;have N1:=Zh n1;have N2:=Zh n2;have N3:=Zh n3;have N4:=Zh n4;have hn2:=n2;rw[HRW.o] at hn2 HDS';have hbx:=HDS'.o.box;have NU:=Zh hn2;have HBX:=Zh hbx;have c257:=hbx.nxt;have hqn:q<=100000:=yjz;have hge:=hds.hB;clear n1 n2 n3 n4 hn2 hend hrl hds hbx hbl;go_wp2_with (first
        | (at_builtin;refine zg3 (B:=w1.heap.size) Try.infoRowP Try.underlying35 rfl yk6 yk6 yk5 _ _ yk5 yk5 (za6 NU.o ((ygr _ _).alloc (ygo _) _)) yk5 (heap_alloc_new _ _) rfl yle hqn (ygw hge yk3) ?_;intro v8 w8 h8 hg8 ho8;obtain⟨A8,c8,hf8⟩:=zaf h8;subst hf8;have hk8:Kept (fun b=>(Value.slice An q cN).ownBlock=some b) wr w8:=((Kept.refl _ _).alloc _).grown hg8 (fun b e => .inl e);have hb8:=HBX.o.oth hk8 (zdb NU.o (l:=[38]) yk6) yk3;have y8:=hb8.nxt;have f8:=hb8.frozen 257;have H8:=Zh h8;have HK8:=Zh hk8;have HBX8:=Zh hb8;clear h8 hg8 ho8 hk8 hb8;go_simp)
        | fail)
       go_roundg (mn+1-(q+1))
       case measure=>have:=HMQ.o;omega
       case rel =>
        have hk9:Kept (fun b=>(Value.slice An q cN).ownBlock=some b∨b=gm) wr (w8.setCell ⟨gm,257,none⟩ (.slice A8 (q+1) c8)):=(HK8.o.mono (fun b e => .inl (.inl e)):Kept (fun b=>(Value.slice An q cN).ownBlock=some b∨b=gm) wr w8).setCell (a:=⟨gm,257,none⟩) (.inl (.inr rfl)) _;have hr9:(w8.setCell ⟨gm,257,none⟩ (.slice A8 (q+1) c8)).ownsRow w1.heap.size 44 1 (.slice A8 (q+1) c8) (q+1) (vs++[.slice Ar C cr]):=
         zb9 H8.o ((Kept.refl (fun b=>b=gm) w8).setCell (a:=⟨gm,257,none⟩) (.inl rfl) _) (zdm HBX8.o (l:=[44]) yk6) yk3
        have hn2:=N2.o;rw[HRW.o] at hn2;obtain⟨O',hds9⟩:=DS.pushN HDS'.o N1.o (by rw[HRW.o];exact hn2) N3.o N4.o hk9 (HBX8.o.setNxt _) (by rw[HRW.o,hrC];exact hr9);have hb9:=HBL'.o.trans (hk9.below hge (fun b e=>e.elim (fun e=>(ygs NU.o b e).1) (fun e=>by subst e;exact HDS'.o.gB)));refine⟨q+1,O',_,_,ts',rows++[row],by go_num,by rw[HP.o];omega,rfl,hds9,hb9,HGD'.o,by rw[HP.o];exact hsl',by rw[ygu,HRW.o];rfl,?_⟩;rw[←HTG.o,show mn+1-q=(mn+1-(q+1))+1 by omega];exact (zun (by rw[yhj,HT0.o];rfl) HEND.o).symm
    .have hqe:q=T:=yjz;have hTn:TGT=some (ts.map cn,rows):=by
      rw[←HTG.o,show mn+1-q=(mn-q)+1 by omega];exact zuo (yh6 (by rw[yh8,HT.o];omega))
     obtain⟨An,cN,hfn⟩:=HDS.o.nxt.form;obtain⟨Ao,co,hfo⟩:=zaf HDS.o.ots;have HFN:=Zh hfn;have HFO:=Zh hfo;have HRESB:=Zh (HRES0.o.stays HBL.o);have HTN:=Zh hTn;clear hfn hfo hTn hqe;go_wp2_with (first
      | (refine zbh yk5 _ yk5 yk5 Try.underlying38 rfl Try.sizeMR HDS.o.box ?_;go_simp)
      | (refine zab yk5 _ _ yk5 yk5 yk5 Try.sizeMR (by rw[HFN.o];rfl) (by rw[HFO.o];rfl) HRESB.o ?_;intro hbx;have HBX1:=Zh hbx;clear hbx;go_simp)
      | fail)
     have hTn:=HTN.o;subst hTn;refine bodyPost_ret (v := .tuple #[.agg (zac F C vN vO),.int .i64 0]) (zb0 Try.results8 rfl rfl Try.underlying38 rfl Try.sizeMR HBX1.o) rfl ⟨below_setRow (gro HB01.o HBL.o) (ygo _) _,?_⟩;have hkp:Kept (fun b=>b=w.heap.size) wr (wr.setRow w.heap.size (zac F C vN vO)):=zci (Kept.refl (fun b=>b=w.heap.size) wr) (.inl rfl) _;have hw01:=HK1.o;have hN2:=(HDS.o.nxt.oth hkp (zdm HRESB.o yk6)).low (yix hw01);have hO2:=zb2 (zb9 HDS.o.ots hkp (zdm HRESB.o (l:=[51]) yk6) yk3) (yix hw01);have hmm:(ts.map cn).map (fun s=>zbr (RR L bs ln) s (0,0))=ts.map tl:=by
      rw[List.map_map];exact yj0 fun t ht=>HOUT.o t (HGD.o t ht)
     show ∃ vN vO O,_
     rw[HCF.o.1,HCF.o.2,hmm];exact⟨vN,vO,fun b=>O b∨vO.ownBlock=some b,rfl,hN2.more fun b e => .inl e,hO2,fun b e => .inr e⟩
end Go.Proofs.Ytipfgpfplakhiaa
