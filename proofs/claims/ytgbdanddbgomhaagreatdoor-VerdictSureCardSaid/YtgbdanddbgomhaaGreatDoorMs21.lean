import Derived.Test.YtgbdanddbgomhaaGreatDoorMs19
set_option linter.unusedVariables false
set_option linter.unusedSimpArgs false
namespace Go.Proofs.YtgbdanddbgomhaaGreatDoor
open Go Go.RowKit
section
attribute [local go_sem ↓] Go.wp_at_zero Go.wp_at_succ
theorem Tryz.infoPart:(Tryz.prog.info? 80).map (fun i=>(i.zero,i.size,i.bytes))=some (some (.agg #[.pointer none,.slice none 0 0,.int .i64 0,.slice none 0 0]),4,64):=by kernel_rfl
def RetKid (B:Nat) (w:World) (xs:List Int) (Γ:Ghost) (u:T) (e:Ending) (w':World):Prop:=
 ∃ g o Γ',e = .returned (.pointer (some ⟨g,o,none⟩))∧Γ'.F g o=some u∧Inv w' B xs Γ'∧Ext B w w' Γ Γ'∧∀ g,Γ'.M g->Γ.M g
set_option maxHeartbeats 1000000 in
theorem zn2 {w:World} {B:Nat} {xs:List Int} {Γ:Ghost} {g o gk:Nat} {t:T} (h:Inv w B xs Γ) (e:Γ.F g o=some t) (i:Nat) (hi:i<t.kids.length)
   (hc:w.cell? ⟨g,o+1,none⟩=some (.slice (some ⟨gk,0,none⟩) t.kids.length t.kids.length)) (hF:Γ.F gk (i*4)=some (t.kids[i]'hi)):
   Calls Tryz.prog 51 #[.pointer (some ⟨g,o,none⟩),.int .i64 i] w (RetKid B w xs Γ (t.kids[i]'hi)):=by
 have hn:∀ W,(binOp .eql 77 (.slice (some ⟨gk,0,none⟩) t.kids.length t.kids.length) (.slice none 0 0)).run Tryz.prog W = .ok (.bool false) W:=fun W=>Lib.run_eql_slice_some_nil W _ _ _ Tryz.underlying77
 have HH:=Zh h;have HF:=Zh hF;have hlen:=(h.part g o t e).2.wf.len;clear h e hF;have i1:(i:Int)<(t.kids.length:Int):=(by omega);go_enter Tryz.func51,Tryz.ntmps51;go_wp2;go_ret;exact⟨gk,i*4,Γ,rfl,HF.out,HH.out,Ext.refl _ _ _,fun _ h=>h⟩
def cellsK (ga n k:Nat):List Value:=(List.range (n*4)).map fun j=>if j % 4=0 then (if j / 4<k then Value.pointer (some ⟨ga,j / 4*8,none⟩) else Value.pointer none) else if j % 4=2 then Value.int .i64 0 else Value.slice none 0 0
theorem zbp (ga n k:Nat):(cellsK ga n k).length=n*4:=by simp[cellsK]
theorem zbm (ga n k j:Nat) (h:j<n*4):(cellsK ga n k)[j]?=some (if j % 4=0 then (if j / 4<k then Value.pointer (some ⟨ga,j / 4*8,none⟩) else Value.pointer none) else if j % 4=2 then Value.int .i64 0 else Value.slice none 0 0):=by simp[cellsK,h]
theorem zis (ga n k:Nat) (h:k<n):(cellsK ga n k).set (k*4) (.pointer (some ⟨ga,k*8,none⟩))=cellsK ga n (k+1):=by
 apply List.ext_getElem?;intro j;rw[List.getElem?_set,zbp]
 by_cases hj:j<n*4
 . rw[zbm _ _ _ _ hj,zbm _ _ _ _ hj]
   by_cases hk:k*4=j
   . subst hk;rw[if_pos rfl,if_pos hj,if_pos (by omega),if_pos (by omega),show k*4 / 4=k by omega]
   . rw[if_neg hk]
     by_cases h4:j % 4=0
     . rw[if_pos h4,if_pos h4]
       by_cases hjk:j / 4<k
       . rw[if_pos hjk,if_pos (by omega)]
       . rw[if_neg hjk,if_neg (by omega)]
     . rw[if_neg h4,if_neg h4]
 . rw[List.getElem?_eq_none (by rw[zbp];omega),List.getElem?_eq_none (by rw[zbp];omega)]
   by_cases hk:k*4=j
   . omega
   . rw[if_neg hk]
theorem zgj (ga n:Nat):(madeCells (Value.agg #[.pointer none,.slice none 0 0,.int .i64 0,.slice none 0 0]).cells (n*4)).toList=cellsK ga n 0:=by
 apply List.ext_getElem?;intro j
 by_cases hj:j<n*4
 . rw[zbm _ _ _ _ hj];have h4:j % 4=0∨j % 4=1∨j % 4=2∨j % 4=3:=(by omega);rcases h4 with h4|h4|h4|h4 <;> simp[madeCells,Value.cells,hj,h4]
 . rw[List.getElem?_eq_none (l:=cellsK ga n 0) (by rw[zbp];omega)];simp[madeCells,hj]
theorem zl1 {w:World} {t:T} {ga n c:Nat} (h:Tree w (fun _=>True) t (.slice (some ⟨ga,0,none⟩) n c)) (hn:0<n):∃ cur,w.heap[ga]?=some (.cells cur 41 (0,0)):=by
 cases h with
 | row t g cap cur ks hg hok hn h0 hcap hmax hsize hc hk=>exact⟨cur,hg⟩
set_option maxRecDepth 20000 in
set_option maxHeartbeats 2000000 in
theorem zn1 {w:World} {B:Nat} {xs:List Int} {Γ:Ghost} {g o:Nat} {t:T} (h:Inv w B xs Γ) (hB:B<=w.heap.size) (e:Γ.F g o=some t) (i:Nat) (hi:i<t.kids.length)
   (hc:w.cell? ⟨g,o+1,none⟩=some (.slice none 0 0)):
   Calls Tryz.prog 51 #[.pointer (some ⟨g,o,none⟩),.int .i64 i] w (RetKid B w xs Γ (t.kids[i]'hi)):=by
 have hn:∀ W,(binOp .eql 77 (.slice none 0 0) (.slice none 0 0)).run Tryz.prog W = .ok (.bool true) W:=fun W=>Lib.run_eql_slice_nil_nil W _ _ Tryz.underlying77
 have hp:=(h.part g o t e).2;have hlen:=hp.wf.len;have hwf:=hp.wf;obtain⟨gn,on,kn,n1,n2,n3,n4⟩:=hp.node;obtain⟨A,nk,ck,rfl⟩:=n3.form;obtain⟨hnk,_⟩:=n3.bound;have hn0:0<nk:=(by omega);have n7:=n2 7 _ rfl;obtain⟨ga,rfl⟩:∃ ga,A=some ⟨ga,0,none⟩:=by
   obtain⟨ga,_,_,_,e1,_⟩:=NodeAt.kid n3 0 (by omega);exact⟨ga,e1⟩
 have hgn:=n2.lt;obtain⟨i0,hi0,hz0,hz1,hz2⟩:=info_parts Tryz.infoPart;obtain⟨w1,hr,hown,hg⟩:=run_make_full (P:=Tryz.prog) w w.heap.size 77 80 i0 _ 4 Tryz.underlying77 hi0 hz0 hz1 .i64 .i64 nk (by rw[hz2];omega) (by unfold maxLen;omega) (Nat.le_refl _);obtain⟨curp,hblk⟩:=hp.block;have hgw:=za0 hblk;have hb1:Below w.heap.size w w1:=(Below.refl _ _).grown hg (Nat.le_refl _) (fun j e=>by cases e);have c1:=za2 hc hb1;have c0:=za2 n1 hb1;have hfz:∀ j,w1.frozen? ⟨g,j,none⟩=false:=fun j=>by
   have hb:=(hb1.block g hgw).trans hblk;simp[World.frozen?,hb]
 have f1:=hfz (o+1);have c7:=za2 n7 hb1;have hne:g≠gn:=by
   rintro rfl;obtain⟨cn,hcn⟩:=n4;rw[hblk] at hcn;injection hcn with hcn
   injection hcn with _ hcn
   exact absurd hcn (by decide)
 have hsz:w.heap.size<w1.heap.size:=(World.ownsRow.lt hown _ rfl).2;have HOWN:=Zh hown;have HN3:=Zh n3;have HN2:=Zh n2;have HN4:=Zh n4;have HHH:=Zh h;have HE:=Zh e;have HNK:=Zh hnk;clear hfz hown h e hp n2 n3 n4 hnk hi0 hz0 hz1 hz2 hg;go_enter Tryz.func51,Tryz.ntmps51;go_wp2;have b12:w1.grownBy (w1.setCell ⟨g,o+1,none⟩ (.slice (some ⟨w.heap.size,0,none⟩) nk nk)) (some g):=⟨rfl,rfl,rfl,by simp[World.setCell],fun k _ hk=>Below.heap_setCell _ _ _ _ (fun e=>hk (by rw[e]))⟩;have own2:=World.ownsRow.kept HOWN.out b12 (.inr (by simp[Value.ownBlock];omega));rw[zgj ga nk] at own2;have d0:(w1.setCell ⟨g,o+1,none⟩ (.slice (some ⟨w.heap.size,0,none⟩) nk nk)).cell? ⟨g,o,none⟩=some (.pointer (some ⟨gn,on,none⟩)):=(za8 (by intro e;injection e with _ e;omega)).trans c0;have d7:(w1.setCell ⟨g,o+1,none⟩ (.slice (some ⟨w.heap.size,0,none⟩) nk nk)).cell? ⟨gn,on+7,none⟩=some (.slice (some ⟨ga,0,none⟩) nk ck):=(za8 (by intro e;injection e with e _;exact hne e)).trans c7;have d1:(w1.setCell ⟨g,o+1,none⟩ (.slice (some ⟨w.heap.size,0,none⟩) nk nk)).cell? ⟨g,o+1,none⟩=some (.slice (some ⟨w.heap.size,0,none⟩) nk nk):=World.cell?_setCell_same _ _ _ c1;have dg:=zaz (i:=0) ((hb1.block g hgw).trans hblk) ⟨g,o+1,none⟩ (.slice (some ⟨w.heap.size,0,none⟩) nk nk);have dc:∀ q,q≠o+1->(w1.setCell ⟨g,o+1,none⟩ (.slice (some ⟨w.heap.size,0,none⟩) nk nk)).cell? ⟨g,q,none⟩=w.cell? ⟨g,q,none⟩:=fun q hq=>(za8 (by intro e;injection e with _ e;omega)).trans (hb1.cell hgw)
 have HOWN2:=Zh own2;have HB12:=Zh b12;clear own2 b12;generalize hw2:w1.setCell ⟨g,o+1,none⟩ (.slice (some ⟨w.heap.size,0,none⟩) nk nk)=w2 at *;go_loopg [28] nk (fun m' i wr=>∃ j:Nat,i = .int .i64 (j:Int)∧j<=nk∧m'=nk-j∧wr.ownsRow w.heap.size 80 4 (.slice (some ⟨w.heap.size,0,none⟩) nk nk) nk (cellsK ga nk j)∧Below w.heap.size w2 wr)
 case atStart=>exact⟨0,rfl,Nat.zero_le _,rfl,HOWN2.out,Below.refl _ _⟩
 case round =>
   obtain⟨j,rfl,hj,hmj,hor,hbr⟩:=hrel;have e0:=(hbr.cell (p:=⟨g,o,none⟩) hgw).trans d0;have e1:=(hbr.cell (p:=⟨g,o+1,none⟩) hgw).trans d1;have e7:=(hbr.cell (p:=⟨gn,on+7,none⟩) hgn).trans d7;have hs2:=(World.ownsRow.lt hor _ rfl).2;have HOR:=Zh hor;have HBR:=Zh hbr;have HMJ:=Zh hmj;clear hor hbr hmj;have hnk2:nk<=202:=by have:=HNK.out;omega
   by_cases hlt:j<nk
   . have hcell:=HOR.out.cellAt (j*4) (by omega);rw[zbm _ _ _ _ (by omega),if_pos (by omega)] at hcell;have hf:=HOR.out.frozenAt (j*4);have hst:=HOR.out.stored (j*4) (.pointer (some ⟨ga,j*8,none⟩));rw[zis _ _ _ hlt] at hst;have HST:=Zh hst;clear hst;go_wp2;go_region
     all_goals
       go_wp2;go_roundg (nk-(j+1))
       case measure=>have:=HMJ.out;omega
       case rel =>
         refine⟨j+1,by go_num,by omega,rfl,?_,?_⟩
         . exact HST.out.1
         . exact (HBR.out.setCell (Nat.le_refl _) _).drew
   . have hjn:j=nk:=(by omega);have hin:(i:Int)<(nk:Int):=(by have:=HNK.out;omega);go_wp2;go_ret;subst hjn;have hblkr:∀ b,b<w.heap.size->b≠g->wr.heap[b]?=w.heap[b]?:=fun b h1 h2=>(HBR.out.block b h1).trans ((HB12.out.block b (Nat.lt_of_lt_of_le h1 hb1.size) (fun e=>h2 (by injection e))).trans (hb1.block b h1))
     have hst:∀ b,Still w b->wr.heap[b]?=w.heap[b]?:=fun b hs=>hblkr b hs.1 (fun e=>hs.2.1 curp (by rw[e];exact hblk))
     have hgr:wr.heap[g]?=w2.heap[g]?:=HBR.out.block g hgw;have hbe:Below B w wr:=((hb1.mono hB).trans (Below.grown (Below.refl _ _) HB12.out (Nat.le_trans hB (Nat.le_of_lt hsz)) (fun k e=>by injection e with e;rw[←e];exact (HHH.out.part g o t HE.out).1))).trans (HBR.out.mono hB);have hrow:∃ cur,wr.heap[w.heap.size]?=some (.cells cur 80 (0,0)):=by
       rcases HOR.out.2 with ⟨e,_⟩|⟨g',cap',cur,e,_,hg',_⟩
       . cases e
       . injection e with e
         injection e with e
         injection e with e
         exact⟨cur,by rw[e];exact hg'⟩
     have hcl:=fun k (hk:k<j*4)=>(HOR.out.cellAt k hk).trans (zbm ga j j k hk)
     obtain⟨curn,hgan⟩:=zl1 HN3.out hn0;have hga:wr.heap[ga]?=w.heap[ga]?:=hst ga (zai hgan (by decide) (by decide));have hnk:=HNK.out;have hlay:=HHH.out.layKids HE.out w.heap.size (Nat.le_refl _) hB hblkr (by obtain⟨c,h⟩:=dg;exact⟨c,hgr.trans h⟩) (fun q hq=>(HBR.out.cell (p:=⟨g,q,none⟩) hgw).trans (dc q hq)) (by rw[←hnk];exact e1) hc (fun k hk=>?_) hbe
     . exact⟨w.heap.size,i*4,Γ.row w.heap.size t,rfl,zjq Γ w.heap.size i t hi,hlay.1,hlay.2,fun _ h=>h⟩
     . obtain⟨ga',Bk,mk,dk,ek,tk,nk'⟩:=NodeAt.kid HN3.out k hk;injection ek with ek
       injection ek with ek
       subst ek;refine⟨by omega,hrow,hwf.kid (List.getElem_mem hk),⟨ga,k*8,_,?_,nk'.block hga,zb4 tk hst,curn,hga.trans hgan⟩,.inl ?_,⟨0,?_,by omega⟩,.inl ?_⟩
       . rw[hcl (k*4) (by omega),if_pos (by omega),if_pos (by omega),show k*4 / 4=k by omega]
       . rw[hcl (k*4+1) (by omega),if_neg (by omega),if_neg (by omega)]
       . rw[hcl (k*4+2) (by omega),if_neg (by omega),if_pos (by omega)];rfl
       . rw[hcl (k*4+3) (by omega),if_neg (by omega),if_neg (by omega)]
theorem zn0 {w:World} {B:Nat} {xs:List Int} {Γ:Ghost} {g o:Nat} {t:T} (h:Inv w B xs Γ) (hB:B<=w.heap.size) (e:Γ.F g o=some t) (i:Nat) (hi:i<t.kids.length):
   Calls Tryz.prog 51 #[.pointer (some ⟨g,o,none⟩),.int .i64 i] w (RetKid B w xs Γ (t.kids[i]'hi)):=by
 rcases (h.part g o t e).2.kids with hc|⟨gk,hc,hF⟩
 . exact zn1 h hB e i hi hc
 . exact zn2 h e i hi hc (hF i hi)
end
end Go.Proofs.YtgbdanddbgomhaaGreatDoor
