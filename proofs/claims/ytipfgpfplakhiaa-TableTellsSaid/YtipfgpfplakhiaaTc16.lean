import Derived.Test.YtipfgpfplakhiaaTc12
import Derived.Test.YtipfgpfplakhiaaTc7
set_option linter.unusedVariables false
set_option linter.unusedSimpArgs false
set_option maxRecDepth 20000
set_option maxHeartbeats 4000000
namespace Go.Proofs.Ytipfgpfplakhiaa
open Go Go.RowKit
section
section
variable {w w2:World} {B gl:Nat} {s:Lay} {Q:Nat->Prop} {fs:List Value} {ls:List (List Nat)} {ys:List Nat}
structure Seen (w:World) (B gl:Nat) (s:Lay) (Q:Nat->Prop) (p gf cf:Nat) (vp:Value):Prop where
 glc:w.cell? ⟨gl,1,none⟩=some (.slice (some ⟨gf,0,none⟩) s.follow.length cf)
 fc:w.cell? ⟨gf,p,none⟩=some vp
 fz:w.frozen? ⟨gf,p,none⟩=false
 list:Ints w B vp (ns (s.follow.getD p []))
 gfQ:Q gf
 glQ:Q gl
 gfl:gf<w.heap.size
 gll:gl<w.heap.size
 ne:gf≠gl
 vgf:vp.ownBlock≠some gf
 vgl:vp.ownBlock≠some gl
 vQ:∀ b,vp.ownBlock=some b->Q b
theorem LayAt.open (h:LayAt w B gl s Q) (p:Nat) (hp:p<s.follow.length):∃ gf cf vp,Seen w B gl s Q p gf cf vp∧
 ∀ (ys:List Nat) (w2:World) (v':Value),Ints w2 B v' (ns (s.follow.getD p []++ys))->w.grownBy w2 vp.ownBlock->(v'.ownBlock=vp.ownBlock∨v'.ownBlock=some w.heap.size)->
  LayAt (w2.setCell ⟨gf,p,none⟩ v') B gl ⟨s.sets,zcm s.follow p ys⟩ (fun b=>Q b∨v'.ownBlock=some b):=by
 obtain⟨vs,vf,h1,h2⟩:=h.box;obtain⟨fs,h3,h4⟩:=h2.fols;have hpf:p<fs.length:=(by rw[h4.len];exact hp);obtain⟨vp,hvp⟩:∃ vp,fs[p]?=some vp:=⟨_,ygn hpf⟩;rcases h3.2 with ⟨_,h0⟩|⟨gf,cf,cur,rfl,hB,hgf,_⟩
 .omega
 have hl:=h4.get p vp _ hvp (zj9 s.follow p [] hp);have hne:gf≠gl:=za0 hgf h1 yk6;have hv1:∀ b,vp.ownBlock=some b->b≠gf∧b≠gl:=fun b e=>by
  obtain⟨cur',hc⟩:=hl.kind e;exact⟨za0 hc hgf yk6,za0 hc h1 yk6⟩
 have hgfl:=za1 hgf;have hgll:=za1 h1;refine⟨gf,cf,vp,⟨cell_of_row w gl 1 _ _ (0,0) h1,?_,yhh h3 p,hl,h2.folsQ gf rfl,h.glQ,hgfl,hgll,hne,fun e=>(hv1 _ e).1 rfl,fun e=>(hv1 _ e).2 rfl,fun b e=>h4.inQ p vp b hvp e⟩,fun ys w2 v' hv hg hor=>?_⟩
 .rw[ygt h3 p yjz,hvp]
 .have hput:=h4.put (fun b e=>(h.ge b e).2) p hp vp v' hvp hg hv hor;have hgf2:w2.heap[gf]?=some (.cells cur 44 (0,0)):=(hg.block gf hgfl fun e=>(hv1 gf e.symm).1 rfl).trans hgf;have hgl2:=(hg.block gl hgll fun e=>(hv1 gl e.symm).2 rfl).trans h1;have hset:∀ b,b≠gf->(w2.setCell ⟨gf,p,none⟩ v').heap[b]?=w2.heap[b]?:=fun b hb=>ygz _ _ _ _ hb
  have hkind:∀ b,v'.ownBlock=some b->b≠gf:=fun b e=>by
   obtain⟨cur',hc⟩:=hv.kind e;exact za0 hc hgf2 yk6
  have h32:w2.ownsRow B 44 1 (.slice (some ⟨gf,0,none⟩) s.follow.length cf) s.follow.length fs:=za7 h3 fun b e hb=>by
   injection e with e
   subst e;exact hg.block gf hb fun e'=>(hv1 gf e'.symm).1 rfl
  refine⟨fun b e=>?_,.inl h.glQ,vs,_,(hset gl hne.symm).trans hgl2,⟨za7 h2.sets fun b e hb=>?_,fun b e => .inl (h2.setsQ b e),⟨fs.set p v',?_,?_⟩,fun b e => .inl (h2.folsQ b e)⟩⟩
  .rcases e with e|e
   .have:=h.ge b e;have hsz:=hg.size;exact⟨this.1,by simp only[World.setCell,yj8];omega⟩
   .have:=hv.in e;exact⟨this.1,by simp only[World.setCell,yj8];exact this.2⟩
  .obtain⟨cur',hc⟩:=za8 h2.sets e;have hb1:b≠gf:=za0 hc hgf yk6;refine (hset b hb1).trans (hg.block b hb fun e'=>?_);obtain⟨cur'',hc'⟩:=hl.kind e'.symm;exact za0 hc' hc yk6 rfl
  .have:=(yhk h32 p v').1;rw[show (zcm s.follow p ys).length=s.follow.length from zdw _ _ _];exact this
  .refine⟨hput.len,fun i v l e1 e2=>(hput.get i v l e1 e2).block fun b e hb=>hset b ?_,hput.inQ,hput.apart⟩;obtain⟨cur',hc⟩:=(hput.get i v l e1 e2).kind e;exact za0 hc hgf2 yk6
end
end
section
attribute [local go_sem ↓] Go.wp_at_zero Go.wp_at_succ
structure TwoS (vx1 vx2 vy1 vy2:Value):Prop where
 a11:∀ b,vx1.ownBlock=some b->vy1.ownBlock≠some b
 a12:∀ b,vx1.ownBlock=some b->vy2.ownBlock≠some b
 a21:∀ b,vx2.ownBlock=some b->vy1.ownBlock≠some b
 a22:∀ b,vx2.ownBlock=some b->vy2.ownBlock≠some b
def zcc (w:World) (B gl C:Nat) (s:Lay) (x:Str) (Q P:Nat->Prop) (e:Ending) (w':World):Prop:=
 ∃ v1 v2 Q',e = .returned (.agg #[v1,v2,.bool x.empty])∧LayAt w' B gl s Q'∧StrAt w' C v1 v2 x Q'∧Kept P w w'∧∀ b,Q' b->Q b∨w.heap.size<=b
theorem zp1 {w:World} {B gl C a b c:Nat} {s:Lay} {Q:Nat->Prop} {x y:Str} {vx1 vx2 vy1 vy2:Value} (hlay:LayAt w B gl s Q) (hx:StrAt w C vx1 vx2 x Q) (hy:StrAt w C vy1 vy2 y Q)
 (hxy:TwoS vx1 vx2 vy1 vy2) (hB:B<=w.heap.size) (hC:C<=w.heap.size) (hl:LInv s) (n1:Nice s a b x) (n2:Nice s b c y) (hc:c<=s.sets.length) (h1000:s.sets.length<=1000):
 Calls Try.prog 80 #[.pointer (some ⟨gl,0,none⟩),.agg #[vx1,vx2,.bool x.empty],.agg #[vy1,vy2,.bool y.empty]] w
  (zcc w B gl C (zbo s x y) (zb4 x y) Q (fun b=>Q b∨vx1.ownBlock=some b∨vx2.ownBlock=some b)):=by
 obtain⟨A1,m1,c1,rfl⟩:=hx.first.form3
 obtain⟨A3,m3,c3,rfl⟩:=hy.first.form3
 obtain⟨A4',m4',c4',rfl⟩:=hy.last.form3;have hbc:b<=c:=(by obtain⟨R,g⟩:=n2;exact g.le);have l1:=n1.len;have l2:=n2.len;have hxl:∀ p∈x.last,p<s.follow.length:=fun p hp=>by
  obtain⟨R,g1⟩:=n1;obtain⟨R2,g2⟩:=n2;rw[hl.len];have:=(g1.last p hp).2;have:=g2.le;omega
 have hbd:∀ (k:Nat) q,q∈x.last->((zap s.follow (x.last.take k) y.first).getD q []).length<=2000:=by
  intro k q hq;obtain⟨R,g1⟩:=n1;have hb:=g1.last q hq;have hr:=zg8 _ a b (g1.st q hb.1 hb.2) fun p hp=>g1.stay q p hb.1 hb.2 hp
  have hnd:x.last.Nodup:=g1.sl.imp fun h=>Nat.ne_of_lt h
  rw[zgs _ _ _ (fun p hp=>hxl p (List.mem_of_mem_take hp)) (hnd.sublist (List.take_sublist _ _))];split
  .rw[ygu];omega
  .omega
 have bX:=((BoxS.new w (.slice A1 m1 c1) vx2 x.empty).alloc (.cells #[(.slice A3 m3 c3),(.slice A4' m4' c4'),.bool y.empty] 141)).alloc (.cells #[.slice none 0 0,.slice none 0 0,.bool false] 141);have bY:=(BoxS.new (w.alloc (.cells #[(.slice A1 m1 c1),vx2,.bool x.empty] 141)) (.slice A3 m3 c3) (.slice A4' m4' c4') y.empty).alloc (.cells #[.slice none 0 0,.slice none 0 0,.bool false] 141);have bR:=BoxS.new ((w.alloc (.cells #[(.slice A1 m1 c1),vx2,.bool x.empty] 141)).alloc (.cells #[(.slice A3 m3 c3),(.slice A4' m4' c4'),.bool y.empty] 141)) (.slice none 0 0) (.slice none 0 0) false;have hB0:Below w.heap.size w (((w.alloc (.cells #[(.slice A1 m1 c1),vx2,.bool x.empty] 141)).alloc (.cells #[(.slice A3 m3 c3),(.slice A4' m4' c4'),.bool y.empty] 141)).alloc (.cells #[.slice none 0 0,.slice none 0 0,.bool false] 141)):=
  (((ygr _ _).alloc (ygo _) _).alloc yk3 _).alloc yk8 _
 simp only[yh0] at bY bR;obtain⟨A2,c2,e2,-,-⟩:=hx.last.news;rw[za9] at e2;subst e2;have hsz:=hB0.size;obtain⟨L,hL⟩:∃ L,x.last.length=L:=⟨_,rfl⟩;rw[hL] at bX bY bR hB0 hx hxy hsz ⊢;obtain⟨ex,hex⟩:∃ e,x.empty=e:=⟨_,rfl⟩;obtain⟨ey,hey⟩:∃ e,y.empty=e:=⟨_,rfl⟩;rw[hex] at bX bY bR hB0 hsz ⊢;rw[hey] at bX bY bR hB0 hsz ⊢;have HLAY:=Zh (hlay.stays hB0);have HX:=Zh (hx.stays hB0);have HY:=Zh (hy.stays hB0);have HBX:=Zh bX;have HBY:=Zh bY;have HBR:=Zh bR;have HB0:=Zh hB0;have HSZ:=Zh (And.intro hB (And.intro hC hsz));have HE:=Zh (And.intro hex hey);have HL:=Zh hL;have HGE:=Zh hlay.ge;have HXY:=Zh hxy;have HXL:=Zh hxl;have HBD:=Zh hbd;have HLI:=Zh hl;have H12:=Zh (And.intro l1 l2);have HN:=Zh (And.intro n1 n2);have HC:=Zh hc;have HBC:=Zh hbc;have H1000:=Zh h1000;clear hlay hx hy bX bY bR hB0 hB hC hex hey hL hxy hxl hbd hl l1 l2 n1 n2 hc hbc h1000 hsz;go_enter Try.func80,Try.ntmps80;go_wp2;generalize hw3:(((w.alloc (.cells #[(.slice A1 m1 c1),.slice A2 L c2,.bool ex] 141)).alloc (.cells #[(.slice A3 m3 c3),(.slice A4' m4' c4'),.bool ey] 141)).alloc (.cells #[.slice none 0 0,.slice none 0 0,.bool false] 141))=w3 at *;clear hw3;go_loopg [13] L (fun m i wr=>∃ k:Nat,i = .int .i64 (k:Int)∧k<=L∧m=L-k∧∃ Qr,LayAt wr B gl ⟨s.sets,zap s.follow (x.last.take k) y.first⟩ Qr∧(∀ b,Qr b->Q b∨w3.heap.size<=b)∧Kept Q w3 wr)
 case atStart=>exact⟨0,rfl,ygy _,rfl,Q,by simpa [zap] using HLAY.o,fun b h => .inl h,Kept.refl _ _⟩
 case round =>
  obtain⟨k,rfl,hk,hmk,Qr,hlr,hqr,hkr⟩:=hrel;have HMK:=Zh hmk;clear hmk
  by_cases hkl:k<L
  .have hkl':k<x.last.length:=(by rw[HL.o];exact hkl);have hxw:=HX.o.off hkr (Q':=Q) fun b h => .inl h
   have hyw:=HY.o.off hkr (Q':=Q) fun b h => .inl h
   obtain⟨g2,c2',e2,hC2,hg2,hcell⟩:=hxw.last.at k (by rw[za9];exact hkl');rw[za9,HL.o] at e2;simp only[Value.slice.injEq] at e2;obtain⟨rfl,-,rfl⟩:=e2;have hpl:=HXL.o _ (yhb hkl');have htk:=zov s.follow x.last y.first k hkl'
   have hce:(ns x.last)[k]'(by rw[za9];exact hkl')=((x.last[k]'hkl':Nat):Int):=(by simp[ns]);rw[hce] at hcell;obtain⟨p,hp⟩:∃ p,x.last[k]'hkl'=p:=⟨_,rfl⟩;have hbd:=HBD.o k _ (yhb hkl');rw[hp] at hpl htk hcell hbd;have hlr':p<(⟨s.sets,zap s.follow (x.last.take k) y.first⟩:Lay).follow.length:=by show p<(zap s.follow (x.last.take k) y.first).length;rw[zch];exact hpl
   obtain⟨gf,cf,vp,seen,close⟩:=hlr.open p hlr';have cgl:=seen.glc;rw[show (⟨s.sets,zap s.follow (x.last.take k) y.first⟩:Lay).follow.length=s.follow.length from zch _ _ _] at cgl;have cgf:=seen.fc;have fgf:=seen.fz;have hQw:∀ b,w.heap.size<=b->¬ Q b:=fun b h h'=>by have:=(HGE.o b h').2;omega
   have byw:=HBY.o.off hkr (hQw _ yjz);have cy1:=byw.cell.1;have p0:(0:Int)<=(p:Int):=yjz;obtain⟨nF,hnF⟩:∃ n,s.follow.length=n:=⟨_,rfl⟩;rw[hnF] at hpl cgl;have p1:(p:Int)<(nF:Int):=yjz;have k0:(0:Int)<=(k:Int):=yjz;have k1:(k:Int)<(L:Int):=yjz;have hL9:L<=1000:=(by have:=H12.o.1.2;have:=HL.o;have:=H1000.o;have:=HC.o;have:=HBC.o;omega);have hyl:=H12.o.2.1;have h1000:=H1000.o;have hc:=HC.o;have hBw:B<=wr.heap.size:=(by have:=HSZ.o;have:=hkr.size;omega);have hlist:Ints wr B vp (ns ((zap s.follow (x.last.take k) y.first).getD p [])):=seen.list;have HLIST:=Zh hlist;have HYL:=Zh hyw.first
   have HS:=Zh seen;have HCL:=Zh close;have HTK:=Zh htk;have HLR:=Zh hlr;have HQR:=Zh hqr;have HKR:=Zh hkr;clear hlist hxw hyw hce htk hlr' seen close byw hlr hqr hkr hQw hp hnF;go_upto_region 4 with fail
   go_region_law (first
    | (refine zb1 rfl _ _ yk5 yk5 yk5 HLIST.o HYL.o ylj hBw ?_;intro v4 w4 i4 g4 o4;obtain⟨A4,n4,c4,rfl⟩:=i4.form3;have cgl4:w4.cell? ⟨gl,1,none⟩=some (.slice (some ⟨gf,0,none⟩) nF cf):=(yhs (g4.block gl HS.o.gll (fun e=>HS.o.vgl e.symm))).trans cgl;have cgf4:w4.cell? ⟨gf,p,none⟩=some vp:=(yhs (g4.block gf HS.o.gfl (fun e=>HS.o.vgf e.symm))).trans cgf;have fgf4:w4.frozen? ⟨gf,p,none⟩=false:=(yji (g4.block gf HS.o.gfl (fun e=>HS.o.vgf e.symm))).trans fgf)
    | fail)
   all_goals
    go_wp2;go_roundg (L-(k+1))
    case measure=>have:=HMK.o;omega
    case rel =>
     have hg:wr.grownBy w4 vp.ownBlock:=⟨g4.os,g4.tape,g4.output,g4.size,g4.block⟩;have hclose:=HCL.o y.first w4 _ (by rw[zef];exact i4) hg o4
     have hnew:∀ b,Qr b∨(Value.slice A4 n4 c4).ownBlock=some b->Q b∨w3.heap.size<=b:=by
      rintro b (e|e)
      .exact HQR.o b e
      .rcases o4 with e2|e2
       .exact HQR.o b (HS.o.vQ b (e2.symm.trans e))
       .rw[e] at e2;injection e2 with e2
        have e3:b=wr.heap.size:=e2;have:=HKR.o.size;exact .inr yjz
     refine⟨k+1,by go_num,by omega,rfl,_,?_,hnew,?_⟩
     .rw[HTK.o];exact hclose
     .exact (HKR.o.grown hg fun b e=>HQR.o b (HS.o.vQ b e)).setCell (HQR.o gf HS.o.gfQ) _
  .have hkL:k=L:=yjz;subst hkL;have htl:x.last.take k=x.last:=(by rw[←HL.o];exact yhn);rw[htl] at hlr;have hxw:=HX.o.off hkr (Q':=Qr) hqr;have hyw:=HY.o.off hkr (Q':=Qr) hqr;have hQw:∀ b,w.heap.size<=b->¬ Q b:=fun b h h'=>by have:=(HGE.o b h').2;omega
   have bxw:=HBX.o.off hkr (hQw _ (ygo _));have byw:=HBY.o.off hkr (hQw _ yjz);have brw:=HBR.o.off hkr (hQw _ yjz);obtain⟨cx0,cx1,cx2⟩:=bxw.cell;obtain⟨cy0,cy1,cy2⟩:=byw.cell;obtain⟨cr0,cr1,cr2⟩:=brw.cell;obtain⟨fr0,fr1,fr2⟩:=brw.frozen;have hlt:=brw.lt;have hl1:=H12.o.1;have hl2:=H12.o.2;have hcs:=HC.o;have hbc:=HBC.o;have h1000:=H1000.o;have hCw:C<=wr.heap.size:=(by have:=HSZ.o;have:=hkr.size;omega);have X1:=Zh (hxw.first);have X2:=Zh (hxw.last);have Y1:=Zh (hyw.first);have Y2:=Zh (hyw.last);have HXW:=Zh hxw;have HYW:=Zh hyw;have BXW:=Zh bxw;have BYW:=Zh byw;have BRW:=Zh brw;have HLR:=Zh hlr;have HQR:=Zh hqr;have HKR:=Zh hkr;have HQW:=Zh hQw;have HKL:=Zh htl;clear htl hkl hk hxw hyw bxw byw brw hlr hqr hkr hQw;have N1:∀ b,(Value.slice A1 m1 c1).ownBlock=some b->b≠w.heap.size+1+1∧b<wr.heap.size∧¬ Qr b:=fun b e=>by
    obtain⟨cur,hc⟩:=X1.o.kind e;exact⟨za0 hc BRW.o yk6,(X1.o.in e).2,HXW.o.out1 b e⟩
   have N2:∀ b,(Value.slice A2 k c2).ownBlock=some b->b≠w.heap.size+1+1∧b<wr.heap.size∧¬ Qr b:=fun b e=>by
    obtain⟨cur,hc⟩:=X2.o.kind e;exact⟨za0 hc BRW.o yk6,(X2.o.in e).2,HXW.o.out2 b e⟩
   have N4:∀ b,(Value.slice A4' m4' c4').ownBlock=some b->b≠w.heap.size+1+1∧b<wr.heap.size∧¬ Qr b:=fun b e=>by
    obtain⟨cur,hc⟩:=Y2.o.kind e;exact⟨za0 hc BRW.o yk6,(Y2.o.in e).2,HYW.o.out2 b e⟩
   have Q6:∀ b,Qr b->b≠w.heap.size+1+1∧b<wr.heap.size:=fun b e=>⟨fun e2=>by
    rcases HQR.o b e with h|h
    .exact HQW.o b yjz h
    .have:=HBR.o.lt;omega,(HLR.o.ge b e).2⟩
   have NN1:=Zh N1;have NN2:=Zh N2;have NN4:=Zh N4;have QQ6:=Zh Q6;have hsz3:=HSZ.o.2.2;clear N1 N2 N4 Q6;cases ex <;> cases ey
   .have hj:zb4 x y=⟨x.first,y.last,false⟩:=ylf;have HJ:=Zh hj;clear hj;obtain⟨dx0,dx1,dx2⟩:=(BXW.o.alloc (.cells #[.slice A1 m1 c1,.slice A4' m4' c4',.bool false] 141)).cell;obtain⟨dy0,dy1,dy2⟩:=(BYW.o.alloc (.cells #[.slice A1 m1 c1,.slice A4' m4' c4',.bool false] 141)).cell;obtain⟨dr0,dr1,dr2⟩:=(BRW.o.alloc (.cells #[.slice A1 m1 c1,.slice A4' m4' c4',.bool false] 141)).cell;obtain⟨er0,er1,er2⟩:=(BRW.o.alloc (.cells #[.slice A1 m1 c1,.slice A4' m4' c4',.bool false] 141)).frozen;obtain⟨dn0,dn1,dn2⟩:=(BoxS.new wr (.slice A1 m1 c1) (.slice A4' m4' c4') false).cell;obtain⟨en0,en1,en2⟩:=(BoxS.new wr (.slice A1 m1 c1) (.slice A4' m4' c4') false).frozen;go_wp2;refine zcg (x:=6) rfl rfl rfl ((BRW.o.put _ _ _).alloc _) ?_;rw[HJ.o];have K1:Kept (fun b=>b=w.heap.size+1+1) wr ((((wr.setCell ⟨w.heap.size+1+1,0,none⟩ (.slice A1 m1 c1)).setCell ⟨w.heap.size+1+1,1,none⟩ (.slice A4' m4' c4')).setCell ⟨w.heap.size+1+1,2,none⟩ (.bool false)).alloc (.cells #[.slice A1 m1 c1,.slice A4' m4' c4',.bool false] 141)):=(((((Kept.refl (fun b=>b=w.heap.size+1+1) wr).setCell (a:=⟨w.heap.size+1+1,0,none⟩) (.inl rfl) _).setCell (a:=⟨w.heap.size+1+1,1,none⟩) (.inl rfl) _).setCell (a:=⟨w.heap.size+1+1,2,none⟩) (.inl rfl) _).alloc _);have I1:=X1.o.off K1 fun b e=>(NN1.o b e).1
    have I2:=Y2.o.off K1 fun b e=>(NN4.o b e).1
    have O1:=NN1.o;have O2:=NN4.o;have AP:∀ b,(Value.slice A1 m1 c1).ownBlock=some b->(Value.slice A4' m4' c4').ownBlock≠some b:=HXY.o.a12;have LF:=HLR.o.off K1 (fun b h=>(QQ6.o b h).1);have KF:=((Kept.of_below (fun b=>Q b∨(Value.slice A1 m1 c1).ownBlock=some b∨(Value.slice A2 k c2).ownBlock=some b) HB0.o).trans HKR.o fun b h => .inl (.inl h)).trans K1 (fun b h => .inr (by have h':b=w.heap.size+1+1:=h;omega));exact⟨_,_,Qr,rfl,LF,⟨I1,I2,AP,fun b e=>(O1 b e).2.2,fun b e=>(O2 b e).2.2⟩,KF,fun b h=>(HQR.o b h).elim .inl fun h => .inr yjz⟩
   .have hj:zb4 x y=⟨x.first,x.last++y.last,false⟩:=ylf;have HJ:=Zh hj;clear hj;obtain⟨dx0,dx1,dx2⟩:=(BXW.o.alloc (.cells #[.slice A1 m1 c1,.slice A4' m4' c4',.bool false] 141)).cell;obtain⟨dy0,dy1,dy2⟩:=(BYW.o.alloc (.cells #[.slice A1 m1 c1,.slice A4' m4' c4',.bool false] 141)).cell;obtain⟨dr0,dr1,dr2⟩:=(BRW.o.alloc (.cells #[.slice A1 m1 c1,.slice A4' m4' c4',.bool false] 141)).cell;obtain⟨er0,er1,er2⟩:=(BRW.o.alloc (.cells #[.slice A1 m1 c1,.slice A4' m4' c4',.bool false] 141)).frozen;obtain⟨dn0,dn1,dn2⟩:=(BoxS.new wr (.slice A1 m1 c1) (.slice A4' m4' c4') false).cell;obtain⟨en0,en1,en2⟩:=(BoxS.new wr (.slice A1 m1 c1) (.slice A4' m4' c4') false).frozen;go_wp2_with (refine zaw rfl _ _ yk5 yk5 yk5 (X2.o.alloc (.cells #[.slice A1 m1 c1,.slice A4' m4' c4',.bool false] 141)) (Y2.o.alloc (.cells #[.slice A1 m1 c1,.slice A4' m4' c4',.bool false] 141)) ylj yk8 ?_;intro v5 w5 i5 g5 o5;obtain⟨A5,n5,c5,rfl⟩:=i5.form3;obtain⟨fx0,fx1,fx2⟩:=((BXW.o.alloc (.cells #[.slice A1 m1 c1,.slice A4' m4' c4',.bool false] 141)).grownI (X2.o.alloc (.cells #[.slice A1 m1 c1,.slice A4' m4' c4',.bool false] 141)) g5).cell;obtain⟨fy0,fy1,fy2⟩:=((BYW.o.alloc (.cells #[.slice A1 m1 c1,.slice A4' m4' c4',.bool false] 141)).grownI (X2.o.alloc (.cells #[.slice A1 m1 c1,.slice A4' m4' c4',.bool false] 141)) g5).cell;obtain⟨fr0,fr1,fr2⟩:=((BRW.o.alloc (.cells #[.slice A1 m1 c1,.slice A4' m4' c4',.bool false] 141)).grownI (X2.o.alloc (.cells #[.slice A1 m1 c1,.slice A4' m4' c4',.bool false] 141)) g5).cell;obtain⟨hr0,hr1,hr2⟩:=((BRW.o.alloc (.cells #[.slice A1 m1 c1,.slice A4' m4' c4',.bool false] 141)).grownI (X2.o.alloc (.cells #[.slice A1 m1 c1,.slice A4' m4' c4',.bool false] 141)) g5).frozen;obtain⟨fn0,fn1,fn2⟩:=((BoxS.new wr (.slice A1 m1 c1) (.slice A4' m4' c4') false).grownI (X2.o.alloc (.cells #[.slice A1 m1 c1,.slice A4' m4' c4',.bool false] 141)) g5).cell;obtain⟨hn0,hn1,hn2⟩:=((BoxS.new wr (.slice A1 m1 c1) (.slice A4' m4' c4') false).grownI (X2.o.alloc (.cells #[.slice A1 m1 c1,.slice A4' m4' c4',.bool false] 141)) g5).frozen);refine zcg (x:=6) rfl rfl rfl (((((BRW.o.alloc (.cells #[.slice A1 m1 c1,.slice A4' m4' c4',.bool false] 141)).grownI (X2.o.alloc (.cells #[.slice A1 m1 c1,.slice A4' m4' c4',.bool false] 141)) g5).far ykw _).put _ _ _)) ?_;rw[HJ.o];have K1:Kept (fun b=>(Value.slice A2 k c2).ownBlock=some b∨b=w.heap.size+1+1) wr ((((w5.setCell ⟨wr.heap.size,1,none⟩ (.slice A5 n5 c5)).setCell ⟨w.heap.size+1+1,0,none⟩ (.slice A1 m1 c1)).setCell ⟨w.heap.size+1+1,1,none⟩ (.slice A5 n5 c5)).setCell ⟨w.heap.size+1+1,2,none⟩ (.bool false)):=(((((((Kept.refl _ wr).alloc (.cells #[.slice A1 m1 c1,.slice A4' m4' c4',.bool false] 141)).grown g5 fun b e => .inl (.inl e)).setCell (.inr (ygo _)) _).setCell (.inl (.inr rfl)) _).setCell (.inl (.inr rfl)) _).setCell (.inl (.inr rfl)) _);have K3:Kept (fun b=>b=w.heap.size+1+1∨b=wr.heap.size) w5 ((((w5.setCell ⟨wr.heap.size,1,none⟩ (.slice A5 n5 c5)).setCell ⟨w.heap.size+1+1,0,none⟩ (.slice A1 m1 c1)).setCell ⟨w.heap.size+1+1,1,none⟩ (.slice A5 n5 c5)).setCell ⟨w.heap.size+1+1,2,none⟩ (.bool false)):=(((((Kept.refl _ w5).setCell (.inl (.inr rfl)) _).setCell (.inl (.inl rfl)) _).setCell (.inl (.inl rfl)) _).setCell (.inl (.inl rfl)) _);have B5:∀ b,(Value.slice A5 n5 c5).ownBlock=some b->(Value.slice A2 k c2).ownBlock=some b∨b=wr.heap.size+1:=fun b e=>by
     rcases o5 with h|h
     .exact .inl (h.symm.trans e)
     .rw[e] at h;injection h with h;exact .inr ykc
    have I1:=X1.o.off K1 fun b e h=>h.elim (HXW.o.apart b e) (NN1.o b e).1
    have I2:=i5.off K3 fun b e h=>by
     rcases B5 b e with h2|h2
     .have:=NN2.o b h2;omega
     .omega
    have AP:∀ b,(Value.slice A1 m1 c1).ownBlock=some b->(Value.slice A5 n5 c5).ownBlock≠some b:=fun b e e2=>by
     rcases B5 b e2 with h2|h2
     .exact HXW.o.apart b e h2
     .have:=NN1.o b e;omega
    rw[←zef] at I2;have LF:=HLR.o.off K1 (fun b h h2=>by
     rcases h2 with e|e
     .exact (NN2.o b e).2.2 h
     .exact (QQ6.o b h).1 e)
    have KF:=((Kept.of_below (fun b=>Q b∨(Value.slice A1 m1 c1).ownBlock=some b∨(Value.slice A2 k c2).ownBlock=some b) HB0.o).trans HKR.o fun b h => .inl (.inl h)).trans K1 (fun b h2=>by
     rcases h2 with e|e
     .exact .inl (.inr (.inr e))
     .exact .inr yjz)
    exact⟨_,_,Qr,rfl,LF,⟨I1,I2,AP,fun b e=>(NN1.o b e).2.2,fun b e h=>by
     rcases B5 b e with h2|h2
     .exact (NN2.o b h2).2.2 h
     .have:=QQ6.o b h;omega⟩,KF,fun b h=>(HQR.o b h).elim .inl fun h => .inr yjz⟩
   .have hj:zb4 x y=⟨x.first++y.first,y.last,false⟩:=ylf;have HJ:=Zh hj;clear hj;obtain⟨dx0,dx1,dx2⟩:=(BXW.o.alloc (.cells #[.slice A1 m1 c1,.slice A4' m4' c4',.bool false] 141)).cell;obtain⟨dy0,dy1,dy2⟩:=(BYW.o.alloc (.cells #[.slice A1 m1 c1,.slice A4' m4' c4',.bool false] 141)).cell;obtain⟨dr0,dr1,dr2⟩:=(BRW.o.alloc (.cells #[.slice A1 m1 c1,.slice A4' m4' c4',.bool false] 141)).cell;obtain⟨er0,er1,er2⟩:=(BRW.o.alloc (.cells #[.slice A1 m1 c1,.slice A4' m4' c4',.bool false] 141)).frozen;obtain⟨dn0,dn1,dn2⟩:=(BoxS.new wr (.slice A1 m1 c1) (.slice A4' m4' c4') false).cell;obtain⟨en0,en1,en2⟩:=(BoxS.new wr (.slice A1 m1 c1) (.slice A4' m4' c4') false).frozen;go_wp2_with (refine zaw rfl _ _ yk5 yk5 yk5 (X1.o.alloc (.cells #[.slice A1 m1 c1,.slice A4' m4' c4',.bool false] 141)) (Y1.o.alloc (.cells #[.slice A1 m1 c1,.slice A4' m4' c4',.bool false] 141)) ylj yk8 ?_;intro v4 w4 i4 g4 o4;obtain⟨A4,n4,c4,rfl⟩:=i4.form3;obtain⟨fx0,fx1,fx2⟩:=((BXW.o.alloc (.cells #[.slice A1 m1 c1,.slice A4' m4' c4',.bool false] 141)).grownI (X1.o.alloc (.cells #[.slice A1 m1 c1,.slice A4' m4' c4',.bool false] 141)) g4).cell;obtain⟨fy0,fy1,fy2⟩:=((BYW.o.alloc (.cells #[.slice A1 m1 c1,.slice A4' m4' c4',.bool false] 141)).grownI (X1.o.alloc (.cells #[.slice A1 m1 c1,.slice A4' m4' c4',.bool false] 141)) g4).cell;obtain⟨fr0,fr1,fr2⟩:=((BRW.o.alloc (.cells #[.slice A1 m1 c1,.slice A4' m4' c4',.bool false] 141)).grownI (X1.o.alloc (.cells #[.slice A1 m1 c1,.slice A4' m4' c4',.bool false] 141)) g4).cell;obtain⟨hr0,hr1,hr2⟩:=((BRW.o.alloc (.cells #[.slice A1 m1 c1,.slice A4' m4' c4',.bool false] 141)).grownI (X1.o.alloc (.cells #[.slice A1 m1 c1,.slice A4' m4' c4',.bool false] 141)) g4).frozen;obtain⟨fn0,fn1,fn2⟩:=((BoxS.new wr (.slice A1 m1 c1) (.slice A4' m4' c4') false).grownI (X1.o.alloc (.cells #[.slice A1 m1 c1,.slice A4' m4' c4',.bool false] 141)) g4).cell;obtain⟨hn0,hn1,hn2⟩:=((BoxS.new wr (.slice A1 m1 c1) (.slice A4' m4' c4') false).grownI (X1.o.alloc (.cells #[.slice A1 m1 c1,.slice A4' m4' c4',.bool false] 141)) g4).frozen);refine zcg (x:=6) rfl rfl rfl (((((BRW.o.alloc (.cells #[.slice A1 m1 c1,.slice A4' m4' c4',.bool false] 141)).grownI (X1.o.alloc (.cells #[.slice A1 m1 c1,.slice A4' m4' c4',.bool false] 141)) g4).far ykw _).put _ _ _)) ?_;rw[HJ.o];have K1:Kept (fun b=>(Value.slice A1 m1 c1).ownBlock=some b∨b=w.heap.size+1+1) wr ((((w4.setCell ⟨wr.heap.size,0,none⟩ (.slice A4 n4 c4)).setCell ⟨w.heap.size+1+1,0,none⟩ (.slice A4 n4 c4)).setCell ⟨w.heap.size+1+1,1,none⟩ (.slice A4' m4' c4')).setCell ⟨w.heap.size+1+1,2,none⟩ (.bool false)):=(((((((Kept.refl _ wr).alloc (.cells #[.slice A1 m1 c1,.slice A4' m4' c4',.bool false] 141)).grown g4 fun b e => .inl (.inl e)).setCell (.inr (ygo _)) _).setCell (.inl (.inr rfl)) _).setCell (.inl (.inr rfl)) _).setCell (.inl (.inr rfl)) _);have K3:Kept (fun b=>b=w.heap.size+1+1∨b=wr.heap.size) w4 ((((w4.setCell ⟨wr.heap.size,0,none⟩ (.slice A4 n4 c4)).setCell ⟨w.heap.size+1+1,0,none⟩ (.slice A4 n4 c4)).setCell ⟨w.heap.size+1+1,1,none⟩ (.slice A4' m4' c4')).setCell ⟨w.heap.size+1+1,2,none⟩ (.bool false)):=(((((Kept.refl _ w4).setCell (.inl (.inr rfl)) _).setCell (.inl (.inl rfl)) _).setCell (.inl (.inl rfl)) _).setCell (.inl (.inl rfl)) _);have B4:∀ b,(Value.slice A4 n4 c4).ownBlock=some b->(Value.slice A1 m1 c1).ownBlock=some b∨b=wr.heap.size+1:=fun b e=>by
     rcases o4 with h|h
     .exact .inl (h.symm.trans e)
     .rw[e] at h;injection h with h;exact .inr ykc
    have I1:=i4.off K3 fun b e h=>by
     rcases B4 b e with h2|h2
     .have:=NN1.o b h2;omega
     .omega
    have I2:=Y2.o.off K1 fun b e h=>h.elim (fun h=>HXY.o.a12 b h e) (NN4.o b e).1
    have AP:∀ b,(Value.slice A4 n4 c4).ownBlock=some b->(Value.slice A4' m4' c4').ownBlock≠some b:=fun b e e2=>by
     rcases B4 b e with h2|h2
     .exact HXY.o.a12 b h2 e2
     .have:=NN4.o b e2;omega
    rw[←zef] at I1;have LF:=HLR.o.off K1 (fun b h h2=>by
     rcases h2 with e|e
     .exact (NN1.o b e).2.2 h
     .exact (QQ6.o b h).1 e)
    have KF:=((Kept.of_below (fun b=>Q b∨(Value.slice A1 m1 c1).ownBlock=some b∨(Value.slice A2 k c2).ownBlock=some b) HB0.o).trans HKR.o fun b h => .inl (.inl h)).trans K1 (fun b h2=>by
     rcases h2 with e|e
     .exact .inl (.inr (.inl e))
     .exact .inr yjz)
    exact⟨_,_,Qr,rfl,LF,⟨I1,I2,AP,fun b e h=>by
     rcases B4 b e with h2|h2
     .exact (NN1.o b h2).2.2 h
     .have:=QQ6.o b h;omega,fun b e=>(NN4.o b e).2.2⟩,KF,fun b h=>(HQR.o b h).elim .inl fun h => .inr yjz⟩
   .have hj:zb4 x y=⟨x.first++y.first,x.last++y.last,true⟩:=ylf;have HJ:=Zh hj;clear hj;obtain⟨dx0,dx1,dx2⟩:=(BXW.o.alloc (.cells #[.slice A1 m1 c1,.slice A4' m4' c4',.bool true] 141)).cell;obtain⟨dy0,dy1,dy2⟩:=(BYW.o.alloc (.cells #[.slice A1 m1 c1,.slice A4' m4' c4',.bool true] 141)).cell;obtain⟨dr0,dr1,dr2⟩:=(BRW.o.alloc (.cells #[.slice A1 m1 c1,.slice A4' m4' c4',.bool true] 141)).cell;obtain⟨er0,er1,er2⟩:=(BRW.o.alloc (.cells #[.slice A1 m1 c1,.slice A4' m4' c4',.bool true] 141)).frozen;obtain⟨dn0,dn1,dn2⟩:=(BoxS.new wr (.slice A1 m1 c1) (.slice A4' m4' c4') true).cell;obtain⟨en0,en1,en2⟩:=(BoxS.new wr (.slice A1 m1 c1) (.slice A4' m4' c4') true).frozen;go_wp2_with (first
     | (refine zaw rfl _ _ yk5 yk5 yk5 (X1.o.alloc (.cells #[.slice A1 m1 c1,.slice A4' m4' c4',.bool true] 141)) (Y1.o.alloc (.cells #[.slice A1 m1 c1,.slice A4' m4' c4',.bool true] 141)) ylj yk8 ?_;intro v4 w4 i4 g4 o4;obtain⟨A4,n4,c4,rfl⟩:=i4.form3;obtain⟨fx0,fx1,fx2⟩:=((BXW.o.alloc (.cells #[.slice A1 m1 c1,.slice A4' m4' c4',.bool true] 141)).grownI (X1.o.alloc (.cells #[.slice A1 m1 c1,.slice A4' m4' c4',.bool true] 141)) g4).cell;obtain⟨fy0,fy1,fy2⟩:=((BYW.o.alloc (.cells #[.slice A1 m1 c1,.slice A4' m4' c4',.bool true] 141)).grownI (X1.o.alloc (.cells #[.slice A1 m1 c1,.slice A4' m4' c4',.bool true] 141)) g4).cell;obtain⟨fr0,fr1,fr2⟩:=((BRW.o.alloc (.cells #[.slice A1 m1 c1,.slice A4' m4' c4',.bool true] 141)).grownI (X1.o.alloc (.cells #[.slice A1 m1 c1,.slice A4' m4' c4',.bool true] 141)) g4).cell;obtain⟨hr0,hr1,hr2⟩:=((BRW.o.alloc (.cells #[.slice A1 m1 c1,.slice A4' m4' c4',.bool true] 141)).grownI (X1.o.alloc (.cells #[.slice A1 m1 c1,.slice A4' m4' c4',.bool true] 141)) g4).frozen;obtain⟨fn0,fn1,fn2⟩:=((BoxS.new wr (.slice A1 m1 c1) (.slice A4' m4' c4') true).grownI (X1.o.alloc (.cells #[.slice A1 m1 c1,.slice A4' m4' c4',.bool true] 141)) g4).cell;obtain⟨hn0,hn1,hn2⟩:=((BoxS.new wr (.slice A1 m1 c1) (.slice A4' m4' c4') true).grownI (X1.o.alloc (.cells #[.slice A1 m1 c1,.slice A4' m4' c4',.bool true] 141)) g4).frozen;have g4':=((yjb wr (.cells #[.slice A1 m1 c1,.slice A4' m4' c4',.bool true] 141) none).block);have SX2:=((X2.o.alloc (.cells #[.slice A1 m1 c1,.slice A4' m4' c4',.bool true] 141)).kept g4 (fun b e e2=>HXW.o.apart b e2 e));have SY2:=((Y2.o.alloc (.cells #[.slice A1 m1 c1,.slice A4' m4' c4',.bool true] 141)).kept g4 (fun b e e2=>HXY.o.a12 b e2 e));have hs4:=g4.size;rw[yh0] at hs4;have TX2:Ints (w4.setCell ⟨wr.heap.size,0,none⟩ (.slice A4 n4 c4)) C (.slice A2 k c2) (ns x.last):=SX2.block fun b e hb=>ygz _ _ _ _ (by have:=X2.o.in e;show b≠wr.heap.size;omega);have TY2:Ints (w4.setCell ⟨wr.heap.size,0,none⟩ (.slice A4 n4 c4)) C (.slice A4' m4' c4') (ns y.last):=SY2.block fun b e hb=>ygz _ _ _ _ (by have:=Y2.o.in e;show b≠wr.heap.size;omega))
     | (refine zaw rfl _ _ yk5 yk5 yk5 TX2 TY2 ylj (by simp[World.setCell];omega) ?_;intro v5 w5 i5 g5 o5;obtain⟨A5,n5,c5,rfl⟩:=i5.form3;have T1:BoxS (w4.setCell ⟨wr.heap.size,0,none⟩ (.slice A4 n4 c4)) wr.heap.size (.slice A4 n4 c4) (.slice A4' m4' c4') true:=(((BoxS.new wr (.slice A1 m1 c1) (.slice A4' m4' c4') true).grownI (X1.o.alloc (.cells #[.slice A1 m1 c1,.slice A4' m4' c4',.bool true] 141)) g4).put0 (.slice A4 n4 c4));have T6:BoxS (w4.setCell ⟨wr.heap.size,0,none⟩ (.slice A4 n4 c4)) (w.heap.size+1+1) (.slice none 0 0) (.slice none 0 0) false:=((BRW.o.alloc (.cells #[.slice A1 m1 c1,.slice A4' m4' c4',.bool true] 141)).grownI (X1.o.alloc (.cells #[.slice A1 m1 c1,.slice A4' m4' c4',.bool true] 141)) g4).far ykw _;obtain⟨kr0,kr1,kr2⟩:=(T6.grownI TX2 g5).cell;obtain⟨lr0,lr1,lr2⟩:=(T6.grownI TX2 g5).frozen;obtain⟨kn0,kn1,kn2⟩:=(T1.grownI TX2 g5).cell;obtain⟨ln0,ln1,ln2⟩:=(T1.grownI TX2 g5).frozen))
    refine zcg (x:=6) rfl rfl rfl ((((T6.grownI TX2 g5).far ykw _).put _ _ _)) ?_;rw[HJ.o];have K1:Kept (fun b=>(Value.slice A1 m1 c1).ownBlock=some b∨(Value.slice A2 k c2).ownBlock=some b∨b=w.heap.size+1+1) wr ((((w5.setCell ⟨wr.heap.size,1,none⟩ (.slice A5 n5 c5)).setCell ⟨w.heap.size+1+1,0,none⟩ (.slice A4 n4 c4)).setCell ⟨w.heap.size+1+1,1,none⟩ (.slice A5 n5 c5)).setCell ⟨w.heap.size+1+1,2,none⟩ (.bool true)):=(((((((((Kept.refl _ wr).alloc (.cells #[.slice A1 m1 c1,.slice A4' m4' c4',.bool true] 141)).grown g4 fun b e => .inl (.inl e)).setCell (.inr (ygo _)) _).grown g5 fun b e => .inl (.inr (.inl e))).setCell (.inr (ygo _)) _).setCell (.inl (.inr (.inr rfl))) _).setCell (.inl (.inr (.inr rfl))) _).setCell (.inl (.inr (.inr rfl))) _);have K3:Kept (fun b=>b=w.heap.size+1+1∨b=wr.heap.size) w5 ((((w5.setCell ⟨wr.heap.size,1,none⟩ (.slice A5 n5 c5)).setCell ⟨w.heap.size+1+1,0,none⟩ (.slice A4 n4 c4)).setCell ⟨w.heap.size+1+1,1,none⟩ (.slice A5 n5 c5)).setCell ⟨w.heap.size+1+1,2,none⟩ (.bool true)):=(((((Kept.refl _ w5).setCell (.inl (.inr rfl)) _).setCell (.inl (.inl rfl)) _).setCell (.inl (.inl rfl)) _).setCell (.inl (.inl rfl)) _);have K4:Kept (fun b=>(Value.slice A2 k c2).ownBlock=some b∨b=w.heap.size+1+1∨b=wr.heap.size) w4 ((((w5.setCell ⟨wr.heap.size,1,none⟩ (.slice A5 n5 c5)).setCell ⟨w.heap.size+1+1,0,none⟩ (.slice A4 n4 c4)).setCell ⟨w.heap.size+1+1,1,none⟩ (.slice A5 n5 c5)).setCell ⟨w.heap.size+1+1,2,none⟩ (.bool true)):=((((((((Kept.refl _ w4).setCell (.inl (.inr (.inr rfl))) _).grown g5 fun b e => .inl (.inl e)).setCell (.inl (.inr (.inr rfl))) _).setCell (.inl (.inr (.inl rfl))) _).setCell (.inl (.inr (.inl rfl))) _).setCell (.inl (.inr (.inl rfl))) _));have B4:∀ b,(Value.slice A4 n4 c4).ownBlock=some b->(Value.slice A1 m1 c1).ownBlock=some b∨b=wr.heap.size+1:=fun b e=>by
     rcases o4 with h|h
     .exact .inl (h.symm.trans e)
     .rw[e] at h;injection h with h;exact .inr ykc
    have B5:∀ b,(Value.slice A5 n5 c5).ownBlock=some b->(Value.slice A2 k c2).ownBlock=some b∨b=w4.heap.size:=fun b e=>by
     rcases o5 with h|h
     .exact .inl (h.symm.trans e)
     .rw[e] at h;injection h with h;exact .inr (by simpa [World.setCell] using h)
    have I1:=i4.off K4 fun b e h=>by
     rcases B4 b e with h2|h2
     .rcases h with h|h
      .exact HXW.o.apart b h2 h
      .have:=NN1.o b h2;omega
     .rcases h with h|h
      .have:=NN2.o b h;omega
      .omega
    have I2:=i5.off K3 fun b e h=>by
     rcases B5 b e with h2|h2
     .have:=NN2.o b h2;omega
     .omega
    have AP:∀ b,(Value.slice A4 n4 c4).ownBlock=some b->(Value.slice A5 n5 c5).ownBlock≠some b:=fun b e e2=>by
     have hb4:=(i4.in e).2;rcases B5 b e2 with h3|h3
     .rcases B4 b e with h2|h2
      .exact HXW.o.apart b h2 h3
      .have:=NN2.o b h3;omega
     .omega
    rw[←zef] at I1 I2;have LF:=HLR.o.off K1 (fun b h h2=>by
     rcases h2 with e|e|e
     .exact (NN1.o b e).2.2 h
     .exact (NN2.o b e).2.2 h
     .exact (QQ6.o b h).1 e)
    have KF:=((Kept.of_below (fun b=>Q b∨(Value.slice A1 m1 c1).ownBlock=some b∨(Value.slice A2 k c2).ownBlock=some b) HB0.o).trans HKR.o fun b h => .inl (.inl h)).trans K1 (fun b h2=>by
     rcases h2 with e|e|e
     .exact .inl (.inr (.inl e))
     .exact .inl (.inr (.inr e))
     .exact .inr yjz)
    exact⟨_,_,Qr,rfl,LF,⟨I1,I2,AP,fun b e h=>by
     rcases B4 b e with h2|h2
     .exact (NN1.o b h2).2.2 h
     .have:=QQ6.o b h;omega,fun b e h=>by
     rcases B5 b e with h2|h2
     .exact (NN2.o b h2).2.2 h
     .have:=QQ6.o b h;omega⟩,KF,fun b h=>(HQR.o b h).elim .inl fun h => .inr yjz⟩
end
section
theorem Try.infoSetN:(Try.prog.info? 64).map (fun i=>(i.zero,i.size,i.bytes))=some (some (.agg #[.int .u64 0,.int .u64 0,.int .u64 0,.int .u64 0]),4,32):=by kernel_rfl
theorem Try.infoList:(Try.prog.info? 44).map (fun i=>(i.zero,i.size,i.bytes))=some (some (.slice none 0 0),1,24):=by kernel_rfl
section
variable {P:Program} (w:World)
theorem znw {ops:Array Oper} {o:Oper} {a:Act} {K:Act->World->Prop} {Q:Exit->Act->World->Prop} {E:Prop} (hgd:o.guard=none) (s x:Operand) (t:TypeId)
 (ho:o.op = .call {callee := .builtin .append,args:=#[s,x],argTypes:=#[t,t]})
 (base:Nat) (e:TypeId) (i:TypeInfo) (z:Value) (size bytes:Nat) (ht:P.underlying t=some (.slice e)) (hi:P.info? e=some i) (hz:i.zero=some z)
 (hsize:i.size=size) (hby:i.bytes=bytes) (hzs:z.cells.size=size) (hsz:0<size)
 (v:Value) (n:Nat) (xs:List Value) (hs:a.eval s=v) (hown:w.ownsRow base e size v n xs)
 (ad:Addr) (m c:Nat) (news:List Value) (hx:a.eval x = .slice (some ad) m c) (hl:news.length=m*size) (hnews:∀ j u,news[j]?=some u->w.cell? (ad.add j)=some u) (h1:∀ u∈news,u.oneCell'=true)
 (h63:n+m<=maxLen) (hbytes:(n+m)*bytes<=140737488355328) (hbase:base<=w.heap.size)
 (h:∀ v' w',w'.ownsRow base e size v' (n+m) (xs++news)->w.grownBy w' v.ownBlock->(v'.ownBlock=v.ownBlock∨v'.ownBlock=some w.heap.size)->K (a.put o.dst v') w'):
 if Region.wanted o (yielded ops a.tmps)=true then Oper.wp P o a w K Q else E:=by
 have hw:Region.wanted o (yielded ops a.tmps)=true:=(by simp[Region.wanted,hgd]);rw[if_pos hw];obtain⟨v',w',hr,h2,h3,_,h5⟩:=run_append_own_at (P:=P) w base t o.type e i z size bytes ht hi hz hsize hby hzs hsz v n xs hown ad m c news hl hnews h1 h63 hbytes hbase;unfold Oper.wp execOp;simp only[ho,resolve,invoke,builtin,Sem.run_bind,Sem.run_pure,Result.andThen_ok,yi4,yhw,yia,hs,hx,hr];exact h v' w' h2 h3 h5
end
theorem zad {w:World} {B e size n:Nat} {v:Value} {xs:List Value} (h:w.ownsRow B e size v n xs):∃ A c,v = .slice A n c:=by
 rcases h.2 with ⟨rfl,h0⟩|⟨g,cap,cur,rfl,_⟩
 .exact⟨none,0,by rw[h0]⟩
 .exact⟨_,_,rfl⟩
theorem zds {w:World} {g:Nat} {e:TypeId} {cs:Array Value} (h:HasO w g (.cells cs e (0,0))):∀ j u,cs.toList[j]?=some u->w.cell? ((⟨g,0,none⟩:Addr).add j)=some u:=by
 intro j u hu;rw[Addr.add_lit,yhm,cell_of_row w g j _ e (0,0) h]
 simpa using hu
theorem ydd (q:Nat->Bool):∀ u∈(#[.int .u64 (word q 0),.int .u64 (word q 1),.int .u64 (word q 2),.int .u64 (word q 3)]:Array Value).toList,u.oneCell'=true:=by
 intro u hu;simp at hu;rcases hu with rfl|rfl|rfl|rfl <;> rfl
theorem yde:∀ u∈(#[.slice none 0 0]:Array Value).toList,u.oneCell'=true:=by
 intro u hu;simp at hu;rcases hu with rfl <;> rfl
theorem zig {w w':World} {g:Nat} {o:Obj} {row:Option Nat} (hg:w.grownBy w' row) (h:HasO w g o) (hne:some g=row->False):HasO w' g o:=zbt hg h hne
theorem zi3 {w w':World} {B e size n:Nat} {v:Value} {xs:List Value} {row:Option Nat} (hg:w.grownBy w' row) (h:w.ownsRow B e size v n xs) (hne:∀ b,v.ownBlock=some b->some b=row->False):w'.ownsRow B e size v n xs:=za7 h fun b e hb=>hg.block b hb (hne b e)
theorem zcz {w:World} {C a n:Nat} (h:HasO w a (.cells #[.int .i64 (n:Int)] 3 (0,0))) (hC:C<=a):Ints w C (.slice (some ⟨a,0,none⟩) 1 1) (ns [n]):=
 ⟨rfl,.inr ⟨a,1,_,rfl,hC,h,ygo _,by decide,rfl,rfl⟩⟩
theorem FolAt.push {w:World} {B:Nat} {fs:List Value} {ls:List (List Nat)} {Q:Nat->Prop} (h:FolAt w B fs ls Q):FolAt w B (fs++[.slice none 0 0]) (ls++[[]]) Q:=by
 have hget:∀ (i:Nat) v,(fs++[.slice none 0 0])[i]?=some v->fs[i]?=some v∨(i=fs.length∧v = .slice none 0 0):=fun i v hv=>by
  rcases yik i fs.length with hi|hi
  .rw[ygv hi] at hv;exact .inl hv
  .rw[ygx hi] at hv;rcases yj2 (i-fs.length) with e|e
   .rw[e] at hv;simp at hv;exact .inr ⟨by omega,hv.symm⟩
   .rw[yh6 yk8] at hv;cases hv
 refine⟨by simp[h.len],fun i v l h1 h2=>?_,fun i v b h1 h2=>?_,fun i j v v' b h1 h2 h3 h4=>?_⟩
 .rcases hget i v h1 with h1|⟨rfl,rfl⟩
  .have hi:i<ls.length:=by
    rw[←h.len];rcases yik i fs.length with hi|hi
    .exact hi
    .rw[yh6 hi] at h1;cases h1
   rw[ygv hi] at h2;exact h.get i v l h1 h2
  .rw[ygx (by rw[h.len];exact ygo _),h.len,yi3] at h2;simp at h2;subst h2;exact Ints.nil _ _
 .rcases hget i v h1 with h1|⟨rfl,rfl⟩
  .exact h.inQ i v b h1 h2
  .cases h2
 .rcases hget i v h1 with h1|⟨_,rfl⟩
  .rcases hget j v' h2 with h2|⟨_,rfl⟩
   .exact h.apart i j v v' b h1 h2 h3 h4
   .cases h4
  .cases h3
def NoB:Nat->Prop:=fun _=>False
theorem HasO.of_kept {w w':World} {b:Nat} {o:Obj} {Q:Nat->Prop} (h:HasO w b o) (hk:Kept Q w w') (hq:¬ Q b):HasO w' b o:=(hk.block b (za1 h) hq).trans h
theorem zdr {w w':World} {B e size n:Nat} {v:Value} {xs:List Value} (h:w.ownsRow B e size v n xs) (hk:Kept NoB w w'):w'.ownsRow B e size v n xs:=za7 h fun b _ hb=>hk.block b hb fun h=>h
end
section
attribute [local go_sem ↓] Go.wp_at_zero Go.wp_at_succ
theorem zjx (w:World):Calls Try.prog 79 #[] w fun e w'=>e = .returned (.agg #[.slice none 0 0,.slice none 0 0,.bool true])∧Below w.heap.size w w':=by
 go_enter Try.func79,Try.ntmps79;go_wp2;refine zcg (x:=0) rfl rfl rfl (BoxS.new w _ _ _) ?_;exact⟨rfl,(ygr _ _).alloc (ygo _) _⟩
theorem zgo (w:World) (C:Nat) (Q:Nat->Prop):StrAt w C (.slice none 0 0) (.slice none 0 0) .nothing Q:=
 ⟨Ints.nil _ _,Ints.nil _ _,fun b e=>ykt,fun b e=>ykt,fun b e=>ykt⟩
theorem zze (w:World) (C:Nat) (Q:Nat->Prop):StrAt w C (.slice none 0 0) (.slice none 0 0) .void Q:=
 ⟨Ints.nil _ _,Ints.nil _ _,fun b e=>ykt,fun b e=>ykt,fun b e=>ykt⟩
theorem zjw {w w3 W19 w19 W25 w25:World} {B gl n:Nat} {s:Lay} {Q:Nat->Prop} {p:Nat->Bool} {vs vf v19 v25:Value} {fs:List Value} (hl:LInv s) (hn:s.sets.length=n) (hB0:Below w.heap.size w w3)
 (hge:∀ b,Q b->B<=b∧b<w.heap.size) (hglQ:Q gl) (hgl:HasO w3 gl (.cells #[vs,vf] 139 (0,0))) (hrows:RowsAt w3 B vs vf s Q) (hfs:FolAt w3 B fs s.follow Q) (hB:B<=w.heap.size)
 (vsl:∀ b,vs.ownBlock=some b->b<w.heap.size∧b≠gl) (vfl:∀ b,vf.ownBlock=some b->b<w.heap.size∧b≠gl) (vsf:∀ b,vs.ownBlock=some b->vf.ownBlock≠some b)
 (Ka:Kept NoB w3 W19) (own19:w19.ownsRow B 64 4 v19 (n+1) (zb8 s.sets++[.int .u64 (word p 0),.int .u64 (word p 1),.int .u64 (word p 2),.int .u64 (word p 3)])) (g19:W19.grownBy w19 vs.ownBlock) (o19:v19.ownBlock=vs.ownBlock∨v19.ownBlock=some W19.heap.size)
 (Kb:Kept NoB w19 W25) (own25:w25.ownsRow B 44 1 v25 (n+1) (fs++[.slice none 0 0])) (g25:W25.grownBy w25 vf.ownBlock) (o25:v25.ownBlock=vf.ownBlock∨v25.ownBlock=some W25.heap.size):
 ∃ Q',LayAt ((w25.setCell ⟨gl,0,none⟩ v19).setCell ⟨gl,1,none⟩ v25) B gl (oneL s p) Q'∧(∀ b,Q' b->Q b∨w3.heap.size<=b)∧Kept Q w3 ((w25.setCell ⟨gl,0,none⟩ v19).setCell ⟨gl,1,none⟩ v25):=by
 have hsz:=hB0.size;have h1:=Ka.size;have h2:=g19.size;have h3:=Kb.size;have h4:=g25.size;have hgl3:=(hge gl hglQ).2;have K19:Kept (fun b=>vs.ownBlock=some b∨vf.ownBlock=some b∨b=gl) w3 w19:=(Ka.mono fun b h=>h.elim).grown g19 fun b e => .inl (.inl e)
 have K25:Kept (fun b=>vs.ownBlock=some b∨vf.ownBlock=some b∨b=gl) w3 w25:=(K19.trans Kb fun b h=>h.elim).grown g25 fun b e => .inl (.inr (.inl e))
 have K3:Kept (fun b=>vs.ownBlock=some b∨vf.ownBlock=some b∨b=gl) w3 ((w25.setCell ⟨gl,0,none⟩ v19).setCell ⟨gl,1,none⟩ v25):=(K25.setCell (.inl (.inr (.inr rfl))) _).setCell (.inl (.inr (.inr rfl))) _;have Kx:Kept Q w3 ((w25.setCell ⟨gl,0,none⟩ v19).setCell ⟨gl,1,none⟩ v25):=K3.mono fun b h=>by
  rcases h with h|h|h
  .exact .inl (hrows.setsQ b h)
  .exact .inl (hrows.folsQ b h)
  .exact .inl (h▸hglQ)
 have Kf:Kept (fun b=>vf.ownBlock=some b) w19 w25:=(Kb.mono fun b h=>h.elim).grown g25 fun b e => .inl e
 have gl19:HasO w19 gl (.cells #[vs,vf] 139 (0,0)):=zbt g19 (hgl.of_kept Ka fun h=>h) fun e=>(vsl gl e.symm).2 rfl
 have gl25:HasO w25 gl (.cells #[vs,vf] 139 (0,0)):=zbt g25 (gl19.of_kept Kb fun h=>h) fun e=>(vfl gl e.symm).2 rfl
 have hset:∀ b,b≠gl->((w25.setCell ⟨gl,0,none⟩ v19).setCell ⟨gl,1,none⟩ v25).heap[b]?=w25.heap[b]?:=fun b hb=>(ygz _ _ _ _ hb).trans (ygz _ _ _ _ hb)
 have hsx:((w25.setCell ⟨gl,0,none⟩ v19).setCell ⟨gl,1,none⟩ v25).heap.size=w25.heap.size:=(by simp[World.setCell]);have n19:∀ b,v19.ownBlock=some b->b≠gl∧vf.ownBlock≠some b:=fun b e=>by
  obtain⟨cur,hc⟩:=za8 own19 e;refine⟨za0 hc gl19 yk6,fun e2=>?_⟩;rcases o19 with o|o
  .exact vsf b (o.symm.trans e) e2
  .rw[e] at o;injection o with o
   have:=(vfl b e2).1;omega
 have n25:∀ b,v25.ownBlock=some b->b≠gl:=fun b e=>by
  obtain⟨cur,hc⟩:=za8 own25 e;exact za0 hc gl25 yk6
 have hlen:(oneL s p).sets.length=n+1:=(by simp[oneL,hn]);have hlen2:(oneL s p).follow.length=n+1:=(by simp[oneL,hl.len,hn]);have hsf:zb8 (oneL s p).sets=zb8 s.sets++[.int .u64 (word p 0),.int .u64 (word p 1),.int .u64 (word p 2),.int .u64 (word p 3)]:=(ztk _ _).symm;have q25:∀ b,(Q b∨v19.ownBlock=some b∨v25.ownBlock=some b)->Q b∨w3.heap.size<=b:=by
  rintro b (e|e|e)
  .exact .inl e
  .rcases o19 with o|o
   .exact .inl (hrows.setsQ b (o.symm.trans e))
   .rw[e] at o;injection o with o
    exact .inr yjz
  .rcases o25 with o|o
   .exact .inl (hrows.folsQ b (o.symm.trans e))
   .rw[e] at o;injection o with o
    exact .inr yjz
 refine⟨fun b=>Q b∨v19.ownBlock=some b∨v25.ownBlock=some b,⟨?_,.inl hglQ,v19,v25,?_,⟨?_,fun b e => .inr (.inl e),⟨fs++[.slice none 0 0],?_,?_⟩,fun b e => .inr (.inr e)⟩⟩,q25,Kx⟩
 .rintro b (e|e|e)
  .have:=hge b e;rw[hsx];exact⟨this.1,by omega⟩
  .have:=ygs own19 b e;rw[hsx];exact⟨this.1,by omega⟩
  .have:=ygs own25 b e;rw[hsx];exact this
 .have h0:=heap_setCell_same w25 gl 0 _ _ v19 gl25;rw[heap_setCell_same _ gl 1 _ _ v25 h0];rfl
 .rw[hlen,hsf];refine za7 own19 fun b e hb=>?_
  rw[hset b (n19 b e).1];exact Kf.block b hb (n19 b e).2
 .rw[hlen2];exact za7 own25 fun b e hb=>hset b (n25 b e)
 .have hp:=hfs.push;refine⟨hp.len,fun i v l h1 h2=>(hp.get i v l h1 h2).off K3 fun b e hq=>?_,fun i v b h1 h2 => .inl (hp.inQ i v b h1 h2),hp.apart⟩;obtain⟨cur,hc⟩:=(hp.get i v l h1 h2).kind e;rcases hq with hq|hq|hq
  .obtain⟨cur',hc'⟩:=za8 hrows.sets hq;exact za0 hc hc' yk6 rfl
  .obtain⟨fs',h3',_⟩:=hrows.fols;obtain⟨cur',hc'⟩:=za8 h3' hq;exact za0 hc hc' yk6 rfl
  .exact za0 hc hgl yk6 hq
structure znj (w w3:World) (gl:Nat) (p:Nat->Bool) (vs vf:Value):Prop where
 a:w3.cell? ⟨gl,0,none⟩=some vs
 b:w3.cell? ⟨gl,1,none⟩=some vf
 c:w3.cell? ⟨w.heap.size,0,none⟩=some (.int .u64 (word p 0))
 d:w3.cell? ⟨w.heap.size,1,none⟩=some (.int .u64 (word p 1))
 e:w3.cell? ⟨w.heap.size,2,none⟩=some (.int .u64 (word p 2))
 f:w3.cell? ⟨w.heap.size,3,none⟩=some (.int .u64 (word p 3))
 y:w3.frozen? ⟨gl,0,none⟩=false
 z:w3.frozen? ⟨gl,1,none⟩=false
 lg:gl<w3.heap.size
 l3:w.heap.size<w3.heap.size
 hb:w.heap.size+2<=w3.heap.size
theorem zev {w w3 W w':World} {gl:Nat} {p:Nat->Bool} {vs vf:Value} {row:Option Nat} (h:znj w w3 gl p vs vf) (hk:Kept NoB w3 W) (g:W.grownBy w' row) (h1:∀ b,row=some b->b<w.heap.size∧b≠gl):znj w w' gl p vs vf:=by
 have K:Kept (fun b=>row=some b) w3 w':=(hk.mono fun b h=>h.elim).grown g fun b e => .inl e
 have hs:=K.size;have n1:¬ row=some gl:=fun e=>(h1 gl e).2 rfl
 have n2:¬ row=some w.heap.size:=fun e=>by have:=(h1 _ e).1;omega
 have hz:∀ j,w'.frozen? ⟨gl,j,none⟩=w3.frozen? ⟨gl,j,none⟩:=fun j=>yji (a:=⟨gl,j,none⟩) (K.block gl h.lg n1)
 exact⟨K.cell h.a n1,K.cell h.b n1,K.cell h.c n2,K.cell h.d n2,K.cell h.e n2,K.cell h.f n2,(hz 0).trans h.y,(hz 1).trans h.z,by have:=h.lg;omega,by have:=h.l3;omega,by have:=h.hb;omega⟩
end
section
attribute [local go_sem ↓] Go.wp_at_zero Go.wp_at_succ
theorem ydh {w:World} {C D g n:Nat} {F:Nat->Bool} {v:Value} {ps:List Nat} (h:Bools w C g n F) (hv:Ints w D v (ns ps)) (hlt:∀ p∈ps,p<n) (hl:ps.length<=100000) (hn:n<=100000):
 Calls Try.prog 57 #[.slice (some ⟨g,0,none⟩) n n,v] w fun e w'=>e = .returned (.tuple #[])∧Bools w' C g n (fun j=>F j||ps.contains j)∧Kept (fun b=>b=g) w w':=by
 obtain⟨A,c,e1,-,-⟩:=hv.news;rw[za9] at e1;subst e1;obtain⟨L,hL⟩:∃ L,ps.length=L:=⟨_,rfl⟩;rw[hL] at hv hl ⊢;have HH:=Zh h;have HV:=Zh hv;have HL:=Zh hL;have HLT:=Zh hlt;clear h hv hL hlt;go_enter Try.func57,Try.ntmps57;go_wp2;go_loopg [8] L (fun m i wr=>∃ k:Nat,i = .int .i64 (k:Int)∧k<=L∧m=L-k∧Bools wr C g n (fun j=>F j||(ps.take k).contains j)∧Kept (fun b=>b=g) w wr)
 case atStart=>exact⟨0,rfl,ygy _,rfl,HH.o.congr fun j _=>by simp,Kept.refl _ _⟩
 case round =>
  obtain⟨k,rfl,hk,hmk,hb,hkr⟩:=hrel;have HMK:=Zh hmk;clear hmk
  by_cases hkl:k<L
  .have hkl':k<ps.length:=(by rw[HL.o];exact hkl);have hvg:∀ b,(Value.slice A L c).ownBlock=some b->¬ b=g:=fun b e=>by
    obtain⟨cur,hc⟩:=HV.o.kind e;obtain⟨cur',hc'⟩:=HH.o.kind;exact za0 hc hc' yk6
   have hvw:=HV.o.off hkr hvg;obtain⟨g2,c2',e2,hC2,hg2,hcell⟩:=hvw.at k (by rw[za9];exact hkl');rw[za9,HL.o] at e2;simp only[Value.slice.injEq] at e2;obtain⟨rfl,-,rfl⟩:=e2;have hpn:=HLT.o _ (yhb hkl');have hce:(ns ps)[k]'(by rw[za9];exact hkl')=((ps[k]'hkl':Nat):Int):=(by simp[ns]);rw[hce] at hcell;have htk:=yh2 hkl';obtain⟨p,hp⟩:∃ p,ps[k]'hkl'=p:=⟨_,rfl⟩;rw[hp] at hpn htk hcell;have hcb:=hb.cell p hpn;have hfb:=hb.frozen p;have p0:(0:Int)<=(p:Int):=yjz;have p1:(p:Int)<(n:Int):=yjz;have k0:(0:Int)<=(k:Int):=yjz;have k1:(k:Int)<(L:Int):=yjz;have HB:=Zh hb;have HKR:=Zh hkr;have HTK:=Zh htk;have HPN:=Zh hpn;clear hvg hvw hce htk hp hb hkr;go_wp2;go_roundg (L-(k+1))
   case measure=>have:=HMK.o;omega
   case rel =>
    refine⟨k+1,by go_num,by omega,rfl,(HB.o.set p HPN.o true).congr fun j hj=>?_,HKR.o.setCell (.inl rfl) _⟩;rw[HTK.o]
    by_cases e:j=p <;> simp[e]
  .have hkL:k=ps.length:=ykq;rw[hkL,yhn] at hb;go_wp2;exact⟨rfl,.tuple #[],by simp[results,Try.results57],rfl,hb,hkr⟩
end
section
theorem Try.infoRowP:(Try.prog.info? 44).map (fun i=>(i.zero,i.size,i.bytes))=some (some (.slice none 0 0),1,24):=by kernel_rfl
theorem Try.infoOutP:(Try.prog.info? 51).map (fun i=>(i.zero,i.size,i.bytes))=some (some (.agg #[.int .u64 0,.int .u64 0]),2,16):=by kernel_rfl
section
variable {W:World} {ops:Array Oper} {o:Oper} {a:Act} {K:Act->World->Prop} {Q:Exit->Act->World->Prop} {E:Prop}
theorem zr6 (hgd:o.guard=none) (s x:Operand) (ho:o.op = .call {callee := .builtin .append,args:=#[s,x],argTypes:=#[35,35]}) {B n la c:Nat} {v u:Value} {vs:List Value}
 (hs:a.eval s=v) (hr:W.ownsRow B 44 1 v n vs) (hx:a.eval x = .slice (some ⟨la,0,none⟩) 1 c) (hc:HasO W la (.cells #[u] 44 (0,0))) (hu:u.oneCell'=true) (hn:n<=100000) (hB:B<=W.heap.size)
 (h:∀ v' W',W'.ownsRow B 44 1 v' (n+1) (vs++[u])->W.grownBy W' v.ownBlock->(v'.ownBlock=v.ownBlock∨v'.ownBlock=some W.heap.size)->K (a.put o.dst v') W'):if Region.wanted o (yielded ops a.tmps)=true then Oper.wp Try.prog o a W K Q else E:=by
 obtain⟨i0,hi,hz0,hz1,hz2⟩:=info_parts Try.infoRowP;exact znw W hgd s x 35 ho B 44 i0 _ 1 24 Try.underlying35 hi hz0 hz1 hz2 rfl yk6 v n vs hs hr ⟨la,0,none⟩ 1 c [u] hx rfl (zds hc) (fun y hy=>by rw[yha] at hy;subst hy;exact hu) yka yjz hB h
theorem zj0 (hgd:o.guard=none) (s x:Operand) (ho:o.op = .call {callee := .builtin .append,args:=#[s,x],argTypes:=#[36,36]}) {B n la c:Nat} {v:Value} {vs:List Value} {p q:Int}
 (hs:a.eval s=v) (hr:W.ownsRow B 51 2 v n vs) (hx:a.eval x = .slice (some ⟨la,0,none⟩) 1 c) (hc:HasO W la (.cells #[.int .u64 p,.int .u64 q] 51 (0,0))) (hn:n<=100000) (hB:B<=W.heap.size)
 (h:∀ v' W',W'.ownsRow B 51 2 v' (n+1) (vs++[.int .u64 p,.int .u64 q])->W.grownBy W' v.ownBlock->(v'.ownBlock=v.ownBlock∨v'.ownBlock=some W.heap.size)->K (a.put o.dst v') W'):if Region.wanted o (yielded ops a.tmps)=true then Oper.wp Try.prog o a W K Q else E:=by
 obtain⟨i0,hi,hz0,hz1,hz2⟩:=info_parts Try.infoOutP;exact znw W hgd s x 36 ho B 51 i0 _ 2 16 Try.underlying36 hi hz0 hz1 hz2 rfl yk6 v n vs hs hr ⟨la,0,none⟩ 1 c [.int .u64 p,.int .u64 q] hx rfl (zds hc) (fun y hy=>by
  simp at hy;rcases hy with rfl|rfl <;> rfl) yka yjz hB h
end
theorem IS.push {w0 w W:World} {gm gs gx C:Nat} {K O:Nat->Prop} {F:Nat->Nat} {n:Int} {vN vO vr va v1 v2:Value} {rows:List (List Nat)} {outs:List (Nat×Nat)} {ss:List Sta} {l0 al:Sta} {xs:List Nat} {vs:List Value} {o:Nat×Nat}
 (h:IS w0 w gm gs K O F n vN vO vr rows outs ss l0 va al gx C xs) (n1:vs.length=rows.length) (n2:w.ownsRow w0.heap.size 44 1 vN rows.length vs) (n3:∀ (i:Nat) u r,vs[i]?=some u->rows[i]?=some r->Ints w w0.heap.size u (ns r)) (n4:∀ u∈vs,∀ b,u.ownBlock=some b->O b)
 (hk:Kept (fun b=>vN.ownBlock=some b∨vO.ownBlock=some b) w W)
 (r1:W.ownsRow w0.heap.size 44 1 v1 (rows.length+1) (vs++[.slice (some ⟨gx,0,none⟩) C C])) (o1:∀ b,v1.ownBlock=some b->vN.ownBlock=some b∨w.heap.size<=b)
 (r2:W.ownsRow w0.heap.size 51 2 v2 (outs.length+1) (outC outs++[.int .u64 (o.1:Int),.int .u64 (o.2:Int)])) (o2:∀ b,v2.ownBlock=some b->vO.ownBlock=some b∨w.heap.size<=b):
 ∃ O',BS w0 ((W.setCell ⟨gm,257,none⟩ v1).setCell ⟨gm,258,none⟩ v2) gm gs K O' F n v1 v2 vr (rows++[xs]) (outs++[o]) ss l0:=by
 have hs:=h.bs.keep.size;have hs2:=hk.size;have hg:=h.bs.gmlt;have hgx:=h.gxlt;have hOq:∀ b,(vN.ownBlock=some b∨vO.ownBlock=some b)->O b:=fun b e=>e.elim (h.bs.nxt.inO b) (h.bs.ots.inO b)
 have hgm:¬ (vN.ownBlock=some gm∨vO.ownBlock=some gm):=fun e=>by have:=(h.bs.olt gm (hOq gm e)).1;omega
 have hset:∀ b,b≠gm->((W.setCell ⟨gm,257,none⟩ v1).setCell ⟨gm,258,none⟩ v2).heap[b]?=W.heap[b]?:=fun b e=>(ygz (W.setCell ⟨gm,257,none⟩ v1) ⟨gm,258,none⟩ v2 b e).trans (ygz W ⟨gm,257,none⟩ v1 b e)
 have hsz:((W.setCell ⟨gm,257,none⟩ v1).setCell ⟨gm,258,none⟩ v2).heap.size=W.heap.size:=(by simp[World.setCell]);have hka:Kept (fun b=>b=gm) W ((W.setCell ⟨gm,257,none⟩ v1).setCell ⟨gm,258,none⟩ v2):=((Kept.refl (fun b=>b=gm) W).setCell (a:=⟨gm,257,none⟩) (.inl rfl) _).setCell (a:=⟨gm,258,none⟩) (.inl rfl) _;have hkW:Kept (fun b=>b=gm) w0 W:=h.bs.keep.trans hk fun b e => .inr (h.bs.olt b (hOq b e)).1
 have hb:=((h.bs.box.kept hk hgm).setNxt v1).setOut v2;have l1:∀ b,v1.ownBlock=some b->w0.heap.size<=b∧b<W.heap.size:=fun b e=>ygs r1 b e
 have l2:∀ b,v2.ownBlock=some b->w0.heap.size<=b∧b<W.heap.size:=fun b e=>ygs r2 b e
 have hKo:∀ b,K b->¬ (vN.ownBlock=some b∨vO.ownBlock=some b):=fun b k e=>h.bs.oK b (hOq b e) k
 have hin:∀ (b:Nat) (cur:Array Value),w.heap[b]?=some (.cells cur 3 (0,0))->¬ (vN.ownBlock=some b∨vO.ownBlock=some b):=fun b cur hb e=>by
  rcases e with e|e
  .obtain⟨cu,hc⟩:=za8 n2 e;exact za0 hb hc yk6 rfl
  .obtain⟨cu,hc⟩:=za8 h.bs.ots.row e;exact za0 hb hc yk6 rfl
 have hint:∀ u r,Ints w w0.heap.size u (ns r)->Ints ((W.setCell ⟨gm,257,none⟩ v1).setCell ⟨gm,258,none⟩ v2) w0.heap.size u (ns r):=fun u r hi=>za7 hi fun b e hb=>by
  obtain⟨cur,hc⟩:=za8 hi e;have hlt:=ygs hi b e;rw[hset b yjz];exact hk.block b hb (hin b cur hc)
 refine⟨fun b=>O b∨(w.heap.size<=b∧b<W.heap.size)∨b=gx,hkW.trans hka fun b e => .inl e,hg,hb,⟨⟨vs++[.slice (some ⟨gx,0,none⟩) C C],by simp[n1],?_,fun i u r e1 e2=>?_,fun u hu b e=>?_⟩,fun b e=>?_⟩,⟨?_,fun b e=>?_⟩,fun b e=>?_,?_,h.bs.kge,?_,h.bs.rK,fun b e=>?_,fun b e=>?_⟩
 .rw[ygu];exact za7 r1 fun b e _=>hset b (by have:=(l1 b e).1;omega)
 .by_cases hi:i<vs.length
  .rw[ygv hi] at e1;rw[ygv yjz] at e2;exact hint u r (n3 i u r e1 e2)
  .have hi':i=vs.length:=by
    have:=(ygp.1 e1).1;simp at this;omega
   subst hi';rw[ygx (ygo _),yi3] at e1;rw[n1,ygx (ygo _),yi3] at e2;simp at e1 e2;subst e1 e2;exact hint _ _ h.row
 .rw[yh7,yha] at hu;rcases hu with hu|rfl
  .exact .inl (n4 u hu b e)
  .have:gx=b:=by injection e
   exact .inr (.inr this.symm)
 .rcases o1 b e with e' | e'
  .exact .inl (h.bs.nxt.inO b e')
  .exact .inr (.inl ⟨e',(l1 b e).2⟩)
 .rw[ygu,zjv];exact za7 r2 fun b e _=>hset b (by have:=(l2 b e).1;omega)
 .rcases o2 b e with e' | e'
  .exact .inl (h.bs.ots.inO b e')
  .exact .inr (.inl ⟨e',(l2 b e).2⟩)
 .rw[hsz];rcases e with e|e|e
  .have:=h.bs.olt b e;omega
  .omega
  .omega
 .exact (h.bs.kn.off hk fun b e k=>hKo b k e).off hka fun b e k=>by have:=h.bs.kge b k;omega
 .refine za7 h.bs.room fun b e hb=>?_
  have hlt:=zh1 h.bs.room b e;rw[hset b yjz];exact hk.block b hb fun q=>h.bs.rO b e (hOq b q)
 .rintro (e' | e' | e')
  .exact h.bs.rO b e e'
  .have:=(zh1 h.bs.room b e).2;omega
  .exact h.xR (e' ▸ e)
 .rcases e with e|e|e
  .exact h.bs.oK b e
  .exact fun k=>by have:=h.bs.kn.lt b k;omega
  .exact fun k=>h.xK (e▸k)
end
section
section
variable {w w' W:World} {B gm:Nat} {O Q:Nat->Prop} {F:Nat->Nat} {n:Int} {vS vN vO vr v v' u:Value} {rows:List (List Nat)} {outs:List (Nat×Nat)} {row:List Nat}
def Oth (w:World) (Q:Nat->Prop) (l:List TypeId):Prop:=∀ b,Q b->b<w.heap.size->∃ cur ty,w.heap[b]?=some (.cells cur ty (0,0))∧ty∉l
theorem zb9 {B e size k:Nat} {xs:List Value} {l:List TypeId} (h:w.ownsRow B e size v k xs) (hk:Kept Q w w') (hq:Oth w Q l) (he:e∈l):w'.ownsRow B e size v k xs:=za7 h fun b eb hb=>hk.block b hb fun q=>by
 obtain⟨cu,hc⟩:=za8 h eb;obtain⟨cur,ty,h1,h2⟩:=hq b q hb;exact za0 hc h1 (fun e'=>h2 (e' ▸ he)) rfl
theorem Nxt.oth (h:Nxt w B O vN rows) (hk:Kept Q w w') (hq:Oth w Q [44,3]):Nxt w' B O vN rows:=by
 obtain⟨vs,h1,h2,h3,h4⟩:=h.mem;exact⟨⟨vs,h1,zb9 h2 hk hq yk3,fun i u r e1 e2=>zb9 (h3 i u r e1 e2) hk hq yk3,h4⟩,h.inO⟩
theorem BoxM.oth {ty:TypeId} {l:List TypeId} (h:BoxM w gm ty F n vN vO) (hk:Kept Q w w') (hq:Oth w Q l) (he:ty∈l):BoxM w' gm ty F n vN vO:=h.kept hk fun q=>by
 obtain⟨cur,ty',h1,h2⟩:=hq gm q h.lt;exact za0 h h1 (fun e'=>h2 (e' ▸ he)) rfl
theorem zdb {B e size k:Nat} {xs:List Value} {l:List TypeId} (h:w.ownsRow B e size v k xs) (he:e∉l):Oth w (fun b=>v.ownBlock=some b) l:=fun b eb _=>by
 obtain⟨cu,hc⟩:=za8 h eb;exact⟨cu,e,hc,he⟩
theorem zro {Q':Nat->Prop} {l:List TypeId} (h:Oth w Q l) (h':Oth w Q' l):Oth w (fun b=>Q b∨Q' b) l:=fun b e hb=>e.elim (fun e=>h b e hb) fun e=>h' b e hb
theorem zdm {ty:TypeId} {l:List TypeId} (h:BoxM w gm ty F n vN vO) (he:ty∉l):Oth w (fun b=>b=gm) l:=fun b e _=>by
 subst e;exact⟨_,ty,h,he⟩
theorem zce {l:List TypeId}:Oth w (fun _=>False) l:=fun b e=>e.elim
theorem zg3 {e tl:TypeId} {size bytes:Nat} {z:Value} (hinfo:(Try.prog.info? e).map (fun i=>(i.zero,i.size,i.bytes))=some (some z,size,bytes)) (hund:Try.prog.underlying tl=some (.slice e)) (hzs:z.cells.size=size) (hsz:0<size) (hby:bytes<=1000)
 {ops:Array Oper} {rest:List Oper} {o:Oper} {a:Act} {Q:Exit->Act->World->Prop} (hgd:o.guard=none) (s x:Operand) (ho:o.op = .call {callee := .builtin .append,args:=#[s,x],argTypes:=#[tl,tl]})
 {k g c:Nat} {vs:List Value} {cs:Array Value} (hs:a.eval s=v) (hr:w.ownsRow B e size v k vs) (hx:a.eval x = .slice (some ⟨g,0,none⟩) 1 c) (hc:HasO w g (.cells cs e (0,0))) (hcs:cs.size=size) (h1:cs.all (·.oneCell')=true) (hn:k<=100000) (hB:B<=w.heap.size)
 (hk:∀ v' w',w'.ownsRow B e size v' (k+1) (vs++cs.toList)->w.grownBy w' v.ownBlock->(v'.ownBlock=v.ownBlock∨v'.ownBlock=some w.heap.size)->wpList Try.prog ops Q rest (a.put o.dst v') w'):wpList Try.prog ops Q (o::rest) a w:=by
 obtain⟨i0,hi,hz0,hz1,hz2⟩:=info_parts hinfo;have hm:(k+1)*bytes<=100001*1000:=yjf yjz hby;obtain⟨v',w',hrun,h4,h5,_,h6⟩:=run_append_own_at (P:=Try.prog) w B tl o.type e i0 z size bytes hund hi hz0 hz1 hz2 hzs hsz v k vs hr ⟨g,0,none⟩ 1 c cs.toList (by simp[hcs]) (zds hc) (by
  intro y hy;exact (yj3.1 h1) y (by simpa using hy)) yka yjz hB
 refine wpList_plain hgd fun _ hK=>?_
 unfold Oper.wp execOp;simp only[ho,resolve,invoke,builtin,Sem.run_bind,Sem.run_pure,Result.andThen_ok,yi4,yhw,yia,hs,hx,hrun];exact hK _ _ (hk v' w' h4 h5 h6)
end
end
end Go.Proofs.Ytipfgpfplakhiaa
