import Derived.Test.YtipfgpfplakhiaaDoorTw20
set_option linter.unusedVariables false
set_option linter.unusedSimpArgs false
set_option maxRecDepth 20000
set_option maxHeartbeats 4000000
namespace Go.Proofs.YtipfgpfplakhiaaDoor
open Go Go.RowKit
section
attribute [local go_sem ↓] Go.wp_at_zero Go.wp_at_succ
theorem zp2 (t:T):∀ (l:List T) (s:Lay) (x:Str),catP (l++[t]) s x=(zcb (layP t (catP l s x).1).1 (catP l s x).2 (layP t (catP l s x).1).2,zb8 (catP l s x).2 (layP t (catP l s x).1).2)
 | [],s,x=>by simp[catP]
 | u::l,s,x=>by
  simp only[ygg,catP];exact zp2 t l _ _
theorem zp5 (t:T):∀ (l:List T) (s:Lay) (x:Str),altP (l++[t]) s x=((layP t (altP l s x).1).1,altX (altP l s x).2 (layP t (altP l s x).1).2)
 | [],s,x=>by simp[altP]
 | u::l,s,x=>by
  simp only[ygg,altP];exact zp5 t l _ _
theorem zmd:∀ (l m:List T),plRL (l++m)=plRL l+plRL m
 | [],m=>by simp[plRL]
 | t::l,m=>by simp only[ygg,plRL];rw[zmd l m];omega
theorem zj7 (l:List T) (k:Nat) (h:k<l.length):plRL (l.take (k+1))=plRL (l.take k)+plR (l[k]'h):=by
 rw[yfg h,zmd];simp[plRL]
theorem zmc (l:List T) (k:Nat):plRL (l.take k)<=plRL l:=by
 have h:=yhj k l;have:=zmd (l.take k) (l.drop k);rw[h] at this;omega
structure zxw (s0 s:Lay) (x:Str) (k:Nat):Prop where
 inv:LInv s
 nice:Nice s s0.sets.length s.sets.length x
 size:s.sets.length=s0.sets.length+k
theorem zxb (l:List T) (hwf:∀ t∈l,WF t) (s:Lay) (hl:LInv s):zxw s (catP l s .nothing).1 (catP l s .nothing).2 (plRL l):=by
 obtain⟨h1,_,_,h4⟩:=zmn (xs:=[]) l (fun t ht=>zfb (hwf t ht)) s .nothing s.sets.length _ hl (zcx _);exact⟨h1,⟨_,h4⟩,zn2 l (fun t ht=>zd5 (hwf t ht)) s _⟩
theorem zxq (l:List T) (hwf:∀ t∈l,WF t) (s:Lay) (hl:LInv s):zxw s (altP l s .void).1 (altP l s .void).2 (plRL l):=by
 obtain⟨h1,h4⟩:=zmo (xs:=[]) l (fun t ht=>zfb (hwf t ht)) s .void s.sets.length _ hl (zop _);exact⟨h1.inv,⟨_,h4⟩,zn8 l (fun t ht=>zd5 (hwf t ht)) s _⟩
theorem zh1 {t:T} (hwf:WF t) (s:Lay) (hl:LInv s):zxw s (layP t s).1 (layP t s).2 (plR t):=by
 obtain⟨h1,h4⟩:=zfb (xs:=[]) hwf s hl;exact⟨h1.inv,⟨_,h4⟩,zd5 hwf s⟩
theorem zvl {t:T} (hwf:WF t) {s:Lay} (hl:LInv s) {a:Nat} {x:Str} (h:Nice s a s.sets.length x):Nice (layP t s).1 a s.sets.length x:=by
 obtain⟨R,h⟩:=h;exact⟨R,h.more (zfb (xs:=[]) hwf s hl).1 (yez _)⟩
theorem zon {w w5:World} {B gl g4 g5 W a:Nat} {s0:Lay} {x:Str} {t:T} {Q Q5:Nat->Prop} {v1 v2 u1 u2:Value} (hwf:WF t) (hl:LInv s0) (n1:Nice s0 a s0.sets.length x)
 (h:Hold w w5 B gl (layP t s0).1 x Q Q5 g4 g5 v1 v2) (hy:StrAt w5 W u1 u2 (layP t s0).2 Q5) (h2:TwoS v1 v2 u1 u2) (hW:w.heap.size<=W) (hB:B<=w.heap.size) (h1000:(layP t s0).1.sets.length<=1000):
 Calls Tryd.prog 76 #[.pointer (some ⟨gl,0,none⟩),.agg #[v1,v2,.bool x.empty],.agg #[u1,u2,.bool (layP t s0).2.empty]] w5 fun e w6=>∃ z1 z2 Q6,e = .returned (.agg #[z1,z2,.bool (zb8 x (layP t s0).2).empty])∧w6.heap[g5]?.isSome∧
  BoxS w6 g5 v1 v2 x.empty∧BoxS w6 g4 (.slice none 0 0) (.slice none 0 0) false∧
  Hold w (((w6.setCell ⟨g5,0,none⟩ z1).setCell ⟨g5,1,none⟩ z2).setCell ⟨g5,2,none⟩ (.bool (zb8 x (layP t s0).2).empty)) B gl (zcb (layP t s0).1 x (layP t s0).2) (zb8 x (layP t s0).2) Q Q6 g4 g5 z1 z2:=by
 have hf:=zh1 hwf s0 hl;have hs:=h.kept.size;refine (zol h.lay h.str (hy.low hW) h2 (yfa hB hs) hs hf.inv (zvl hwf hl n1) hf.nice (yez _) h1000).mono ?_;rintro e w6 ⟨z1,z2,Q6,rfl,l6,s6,k6,q6⟩;have m5:¬ (Q5 g5∨v1.ownBlock=some g5∨v2.ownBlock=some g5):=by
  rintro (e|e|e)
  .exact h.n5 e
  .obtain⟨cur,hc⟩:=h.str.first.kind e;exact za1 hc h.box yij rfl
  .obtain⟨cur,hc⟩:=h.str.last.kind e;exact za1 hc h.box yij rfl
 have m4:¬ (Q5 g4∨v1.ownBlock=some g4∨v2.ownBlock=some g4):=by
  rintro (e|e|e)
  .exact h.n4 e
  .obtain⟨cur,hc⟩:=h.str.first.kind e;exact za1 hc h.res yij rfl
  .obtain⟨cur,hc⟩:=h.str.last.kind e;exact za1 hc h.res yij rfl
 have b6:=h.box.off k6 m5;exact⟨z1,z2,Q6,rfl,by rw[show w6.heap[g5]?=_ from b6];rfl,b6,h.res.off k6 m4,h.joined l6 s6 k6 q6⟩
theorem yer {N:Nat} (ih:zxv N) {w:World} {B gl:Nat} {s:Lay} {Q:Nat->Prop} {t:T} {A:Option Addr} {n c:Nat} (hk:∀ u∈t.kids,SizeOf.sizeOf u<=N∧WF u) (hlay:LayAt w B gl s Q) (ht:Tree w (fun b=>¬ Q b) t (.slice A n c)) (hB:B<=w.heap.size)
 (hl:LInv s) (h1000:s.sets.length+plRL t.kids<=1000) (hn100:n<=1000):
 Calls Tryd.prog 61 #[.pointer (some ⟨gl,0,none⟩),.slice A n c] w (zc0 w B gl w.heap.size (catP t.kids s .nothing).1 (catP t.kids s .nothing).2 Q Q):=by
 have hn:=ht.bound.1;have b4:=BoxS.new w (.slice none 0 0) (.slice none 0 0) false;have hB1:Below w.heap.size w (w.alloc (.cells #[.slice none 0 0,.slice none 0 0,.bool false] 132)):=(yf6 _ _).alloc (yez _) _;have HK:=Zh hk;have HLAY:=Zh hlay;have HT:=Zh ht;have HL:=Zh hl;have H1000:=Zh h1000;have HN:=Zh hn;have HBW:=Zh hB;clear hk hlay ht hl h1000 hn hB;go_enter Tryd.func61,Tryd.ntmps61;go_wp2_with (go_at_call 75;(with_reducible refine (zjb _).mono ?_);rintro e wa ⟨rfl,hb1⟩;have hs0:=Hold.start (x := .nothing) (gro1 (yf6 _ _) hb1) (b4.stays hb1) (yez _) HLAY.o (fun w C Q=>zg9 w C Q));have hs0':Hold w (wa.alloc (.cells #[.slice none 0 0,.slice none 0 0,.bool true] 132)) B gl s .nothing Q Q w.heap.size wa.heap.size (.slice none 0 0) (.slice none 0 0):=hs0;have HS:=Zh hs0';clear hs0 hs0' b4 hB1 hb1;go_loopg [10] n (fun m i wr=>∃ k:Nat,i = .int .i64 (k:Int)∧k<=n∧m=n-k∧∃ v1 v2 Qr,Hold w wr B gl (catP (t.kids.take k) s .nothing).1 (catP (t.kids.take k) s .nothing).2 Q Qr w.heap.size wa.heap.size v1 v2)
 case atStart=>exact⟨0,rfl,yf8 _,rfl,_,_,_,by simpa [catP] using HS.o⟩
 case round =>
  obtain⟨k,rfl,hk,hmk,v1,v2,Qr,hh⟩:=hrel;have HMK:=Zh hmk;clear hmk
  by_cases hkl:k<n
  .have hkl':k<t.kids.length:=(by rw[←HN.o];exact hkl);have hmem:=yfq hkl';have hku:=HK.o _ hmem;have htk:=zj7 t.kids k hkl';have hle:=zmc t.kids (k+1);have hf:=zxb (t.kids.take k) (fun u hu=>(HK.o u (List.mem_of_mem_take hu)).2) s HL.o;have hsn:catP (t.kids.take (k+1)) s .nothing=_:=(congrArg (fun l=>catP l s .nothing) (yfg hkl')).trans (zp2 _ _ _ _);obtain⟨gk,rfl,hnode⟩:=zgu (ziy HT.o hh.kept hh.new) k hkl';generalize t.kids[k]'hkl'=u at *;obtain⟨sk,hsk⟩:∃ sk,(catP (t.kids.take k) s .nothing).1=sk:=⟨_,rfl⟩;obtain⟨xk,hxk⟩:∃ xk,(catP (t.kids.take k) s .nothing).2=xk:=⟨_,rfl⟩;rw[hsk,hxk] at hh hf hsn;have hls:=zd5 hku.2 sk;have hhs:=hh.kept.size;have h1k:=hf.size;have hBw:B<=w.heap.size:=HBW.o;have h1000:=H1000.o;have hcall:=ih u wr.drew B gl sk Qr gk (k*8) hku.1 hku.2 hh.lay.drew hnode.drew (show B<=wr.heap.size by omega) hf.inv yie;unfold zc0 at hcall;have HC:=Zh hcall;have HH:=Zh hh.drew;have HF:=Zh hf;have HSN:=Zh hsn;have HKU:=Zh hku.2;have HLS:=Zh (show (layP u sk).1.sets.length<=1000 by omega);obtain⟨c0,c1,c2⟩:=hh.box.cell;have k0:(0:Int)<=(k:Int):=yie;have k1:(k:Int)<(n:Int):=yie;clear hcall hh hf hsn hku hnode htk hle hsk hxk hls h1k hmem;go_upto_region 5 with fail
   go_region_law (first
    | (go_simp;go_at_call 45;(refine HC.o.mono ?_);rintro e w5 ⟨u1,u2,Q5,rfl,l5,s5,k5,q5⟩;have h5:=HH.o.laid l5 k5 q5;obtain⟨d0,d1,d2⟩:=h5.box.cell;have H5:=Zh h5;have S5:=Zh s5;have T5:=Zh (HH.o.two s5);clear h5 s5 l5 k5 q5)
    | (go_simp;go_at_call 76;have hj:=zon (t:=u) (s0:=sk) (x:=xk) HKU.o HF.o.inv HF.o.nice H5.o S5.o T5.o HH.o.kept.size HBW.o HLS.o;(refine hj.mono ?_);rintro e w6 ⟨z1,z2,Q6,rfl,-,b6,r6,h6⟩;clear hj;obtain⟨Z1,zm1,zc1,rfl⟩:=h6.str.first.form3;obtain⟨Z2,zm2,zc2,rfl⟩:=h6.str.last.form3;have H6:=Zh h6;obtain⟨f0,f1,f2⟩:=b6.cell;obtain⟨y0,y1,y2⟩:=b6.frozen;clear h6 b6 r6)
    | fail)
   all_goals
    go_wp2;go_roundg (n-(k+1))
    case measure=>have:=HMK.o;omega
    case rel=>exact⟨k+1,by go_num,by omega,rfl,_,_,Q6,by rw[HSN.o];exact H6.o⟩
  .have hkn:k=t.kids.length:=yjh;rw[hkn,yfy] at hh;obtain⟨A1,m1,c1,rfl⟩:=hh.str.first.form3
   obtain⟨A2,m2,c2,rfl⟩:=hh.str.last.form3;obtain⟨c0,c1,c2⟩:=hh.box.cell;obtain⟨r0,r1,r2⟩:=hh.res.cell;obtain⟨q0,q1,q2⟩:=hh.res.frozen;have HH:=Zh hh;clear hh;go_wp2;refine zc5 (x:=4) rfl rfl rfl (HH.o.res.put _ _ _) ?_;exact HH.o.told
end
section
attribute [local go_sem ↓] Go.wp_at_zero Go.wp_at_succ
section
variable {w w5 w6 w7:World} {B gl g4 g5:Nat} {s:Lay} {x y:Str} {Q Q5:Nat->Prop} {v1 v2 u1 u2 z1 z2:Value} {C:Nat}
theorem BoxS.put1 {w:World} {g:Nat} {v1 v2:Value} {e:Bool} (h:BoxS w g v1 v2 e) (u:Value):BoxS (w.setCell ⟨g,1,none⟩ u) g v1 u e:=by
 unfold BoxS at h ⊢;rw[heap_setCell_same w g 1 _ _ u h];rfl
theorem BoxS.put2 {w:World} {g:Nat} {v1 v2:Value} {e:Bool} (h:BoxS w g v1 v2 e) (e':Bool):BoxS (w.setCell ⟨g,2,none⟩ (.bool e')) g v1 v2 e':=by
 unfold BoxS at h ⊢;rw[heap_setCell_same w g 2 _ _ (.bool e') h];rfl
structure yek (w6:World) (C g4 g5 g7:Nat) (x y:Str) (v2 u1 u2 z1:Value) (W:Nat):Prop where
 last:Ints w6 W v2 (ns x.last)
 more:Ints w6 C u2 (ns y.last)
 b5:BoxS w6 g5 z1 v2 x.empty
 b4:BoxS w6 g4 (.slice none 0 0) (.slice none 0 0) false
 b7:BoxS w6 g7 u1 u2 y.empty
theorem zxp (h:Hold w w5 B gl s x Q Q5 g4 g5 v1 v2) (hy:StrAt w5 C u1 u2 y Q5) (h2:TwoS v1 v2 u1 u2)
 (g6:(w5.alloc (.cells #[u1,u2,.bool y.empty] 132)).grownBy w6 v1.ownBlock):yek (w6.setCell ⟨g5,0,none⟩ z1) C g4 g5 w5.heap.size x y v2 u1 u2 z1 w.heap.size:=by
 have hi:=h.str.first.alloc (.cells #[u1,u2,.bool y.empty] 132)
 have b5:=(h.box.alloc (.cells #[u1,u2,.bool y.empty] 132)).grownI hi g6;have b4:=(h.res.alloc (.cells #[u1,u2,.bool y.empty] 132)).grownI hi g6;have b7:=(BoxS.new w5 u1 u2 y.empty).grownI hi g6;have l5:=h.box.lt;have zk:∀ {v:Value} {l:List Int} {C:Nat},Ints w6 C v l->∀ b,v.ownBlock=some b->b≠g5:=fun hi b e=>by
  obtain⟨cur,hc⟩:=hi.kind e;exact za1 hc b5 yij
 have i2:=(h.str.last.alloc (.cells #[u1,u2,.bool y.empty] 132)).kept g6 fun b e e2=>h.str.apart b e2 e
 have j2:=(hy.last.alloc (.cells #[u1,u2,.bool y.empty] 132)).kept g6 fun b e e2=>h2.a12 b e2 e
 exact⟨i2.block fun b e hb=>yf9 _ _ _ _ (zk i2 b e),j2.block fun b e hb=>yf9 _ _ _ _ (zk j2 b e),b5.put0 _,b4.far h.ne _,b7.far (by show w5.heap.size≠g5;omega) _⟩
theorem Hold.alted (h:Hold w w5 B gl s x Q Q5 g4 g5 v1 v2) (hy:StrAt w5 C u1 u2 y Q5) (h2:TwoS v1 v2 u1 u2)
 (i6:Ints w6 w.heap.size z1 (ns x.first++ns y.first)) (g6:(w5.alloc (.cells #[u1,u2,.bool y.empty] 132)).grownBy w6 v1.ownBlock) (o6:z1.ownBlock=v1.ownBlock∨z1.ownBlock=some (w5.alloc (.cells #[u1,u2,.bool y.empty] 132)).heap.size)
 (i7:Ints w7 w.heap.size z2 (ns x.last++ns y.last)) (g7:(w6.setCell ⟨g5,0,none⟩ z1).grownBy w7 v2.ownBlock) (o7:z2.ownBlock=v2.ownBlock∨z2.ownBlock=some (w6.setCell ⟨g5,0,none⟩ z1).heap.size):
 Hold w ((w7.setCell ⟨g5,1,none⟩ z2).setCell ⟨g5,2,none⟩ (.bool (x.empty||y.empty))) B gl s (altX x y) Q Q5 g4 g5 z1 z2:=by
 have hm:=zxp (z1:=z1) h hy h2 g6;have hs6:=g6.size;rw[yfe] at hs6;have hs7:w6.heap.size<=w7.heap.size:=(by have:=g7.size;simpa [World.setCell] using this);have hsw:=h.kept.size;have l5:=h.box.lt;have l4:=h.res.lt;have b5:=hm.b5.grownI hm.last g7;have b4:=hm.b4.grownI hm.last g7;have B1:∀ b,z1.ownBlock=some b->v1.ownBlock=some b∨b=w5.heap.size+1:=fun b e=>by
  rcases o6 with o|o
  .exact .inl (o.symm.trans e)
  .rw[e] at o;injection o with o;exact .inr (by simpa using o)
 have B2:∀ b,z2.ownBlock=some b->v2.ownBlock=some b∨b=w6.heap.size:=fun b e=>by
  rcases o7 with o|o
  .exact .inl (o.symm.trans e)
  .rw[e] at o;injection o with o;exact .inr (by simpa [World.setCell] using o)
 have n1:∀ b,v1.ownBlock=some b->b<w5.heap.size∧¬ Q5 b∧w.heap.size<=b:=fun b e=>⟨(h.str.first.in e).2,h.str.out1 b e,(h.str.first.in e).1⟩
 have n2:∀ b,v2.ownBlock=some b->b<w5.heap.size∧¬ Q5 b∧w.heap.size<=b:=fun b e=>⟨(h.str.last.in e).2,h.str.out2 b e,(h.str.last.in e).1⟩
 have q5:∀ b,Q5 b->b<w5.heap.size:=fun b e=>(h.lay.ge b e).2
 have K:Kept (fun b=>v1.ownBlock=some b∨v2.ownBlock=some b∨b=g5) w5 ((w7.setCell ⟨g5,1,none⟩ z2).setCell ⟨g5,2,none⟩ (.bool (x.empty||y.empty))):=
  (((((((Kept.refl (fun b=>v1.ownBlock=some b∨v2.ownBlock=some b∨b=g5) w5).alloc _).grown g6 fun b e => .inl (.inl e)).setCell (a:=⟨g5,0,none⟩) (.inl (.inr (.inr rfl))) z1).grown g7 fun b e => .inl (.inr (.inl e))).setCell (a:=⟨g5,1,none⟩) (.inl (.inr (.inr rfl))) _).setCell (a:=⟨g5,2,none⟩) (.inl (.inr (.inr rfl))) _)
 have K6:Kept (fun b=>v2.ownBlock=some b∨b=g5) w6 ((w7.setCell ⟨g5,1,none⟩ z2).setCell ⟨g5,2,none⟩ (.bool (x.empty||y.empty))):=
  (((((Kept.refl (fun b=>v2.ownBlock=some b∨b=g5) w6).setCell (a:=⟨g5,0,none⟩) (.inl (.inr rfl)) z1).grown g7 fun b e => .inl (.inl e)).setCell (a:=⟨g5,1,none⟩) (.inl (.inr rfl)) _).setCell (a:=⟨g5,2,none⟩) (.inl (.inr rfl)) _)
 have K7:Kept (fun b=>b=g5) w7 ((w7.setCell ⟨g5,1,none⟩ z2).setCell ⟨g5,2,none⟩ (.bool (x.empty||y.empty))):=
  ((Kept.refl (fun b=>b=g5) w7).setCell (a:=⟨g5,1,none⟩) (.inl rfl) _).setCell (a:=⟨g5,2,none⟩) (.inl rfl) _
 have k6:∀ b,z1.ownBlock=some b->b≠g5:=fun b e=>by
  obtain⟨cur,hc⟩:=i6.kind e;have b6:=(h.box.alloc (.cells #[u1,u2,.bool y.empty] 132)).grownI (h.str.first.alloc (.cells #[u1,u2,.bool y.empty] 132)) g6;exact za1 hc b6 yij
 have k7:∀ b,z2.ownBlock=some b->b≠g5:=fun b e=>by
  obtain⟨cur,hc⟩:=i7.kind e;exact za1 hc b5 yij
 have I1:=i6.off K6 fun b e hq=>by
  rcases hq with hq|hq
  .rcases B1 b e with h1|h1
   .exact h.str.apart b h1 hq
   .have:=(n2 b hq).1;omega
  .exact k6 b e hq
 have I2:=i7.off K7 k7;rw[←zja] at I1 I2;refine⟨(b5.put1 _).put2 _,(b4.far h.ne _).far h.ne _,h.lay.off K fun b e hq=>?_,⟨I1,I2,fun b e e2=>?_,fun b e hq=>?_,fun b e hq=>?_⟩,h.kept.trans K fun b hq=>?_,h.new,h.n4,h.n5,h.h4,h.h5,h.ne⟩
 .rcases hq with hq|hq|hq
  .exact (n1 b hq).2.1 e
  .exact (n2 b hq).2.1 e
  .exact h.n5 (hq▸e)
 .rcases B1 b e with h1|h1
  .rcases B2 b e2 with h3|h3
   .exact h.str.apart b h1 h3
   .have:=(n1 b h1).1;omega
  .rcases B2 b e2 with h3|h3
   .have:=(n2 b h3).1;omega
   .have:=(i6.in e).2;omega
 .rcases B1 b e with h1|h1
  .exact (n1 b h1).2.1 hq
  .have:=q5 b hq;omega
 .rcases B2 b e with h1|h1
  .exact (n2 b h1).2.1 hq
  .have:=q5 b hq;omega
 .rcases hq with hq|hq|hq
  .exact .inr (n1 b hq).2.2
  .exact .inr (n2 b hq).2.2
  .exact .inr (by have:=h.h5;omega)
end
theorem yes {N:Nat} (ih:zxv N) {w:World} {B gl:Nat} {s:Lay} {Q:Nat->Prop} {t:T} {A:Option Addr} {n c:Nat} (hk:∀ u∈t.kids,SizeOf.sizeOf u<=N∧WF u) (hlay:LayAt w B gl s Q) (ht:Tree w (fun b=>¬ Q b) t (.slice A n c)) (hB:B<=w.heap.size)
 (hl:LInv s) (h1000:s.sets.length+plRL t.kids<=1000) (hn100:n<=1000):
 Calls Tryd.prog 62 #[.pointer (some ⟨gl,0,none⟩),.slice A n c] w (zc0 w B gl w.heap.size (altP t.kids s .void).1 (altP t.kids s .void).2 Q Q):=by
 have hn:=ht.bound.1;have b4:=BoxS.new w (.slice none 0 0) (.slice none 0 0) false;have hB1:Below w.heap.size w (w.alloc (.cells #[.slice none 0 0,.slice none 0 0,.bool false] 132)):=(yf6 _ _).alloc (yez _) _;have hs0:Hold w ((w.alloc (.cells #[.slice none 0 0,.slice none 0 0,.bool false] 132)).alloc (.cells #[.slice none 0 0,.slice none 0 0,.bool false] 132)) B gl s .void Q Q w.heap.size (w.alloc (.cells #[.slice none 0 0,.slice none 0 0,.bool false] 132)).heap.size (.slice none 0 0) (.slice none 0 0):=
  Hold.start (x := .void) hB1 b4 (yez _) hlay (fun w C Q=>zy6 w C Q)
 rw[yfe] at hs0;have HK:=Zh hk;have HT:=Zh ht;have HL:=Zh hl;have H1000:=Zh h1000;have HN:=Zh hn;have HBW:=Zh hB;have HS:=Zh hs0;clear hk hlay ht hl h1000 hn hB hs0 b4 hB1;go_enter Tryd.func62,Tryd.ntmps62;go_wp2;go_loopg [10] n (fun m i wr=>∃ k:Nat,i = .int .i64 (k:Int)∧k<=n∧m=n-k∧∃ v1 v2 Qr,Hold w wr B gl (altP (t.kids.take k) s .void).1 (altP (t.kids.take k) s .void).2 Q Qr w.heap.size (w.heap.size+1) v1 v2)
 case atStart=>exact⟨0,rfl,yf8 _,rfl,_,_,_,by simpa [altP] using HS.o⟩
 case round =>
  obtain⟨k,rfl,hk,hmk,v1,v2,Qr,hh⟩:=hrel;have HMK:=Zh hmk;clear hmk;obtain⟨A1,m1,c1,rfl⟩:=hh.str.first.form3
  obtain⟨A2,m2,c2,rfl⟩:=hh.str.last.form3
  by_cases hkl:k<n
  .have hkl':k<t.kids.length:=(by rw[←HN.o];exact hkl);have hmem:=yfq hkl';have hku:=HK.o _ hmem;have htk:=zj7 t.kids k hkl';have hle:=zmc t.kids (k+1);have hf:=zxq (t.kids.take k) (fun u hu=>(HK.o u (List.mem_of_mem_take hu)).2) s HL.o;have hsn:altP (t.kids.take (k+1)) s .void=_:=(congrArg (fun l=>altP l s .void) (yfg hkl')).trans (zp5 _ _ _ _);obtain⟨gk,rfl,hnode⟩:=zgu (ziy HT.o hh.kept hh.new) k hkl';generalize t.kids[k]'hkl'=u at *;obtain⟨sk,hsk⟩:∃ sk,(altP (t.kids.take k) s .void).1=sk:=⟨_,rfl⟩;obtain⟨xk,hxk⟩:∃ xk,(altP (t.kids.take k) s .void).2=xk:=⟨_,rfl⟩;rw[hsk,hxk] at hh hf hsn;have hls:=zh1 hku.2 sk hf.inv;have hhs:=hh.kept.size;have h1k:=hf.size;have h2k:=hls.size;have hBw:B<=w.heap.size:=HBW.o;have h1000:=H1000.o;have nx:=hf.nice.len;have ny:=hls.nice.len;have hcall:=ih u wr B gl sk Qr gk (k*8) hku.1 hku.2 hh.lay hnode yie hf.inv yie;unfold zc0 at hcall;obtain⟨yk,hyk⟩:∃ yk,(layP u sk).2=yk:=⟨_,rfl⟩;rw[hyk] at hcall hsn ny;have HC:=Zh hcall;have HH:=Zh hh;have HSN:=Zh hsn;have HLX:Hid (xk.first.length+yk.first.length<=100000∧xk.last.length+yk.last.length<=100000):=by constructor <;> omega
   obtain⟨ex,hex⟩:∃ e,xk.empty=e:=⟨_,rfl⟩;obtain⟨ey,hey⟩:∃ e,yk.empty=e:=⟨_,rfl⟩;have HE:=Zh (And.intro hex hey);have hwz:=hh.box.lt;have k0:(0:Int)<=(k:Int):=yie;have k1:(k:Int)<(n:Int):=yie;clear hcall hh hf hsn hku hnode htk hle hsk hxk hls h1k h2k hmem nx ny hyk hex hey;go_wp2_with (first
    | (go_at_call 45;(refine HC.o.mono ?_);rintro e w5 ⟨u1,u2,Q5,rfl,l5,s5,k5,q5⟩;obtain⟨A3,m3,c3,rfl⟩:=s5.first.form3;obtain⟨A4,m4,c4,rfl⟩:=s5.last.form3;have h5:=HH.o.laid l5 k5 q5;have hs5:=k5.size;obtain⟨d0,d1,d2⟩:=(h5.box.alloc (.cells #[.slice A3 m3 c3,.slice A4 m4 c4,.bool yk.empty] 132)).cell;obtain⟨e0,e1,e2⟩:=(h5.box.alloc (.cells #[.slice A3 m3 c3,.slice A4 m4 c4,.bool yk.empty] 132)).frozen;obtain⟨f0,f1,f2⟩:=(BoxS.new w5 (.slice A3 m3 c3) (.slice A4 m4 c4) yk.empty).cell;have I1:=Zh (h5.str.first.alloc (.cells #[.slice A3 m3 c3,.slice A4 m4 c4,.bool yk.empty] 132));have J1:=Zh (s5.first.alloc (.cells #[.slice A3 m3 c3,.slice A4 m4 c4,.bool yk.empty] 132));have H5:=Zh h5;have S5:=Zh s5;have T5:=Zh (HH.o.two s5);clear h5 s5 l5 k5 q5)
    | (refine zbc rfl _ _ yik yik yik I1.o J1.o (by rw[zaj,zaj];exact HLX.o.1) yil ?_;intro z1 w6 i6 g6 o6;have hm:=zxp (z1:=z1) H5.o S5.o T5.o g6;obtain⟨A5,m5,c5,rfl⟩:=i6.form3;have hs6:=g6.size;rw[yfe] at hs6;obtain⟨d0,d1,d2⟩:=((H5.o.box.alloc (.cells #[.slice A3 m3 c3,.slice A4 m4 c4,.bool yk.empty] 132)).grownI I1.o g6).cell;obtain⟨e0,e1,e2⟩:=((H5.o.box.alloc (.cells #[.slice A3 m3 c3,.slice A4 m4 c4,.bool yk.empty] 132)).grownI I1.o g6).frozen;obtain⟨f0,f1,f2⟩:=((BoxS.new w5 (.slice A3 m3 c3) (.slice A4 m4 c4) yk.empty).grownI I1.o g6).cell;have HM:=Zh hm;clear hm)
    | (refine zbc rfl _ _ yik yik yik HM.o.last HM.o.more (by rw[zaj,zaj];exact HLX.o.2) (by simp[World.setCell];omega) ?_;intro z2 w7 i7 g7 o7;obtain⟨A6,m6,c6,rfl⟩:=i7.form3;obtain⟨d0,d1,d2⟩:=(HM.o.b5.grownI HM.o.last g7).cell;obtain⟨e0,e1,e2⟩:=(HM.o.b5.grownI HM.o.last g7).frozen;obtain⟨f0,f1,f2⟩:=(HM.o.b7.grownI HM.o.last g7).cell))
   all_goals
    have hh2:=H5.o.alted S5.o T5.o i6 g6 o6 i7 g7 o7;have HH2:=Zh hh2;clear hh2;go_roundg (n-(k+1))
    case measure=>have:=HMK.o;omega
    case rel =>
     have hh2:=HH2.o
     first
      | (have he:xk.empty=true:=by assumption
         rw[he,Bool.true_or] at hh2;exact⟨k+1,by go_num,by omega,rfl,_,_,Q5,by rw[HSN.o];exact hh2⟩)
      | (have he:¬ xk.empty=true:=by assumption
         have he':xk.empty=false:=(by simpa using he);rw[he',Bool.false_or] at hh2;exact⟨k+1,by go_num,by omega,rfl,_,_,Q5,by rw[HSN.o];exact hh2⟩)
  .have hkn:k=t.kids.length:=yjh;rw[hkn,yfy] at hh;obtain⟨c0,c1',c2'⟩:=hh.box.cell;obtain⟨r0,r1,r2⟩:=hh.res.cell;obtain⟨q0,q1,q2⟩:=hh.res.frozen;have HH:=Zh hh;clear hh;go_wp2;refine zc5 (x:=4) rfl rfl rfl (HH.o.res.put _ _ _) ?_;exact HH.o.told
end
section
attribute [local go_sem ↓] Go.wp_at_zero Go.wp_at_succ
def zxu (u:T):Prop:=∀ (w:World) (B gl:Nat) (s:Lay) (Q:Nat->Prop) (g o:Nat),LayAt w B gl s Q->NodeIn w g o u Q->B<=w.heap.size->LInv s->
 s.sets.length+plR u<=1000->Calls Tryd.prog 45 #[.pointer (some ⟨gl,0,none⟩),.pointer (some ⟨g,o,none⟩)] w (zc0 w B gl w.heap.size (layP u s).1 (layP u s).2 Q Q)
theorem zi5 {u:T} (hwf:WF u) (d:Nat) (s:Lay) (hl:LInv s):zxw s (within (layP u) d s).1 (within (layP u) d s).2 (d*plR u):=by
 obtain⟨h1,h4⟩:=zes (xs:=[]) (zfb hwf) d s hl;exact⟨h1.inv,⟨_,h4⟩,zg7 (zd5 hwf) d s⟩
theorem zje {u:T} (hwf:WF u) (d:Nat) {s:Lay} (hl:LInv s) {a:Nat} {x:Str} (h:Nice s a s.sets.length x):Nice (within (layP u) d s).1 a s.sets.length x:=by
 obtain⟨R,h⟩:=h;exact⟨R,h.more (zes (xs:=[]) (zfb hwf) d s hl).1 (yez _)⟩
theorem zox {u:T} (hwf:WF u) (m:Nat) (s:Lay) (hl:LInv s):zxw s (zaq (layP u) m s .nothing).1 (zaq (layP u) m s .nothing).2 (m*plR u):=by
 obtain⟨h1,_,_,h4⟩:=zge (xs:=[]) (zfb hwf) m s .nothing s.sets.length 0 hl (zcx _);exact⟨h1,⟨_,h4⟩,zgi (zd5 hwf) m s _⟩
theorem zk0 (f:Lay->Lay×Str):∀ (m:Nat) (s:Lay) (x:Str),zaq f (m+1) s x=(zcb (f (zaq f m s x).1).1 (zaq f m s x).2 (f (zaq f m s x).1).2,zb8 (zaq f m s x).2 (f (zaq f m s x).1).2)
 | 0,s,x=>rfl
 | m+1,s,x=>by
  rw[zaq,zk0 f m];rfl
structure Joined (w w9:World) (B gl:Nat) (s9:Lay) (z:Str) (Q Q9:Nat->Prop) (g4 k:Nat) (z1 z2:Value):Prop where
 lay:LayAt w9 B gl s9 Q9
 str:StrAt w9 w.heap.size z1 z2 z Q9
 kept:Kept Q w w9
 new:∀ b,Q9 b->Q b∨w.heap.size<=b
 res:BoxS w9 g4 (.slice none 0 0) (.slice none 0 0) false
 n4:¬ Q9 g4
 h4:w.heap.size<=g4
 box:∃ a b e,BoxS w9 k a b e
 nk:¬ Q9 k
 hk:w.heap.size<=k
 ne:g4≠k
theorem Hold.alloc {w wr:World} {B gl g4 g5:Nat} {s:Lay} {x:Str} {Q Qr:Nat->Prop} {v1 v2:Value} (h:Hold w wr B gl s x Q Qr g4 g5 v1 v2) (o:Obj):Hold w (wr.alloc o) B gl s x Q Qr g4 g5 v1 v2:=
 ⟨h.box.alloc o,h.res.alloc o,h.lay.alloc o,h.str.alloc o,h.kept.alloc o,h.new,h.n4,h.n5,h.h4,h.h5,h.ne⟩
theorem NodeIn.alloc {w:World} {Q:Nat->Prop} {g o:Nat} {t:T} (h:NodeIn w g o t Q) (ob:Obj):NodeIn (w.alloc ob) g o t Q:=h.kept ((Kept.refl Q w).alloc ob) fun b h => .inl h
theorem zh2 {w w8 w9:World} {B gl g4 g5 k:Nat} {s8 s9:Lay} {x z:Str} {Q Q8 Q9:Nat->Prop} {v1 v2 z1 z2 a b:Value} {e:Bool} (h:Hold w w8 B gl s8 x Q Q8 g4 g5 v1 v2) (l9:LayAt w9 B gl s9 Q9) (z9:StrAt w9 w.heap.size z1 z2 z Q9)
 (k9:Kept (fun b=>Q8 b∨v1.ownBlock=some b∨v2.ownBlock=some b) w8 w9) (q9:∀ b,Q9 b->Q8 b∨w8.heap.size<=b) (bk:BoxS w8 k a b e) (nk:¬ Q8 k) (hk:w.heap.size<=k) (ne:g4≠k):
 Joined w w9 B gl s9 z Q Q9 g4 k z1 z2∧BoxS w9 k a b e:=by
 have hs:=h.kept.size;have l4:=h.res.lt;have lk:=bk.lt;have m:∀ {g:Nat} {a b:Value} {e:Bool},BoxS w8 g a b e->¬ Q8 g->¬ (Q8 g∨v1.ownBlock=some g∨v2.ownBlock=some g):=fun hg hn=>by
  rintro (e|e|e)
  .exact hn e
  .obtain⟨cur,hc⟩:=h.str.first.kind e;exact za1 hc hg yij rfl
  .obtain⟨cur,hc⟩:=h.str.last.kind e;exact za1 hc hg yij rfl
 have b9:=bk.off k9 (m bk nk);refine⟨⟨l9,z9,h.kept.trans k9 fun b e=>?_,fun b e=>(q9 b e).elim (h.new b) fun e' => .inr yie,h.res.off k9 (m h.res h.n4),fun e=>(q9 _ e).elim h.n4 fun e'=>by omega,h.h4,⟨a,b,e,b9⟩,fun e=>(q9 _ e).elim nk fun e'=>by omega,hk,ne⟩,b9⟩;rcases e with e|e|e
 .exact h.new b e
 .exact .inr (h.str.first.in e).1
 .exact .inr (h.str.last.in e).1
theorem Joined.told {w w9 wF:World} {B gl g4 k:Nat} {s9:Lay} {z x':Str} {Q Q9:Nat->Prop} {z1 z2:Value} (h:Joined w w9 B gl s9 z Q Q9 g4 k z1 z2) (K:Kept (fun b=>b=g4∨b=k) w9 wF) (hf:x'.first=z.first) (hl:x'.last=z.last):
 zc0 w B gl w.heap.size s9 x' Q Q (.returned (.agg #[z1,z2,.bool x'.empty])) wF:=by
 obtain⟨a,b,e,bk⟩:=h.box;have zk:∀ {v:Value} {l:List Int} {C:Nat},Ints w9 C v l->∀ b,v.ownBlock=some b->¬ (b=g4∨b=k):=fun hi b e=>by
  obtain⟨cur,hc⟩:=hi.kind e;rintro (e2|e2)
  .exact za1 hc h.res yij e2
  .exact za1 hc bk yij e2
 refine⟨z1,z2,Q9,rfl,h.lay.off K fun b e e2=>?_,⟨?_,?_,h.str.apart,h.str.out1,h.str.out2⟩,h.kept.trans K fun b e=>?_,h.new⟩
 .rcases e2 with e2|e2
  .exact h.n4 (e2▸e)
  .exact h.nk (e2▸e)
 .rw[hf];exact h.str.first.off K (zk h.str.first)
 .rw[hl];exact h.str.last.off K (zk h.str.last)
 .have:=h.h4;have:=h.hk;rcases e with e|e <;> exact .inr yie
theorem Joined.moved {w w9 wF:World} {B gl g4 k k':Nat} {s9:Lay} {z:Str} {Q Q9:Nat->Prop} {z1 z2:Value} {a b:Value} {e:Bool} (h:Joined w w9 B gl s9 z Q Q9 g4 k z1 z2) (K:Kept (fun b=>b=k) w9 wF) (hb:BoxS wF k' a b e) (hk:k'=k∨w9.heap.size<=k'):
 Joined w wF B gl s9 z Q Q9 g4 k' z1 z2:=by
 obtain⟨a0,b0,e0,bk⟩:=h.box;have zk:∀ {v:Value} {l:List Int} {C:Nat},Ints w9 C v l->∀ b,v.ownBlock=some b->¬ (b=k):=fun hi b e=>by
  obtain⟨cur,hc⟩:=hi.kind e;exact za1 hc bk yij
 have l4:=h.res.lt;have hs:=h.kept.size;have h4:=h.h4;have hne:=h.ne;have hhk:=h.hk;refine⟨h.lay.off K fun b e e2=>h.nk (e2 ▸ e),⟨h.str.first.off K (zk h.str.first),h.str.last.off K (zk h.str.last),h.str.apart,h.str.out1,h.str.out2⟩,h.kept.trans K fun b e => .inr yie,h.new,h.res.off K hne,h.n4,h.h4,⟨a,b,e,hb⟩,fun e=>?_,?_,?_⟩
 .rcases hk with hk|hk
  .exact h.nk (hk▸e)
  .have:=(h.lay.ge _ e).2;omega
 .rcases hk with hk|hk <;> omega
 .rcases hk with hk|hk <;> omega
theorem Joined.put {w w9:World} {B gl g4 k:Nat} {s9:Lay} {z:Str} {Q Q9:Nat->Prop} {z1 z2 a b:Value} {e:Bool} (h:Joined w w9 B gl s9 z Q Q9 g4 k z1 z2) (hb:BoxS w9 k a b e) (u1 u2:Value) (e':Bool):
 Joined w (((w9.setCell ⟨k,0,none⟩ u1).setCell ⟨k,1,none⟩ u2).setCell ⟨k,2,none⟩ (.bool e')) B gl s9 z Q Q9 g4 k z1 z2:=
 h.moved ((((Kept.refl (fun b=>b=k) w9).setCell (a:=⟨k,0,none⟩) (.inl rfl) _).setCell (a:=⟨k,1,none⟩) (.inl rfl) _).setCell (a:=⟨k,2,none⟩) (.inl rfl) _) (hb.put u1 u2 e') (.inl rfl)
theorem Joined.fresh {w w9:World} {B gl g4 k:Nat} {s9:Lay} {z:Str} {Q Q9:Nat->Prop} {z1 z2:Value} (h:Joined w w9 B gl s9 z Q Q9 g4 k z1 z2) (u1 u2:Value) (e':Bool):
 Joined w (w9.alloc (.cells #[u1,u2,.bool e'] 132)) B gl s9 z Q Q9 g4 w9.heap.size z1 z2:=
 h.moved ((Kept.refl (fun b=>b=k) w9).alloc _) (BoxS.new w9 u1 u2 e') (.inr (yez _))
theorem Hold.copied {w w1 w5:World} {B gl g4:Nat} {s5:Lay} {y:Str} {Q Q5:Nat->Prop} {u1 u2:Value} (hb:Below w.heap.size w w1) (b4:BoxS w1 g4 (.slice none 0 0) (.slice none 0 0) false) (h4:w.heap.size<=g4) (hge:∀ b,Q b->b<w.heap.size)
 (l5:LayAt w5 B gl s5 Q5) (s5':StrAt w5 w1.heap.size u1 u2 y Q5) (k5:Kept Q w1 w5) (q5:∀ b,Q5 b->Q b∨w1.heap.size<=b):
 Hold w (w5.alloc (.cells #[u1,u2,.bool y.empty] 132)) B gl s5 y Q Q5 g4 w5.heap.size u1 u2:=by
 have hs:=hb.size;have hs5:=k5.size;have l4:=b4.lt;have n4:¬ Q g4:=fun e=>by have:=hge _ e;omega
 exact⟨BoxS.new w5 _ _ _,(b4.off k5 n4).alloc _,l5.alloc _,(s5'.low hs).alloc _,((Kept.of_below Q hb).trans k5 fun b h => .inl h).alloc _,fun b e=>(q5 b e).imp id fun e'=>by omega,
  fun e=>(q5 _ e).elim n4 fun e'=>by omega,fun e=>by have:=(l5.ge _ e).2;omega,h4,by omega,by omega⟩
theorem zxx {u:T} (hu:zxu u) (hwf:WF u):∀ (d:Nat) (w:World) (B gl:Nat) (s:Lay) (Q:Nat->Prop) (g o:Nat),d<=1000->LayAt w B gl s Q->NodeIn w g o u Q->B<=w.heap.size->LInv s->s.sets.length+d*plR u<=1000->
 Calls Tryd.prog 77 #[.pointer (some ⟨gl,0,none⟩),.pointer (some ⟨g,o,none⟩),.int .i64 (d:Int)] w (zc0 w B gl w.heap.size (within (layP u) d s).1 (within (layP u) d s).2 Q Q):=by
 intro d;induction d with
 | zero =>
  intro w B gl s Q g o _ hlay hnode hB hl h1000;have HLAY:=Zh hlay;have b4:=BoxS.new w (.slice none 0 0) (.slice none 0 0) false;clear hlay hnode hB hl h1000;go_enter Tryd.func77,Tryd.ntmps77;go_wp2_with (go_at_call 75;(with_reducible refine (zjb _).mono ?_);rintro e wa ⟨rfl,hb1⟩;obtain⟨d0,d1,d2⟩:=(b4.stays hb1).cell;obtain⟨e0,e1,e2⟩:=(b4.stays hb1).frozen);refine zc5 (x:=6) rfl rfl rfl ((b4.stays hb1).put _ _ _) ?_;have hb:=gro1 (yf6 _ _) hb1;have K:=((((Kept.of_below Q hb).setCell (a:=⟨w.heap.size,0,none⟩) (.inr (yez _)) (.slice none 0 0)).setCell (a:=⟨w.heap.size,1,none⟩) (.inr (yez _)) (.slice none 0 0)).setCell (a:=⟨w.heap.size,2,none⟩) (.inr (yez _)) (.bool true));have hn:¬ Q w.heap.size:=fun e=>by have:=(HLAY.o.ge _ e).2;omega
  exact⟨_,_,Q,rfl,(((HLAY.o.stays hb).far hn _).far hn _).far hn _,zg9 _ _ _,K,fun b h => .inl h⟩
 | succ d ih =>
  intro w B gl s Q g o hd hlay hnode hB hl h1000;have hmul:(d+1)*plR u=d*plR u+plR u:=yha _ _;have b4:=BoxS.new w (.slice none 0 0) (.slice none 0 0) false;have hb1:Below w.heap.size w (w.alloc (.cells #[.slice none 0 0,.slice none 0 0,.bool false] 132)):=(yf6 _ _).alloc (yez _) _;have hcall:=hu (w.alloc (.cells #[.slice none 0 0,.slice none 0 0,.bool false] 132)) B gl s Q g o (hlay.alloc _) (hnode.kept ((Kept.refl Q w).alloc _) fun b h => .inl h) yil hl yie;unfold zc0 at hcall;have hf:=zh1 hwf s hl;have hf2:=zi5 hwf d (layP u s).1 hf.inv;have hn2:=zje hwf d hf.inv hf.nice;have hsz:=hf.size;have hsz2:=hf2.size;obtain⟨s5,y1,e1⟩:∃ a b,layP u s=(a,b):=⟨_,_,rfl⟩;rw[e1] at hcall hf hf2 hn2 hsz hsz2;obtain⟨s8',y2,e2⟩:∃ a b,within (layP u) d s5=(a,b):=⟨_,_,rfl⟩;have ihs:=fun (w:World) (Q:Nat->Prop) h1 h2 h3=>ih w B gl s5 Q g o yie h1 h2 h3 hf.inv (by simp only at hsz;omega)
  rw[e2] at hf2 hn2 hsz2 ihs;have hW:within (layP u) (d+1) s=(zcb s8' y1 y2,⟨(zb8 y1 y2).first,(zb8 y1 y2).last,true⟩):=by
   show (zcb (within (layP u) d (layP u s).1).1 (layP u s).2 (within (layP u) d (layP u s).1).2,_)=_
   rw[e1];simp only[e2]
  rw[hW];simp only at hcall hf hf2 hn2 hsz hsz2 ihs ⊢;have HC:=Zh hcall;have HGE:Hid (∀ b,Q b->b<w.heap.size):=fun b e=>(hlay.ge b e).2
  have HB4:=Zh b4;have HB1:=Zh hb1;have HNODE:=Zh (hnode.kept ((Kept.refl Q w).alloc (.cells #[.slice none 0 0,.slice none 0 0,.bool false] 132)) fun b h => .inl h);have HF:=Zh hf;have HF2:=Zh hf2;have HN2:=Zh hn2;unfold zc0 at ihs;have HIH:=Zh ihs;have H1000:Hid (s8'.sets.length<=1000):=by
   show _<=_
   omega
  have HBW:=Zh hB;have hd0:¬ ((d:Int)+1<=0):=yie;have hd1:(d:Int)+1-1=d:=yie;have hwr:IntKind.i64.wrap (d:Int)=(d:Int):=IntWalk.i64_in _ yie;have hcast:((d+1:Nat):Int)=(d:Int)+1:=yie;rw[hcast];clear hlay hnode hl h1000 hcall hf hf2 hn2 hsz hsz2 b4 hb1 ih ihs hmul hcast hu hW e1 e2;go_enter Tryd.func77,Tryd.ntmps77;go_wp2_with (go_at_call 45;(refine HC.o.mono ?_);rintro e w5 ⟨u1,u2,Q5,rfl,l5,s5,k5,q5⟩;obtain⟨A3,m3,c3,rfl⟩:=s5.first.form3;obtain⟨A4,m4,c4,rfl⟩:=s5.last.form3;have h5:=Hold.copied HB1.o HB4.o (yez _) HGE.o l5 s5 k5 q5;have n5:=(HNODE.o.kept k5 q5).kept ((Kept.refl Q5 w5).alloc (.cells #[.slice A3 m3 c3,.slice A4 m4 c4,.bool y1.empty] 132)) (fun b h => .inl h);obtain⟨f0,f1,f2⟩:=(BoxS.new w5 (.slice A3 m3 c3) (.slice A4 m4 c4) y1.empty).cell;have H5:=Zh h5.drew;have N5:=Zh n5.drew;have NK5:Hid (¬ Q5 (w5.heap.size+1)):=(fun e=>by have:=(l5.ge _ e).2;omega);have hs5:=k5.size;have HK5:Hid (w.heap.size<=w5.heap.size+1):=(by show _<=_;simp at hs5;omega);have HNE5:Hid (w.heap.size≠w5.heap.size+1):=(by show _≠_;simp at hs5;omega);clear h5 n5 l5 s5 k5 q5);go_upto_region 4 with fail
  go_cut [8] from 15 to 22 (fun s8 wx=>∃ k Q9 A7 m7 c7 A8 m8 c8,s8 = .pointer (some ⟨k,0,none⟩)∧BoxS wx k (.slice A7 m7 c7) (.slice A8 m8 c8) (zb8 y1 y2).empty∧Joined w wx B gl (zcb s8' y1 y2) (zb8 y1 y2) Q Q9 w.heap.size k (.slice A7 m7 c7) (.slice A8 m8 c8))
  case first =>
   go_region_law (first
    | (go_simp;go_at_call 77;(refine (HIH.o _ _ H5.o.lay N5.o (yfa HBW.o H5.o.kept.size)).mono ?_);have HA:=Zh H5.o;rintro e w8 ⟨p1,p2,Q8,rfl,l8,s8,k8,q8⟩;have h8:=HA.o.laid l8 k8 q8;obtain⟨A5,m5,c5,rfl⟩:=s8.first.form3;obtain⟨A6,m6,c6,rfl⟩:=s8.last.form3;obtain⟨j0,j1,j2⟩:=h8.box.cell;have hl8:=h8.box.lt;have hsA:=HA.o.kept.size;have H8:=Zh h8;have S8:=Zh (s8.low (C':=w.heap.size) hsA);have T8:=Zh (HA.o.two s8);clear h8 s8 l8 k8 q8)
    | (go_simp;go_at_call 77;(refine (HIH.o _ _ (H5.o.alloc (.cells #[.slice none 0 0,.slice none 0 0,.bool false] 132)).lay (N5.o.alloc (.cells #[.slice none 0 0,.slice none 0 0,.bool false] 132)) (yfa HBW.o (H5.o.alloc (.cells #[.slice none 0 0,.slice none 0 0,.bool false] 132)).kept.size)).mono ?_);have HA:=Zh (H5.o.alloc (.cells #[.slice none 0 0,.slice none 0 0,.bool false] 132));rintro e w8 ⟨p1,p2,Q8,rfl,l8,s8,k8,q8⟩;have h8:=HA.o.laid l8 k8 q8;obtain⟨A5,m5,c5,rfl⟩:=s8.first.form3;obtain⟨A6,m6,c6,rfl⟩:=s8.last.form3;obtain⟨j0,j1,j2⟩:=h8.box.cell;have hl8:=h8.box.lt;have hsA:=HA.o.kept.size;have H8:=Zh h8;have S8:=Zh (s8.low (C':=w.heap.size) hsA);have T8:=Zh (HA.o.two s8);have BK:=Zh ((show BoxS ((w5.alloc (.cells #[.slice A3 m3 c3,.slice A4 m4 c4,.bool y1.empty] 132)).drew.alloc (.cells #[.slice none 0 0,.slice none 0 0,.bool false] 132)) (w5.heap.size+1) (.slice none 0 0) (.slice none 0 0) false from by have:=BoxS.new (w5.alloc (.cells #[.slice A3 m3 c3,.slice A4 m4 c4,.bool y1.empty] 132)).drew (.slice none 0 0) (.slice none 0 0) false;simpa using this).off k8 NK5.o);have NK8:Hid (¬ Q8 (w5.heap.size+1)):=(fun e=>(q8 _ e).elim NK5.o fun e'=>by simp at e';omega);clear h8 s8 l8 k8 q8)
    | (go_simp;go_at_call 76;have hj:=zol (a:=s.sets.length) (b:=s5.sets.length) (c:=s8'.sets.length) (C:=w.heap.size) H8.o.lay H8.o.str S8.o T8.o (yfa HBW.o H8.o.kept.size) H8.o.kept.size HF2.o.inv HN2.o HF2.o.nice (yez _) H1000.o;(refine hj.mono ?_);rintro e w9 ⟨z1,z2,Q9,rfl,l9,s9,k9,q9⟩;clear hj;obtain⟨A7,m7,c7,rfl⟩:=s9.first.form3;obtain⟨A8,m8,c8,rfl⟩:=s9.last.form3;have J9:=zh2 H8.o l9 s9 k9 q9 BK.o NK8.o HK5.o HNE5.o;obtain⟨yy0,yy1,yy2⟩:=J9.1.res.cell;obtain⟨xx0,xx1,xx2⟩:=J9.1.res.frozen;obtain⟨nn0,nn1,nn2⟩:=J9.2.cell;obtain⟨oo0,oo1,oo2⟩:=J9.2.frozen;have hne9:=J9.1.ne;have BX9:=Zh J9.2;have R9:=Zh J9.1.res;have JJ:=Zh J9.1;clear J9 l9 s9 k9 q9)
    | (go_simp;go_at_call 76;have hj:=zol (a:=s.sets.length) (b:=s5.sets.length) (c:=s8'.sets.length) (C:=w.heap.size) H8.o.lay H8.o.str S8.o T8.o (yfa HBW.o H8.o.kept.size) H8.o.kept.size HF2.o.inv HN2.o HF2.o.nice (yez _) H1000.o;(refine hj.mono ?_);rintro e w9 ⟨z1,z2,Q9,rfl,l9,s9,k9,q9⟩;clear hj;obtain⟨A7,m7,c7,rfl⟩:=s9.first.form3;obtain⟨A8,m8,c8,rfl⟩:=s9.last.form3;have J9:=zh2 H8.o l9 s9 k9 q9 H8.o.box H8.o.n5 H8.o.h5 H8.o.ne;have hl9:=J9.1.res.lt;obtain⟨yy0,yy1,yy2⟩:=(J9.1.res.alloc (.cells #[.slice A7 m7 c7,.slice A8 m8 c8,.bool (zb8 y1 y2).empty] 132)).cell;obtain⟨xx0,xx1,xx2⟩:=(J9.1.res.alloc (.cells #[.slice A7 m7 c7,.slice A8 m8 c8,.bool (zb8 y1 y2).empty] 132)).frozen;obtain⟨nn0,nn1,nn2⟩:=(BoxS.new w9 (.slice A7 m7 c7) (.slice A8 m8 c8) (zb8 y1 y2).empty).cell;obtain⟨oo0,oo1,oo2⟩:=(BoxS.new w9 (.slice A7 m7 c7) (.slice A8 m8 c8) (zb8 y1 y2).empty).frozen;have R9:=Zh J9.1.res;have JJ:=Zh J9.1;clear J9 l9 s9 k9 q9)
    | (go_simp;go_at_call 76;have hj:=zol (a:=s.sets.length) (b:=s5.sets.length) (c:=s8'.sets.length) (C:=w.heap.size) (H8.o.alloc (.cells #[.slice none 0 0,.slice none 0 0,.bool false] 132)).lay (H8.o.alloc (.cells #[.slice none 0 0,.slice none 0 0,.bool false] 132)).str (S8.o.alloc (.cells #[.slice none 0 0,.slice none 0 0,.bool false] 132)) T8.o (yfa HBW.o (H8.o.alloc (.cells #[.slice none 0 0,.slice none 0 0,.bool false] 132)).kept.size) (H8.o.alloc (.cells #[.slice none 0 0,.slice none 0 0,.bool false] 132)).kept.size HF2.o.inv HN2.o HF2.o.nice (yez _) H1000.o;(refine hj.mono ?_);rintro e w9 ⟨z1,z2,Q9,rfl,l9,s9,k9,q9⟩;clear hj;obtain⟨A7,m7,c7,rfl⟩:=s9.first.form3;obtain⟨A8,m8,c8,rfl⟩:=s9.last.form3;have J9:=zh2 (H8.o.alloc (.cells #[.slice none 0 0,.slice none 0 0,.bool false] 132)) l9 s9 k9 q9 (BoxS.new w8 (.slice none 0 0) (.slice none 0 0) false) (fun e=>by have:=(H8.o.lay.ge _ e).2;omega) H8.o.kept.size (by have:=H8.o.res.lt;omega);obtain⟨yy0,yy1,yy2⟩:=J9.1.res.cell;obtain⟨xx0,xx1,xx2⟩:=J9.1.res.frozen;obtain⟨nn0,nn1,nn2⟩:=J9.2.cell;obtain⟨oo0,oo1,oo2⟩:=J9.2.frozen;have hne9:=J9.1.ne;have BX9:=Zh J9.2;have R9:=Zh J9.1.res;have JJ:=Zh J9.1;clear J9 l9 s9 k9 q9)
    | fail)
   all_goals
    go_wp2;go_meet
    first
     | exact⟨_,Q9,_,_,_,_,_,_,rfl,BoxS.new w9 _ _ _,JJ.o.fresh _ _ _⟩
     | exact⟨_,Q9,_,_,_,_,_,_,rfl,BX9.o.put _ _ _,JJ.o.put BX9.o _ _ _⟩
  case rest =>
   obtain⟨k,Q9,A7,m7,c7,A8,m8,c8,rfl,bk,jj⟩:=hcut;obtain⟨d0,d1,d2⟩:=bk.cell;obtain⟨e0,e1,e2⟩:=bk.frozen;obtain⟨r0,r1,r2⟩:=jj.res.cell;obtain⟨q0,q1,q2⟩:=jj.res.frozen;have hne:=jj.ne;have BK:=Zh bk;have JJ:=Zh jj;clear bk jj;go_wp2;refine zc5 (x:=6) rfl rfl rfl ((JJ.o.res.far hne _).put _ _ _) ?_;exact JJ.o.told ((((((Kept.refl (fun b=>b=w.heap.size∨b=k) wc).setCell (a:=⟨k,2,none⟩) (.inl (.inr rfl)) _).setCell (a:=⟨w.heap.size,0,none⟩) (.inl (.inl rfl)) _).setCell (a:=⟨w.heap.size,1,none⟩) (.inl (.inl rfl)) _).setCell (a:=⟨w.heap.size,2,none⟩) (.inl (.inl rfl)) _)) rfl rfl
end
section
attribute [local go_sem ↓] Go.wp_at_zero Go.wp_at_succ
theorem yen {u:T} (hu:zxu u) (hwf:WF u) {w:World} {B gl:Nat} {s:Lay} {Q:Nat->Prop} {g o M H:Nat} (hMH:M<=H) (hH:H<=32) (hlay:LayAt w B gl s Q) (hnode:NodeIn w g o (.mk 4 za9 (M:Int) (H:Int) [u]) Q) (hB:B<=w.heap.size)
 (hl:LInv s) (h1000:s.sets.length+H*plR u<=1000):
 Calls Tryd.prog 63 #[.pointer (some ⟨gl,0,none⟩),.pointer (some ⟨g,o,none⟩)] w (zc0 w B gl w.heap.size (repX (layP u) M (H-M) s).1 (repX (layP u) M (H-M) s).2 Q Q):=by
 obtain⟨kv,hna,htr⟩:=hnode.node;obtain⟨A,n,c,rfl⟩:=htr.form;have hn:=htr.bound.1;have hn1:n=1:=(by rw[hn];rfl);subst hn1;obtain⟨gn,rfl,hkid⟩:=zgu htr 0 (by simp[T.kids]);have hkid':NodeIn w gn 0 u Q:=(by simpa [T.kids] using hkid);have hcells:∀ q v,(zdt (.mk 4 za9 (M:Int) (H:Int) [u]) (.slice (some ⟨gn,0,none⟩) 1 c))[q]?=some v->w.cell? ⟨g,o+q,none⟩=some v:=hna;have c5:=hcells 5 _ rfl;have c6:=hcells 6 _ rfl;have c7:=hcells 7 _ rfl;have b4:=BoxS.new w (.slice none 0 0) (.slice none 0 0) false;have hB1:Below w.heap.size w (w.alloc (.cells #[.slice none 0 0,.slice none 0 0,.bool false] 132)):=(yf6 _ _).alloc (yez _) _;have hgo:=hnode.out;have hmul:H*plR u=M*plR u+(H-M)*plR u:=(by rw[←Nat.add_mul];congr 1;omega);change w.cell? ⟨g,o+5,none⟩=some (.int .i64 (M:Int)) at c5;change w.cell? ⟨g,o+6,none⟩=some (.int .i64 (H:Int)) at c6;change w.cell? ⟨g,o+7,none⟩=some (.slice (some ⟨gn,0,none⟩) 1 c) at c7;obtain⟨D,hD⟩:∃ D,H-M=D:=⟨_,rfl⟩;rw[hD] at hmul ⊢;have HU:=Zh hu;have HWF:=Zh hwf;have HLAY:=Zh hlay;have HKID:=Zh hkid';have HC:Hid (w.cell? ⟨g,o+5,none⟩=some (.int .i64 (M:Int))∧w.cell? ⟨g,o+6,none⟩=some (.int .i64 (H:Int))∧w.cell? ⟨g,o+7,none⟩=some (.slice (some ⟨gn,0,none⟩) 1 c)):=⟨c5,c6,c7⟩;have HGO:=Zh hgo;have HL:=Zh hl;have HBW:=Zh hB;have HNUM:=Zh (And.intro hmul h1000);have hwr:IntKind.i64.wrap ((H:Int)-(M:Int))=(D:Int):=(by rw[IntWalk.i64_in _ yie];omega);have hM32:M<=32:=yie;have hD32:D<=32:=yie;clear hu hwf hlay hnode hl hB h1000 hmul hcells hna htr hkid hkid' hgo hn c5 c6 c7 hD;have d5:=za4 HC.o.1 hB1;go_enter Tryd.func63,Tryd.ntmps63;go_wp2_with (go_at_call 75;(with_reducible refine (zjb _).mono ?_);rintro e wa ⟨rfl,hb1⟩;have hs0:=Hold.start (x := .nothing) (gro1 (yf6 _ _) hb1) (b4.stays hb1) (yez _) HLAY.o (fun w C Q=>zg9 w C Q);have d5':=za4 (za4 HC.o.1 (gro1 (yf6 _ _) hb1)) ((yf6 wa.heap.size wa).alloc (yez _) (.cells #[.slice none 0 0,.slice none 0 0,.bool true] 132)));have hs0':Hold w (wa.alloc (.cells #[.slice none 0 0,.slice none 0 0,.bool true] 132)) B gl s .nothing Q Q w.heap.size wa.heap.size (.slice none 0 0) (.slice none 0 0):=hs0;have HS:=Zh hs0';clear hs0 hs0' b4 hB1 hb1 d5 d5';go_loopg [11] M (fun m i wr=>∃ k:Nat,i = .int .i64 (k:Int)∧k<=M∧m=M-k∧∃ v1 v2 Qr,Hold w wr B gl (zaq (layP u) k s .nothing).1 (zaq (layP u) k s .nothing).2 Q Qr w.heap.size wa.heap.size v1 v2)
 case atStart=>exact⟨0,rfl,yf8 _,rfl,_,_,_,HS.o⟩
 case round =>
  obtain⟨k,rfl,hk,hmk,v1,v2,Qr,hh⟩:=hrel;have HMK:=Zh hmk;clear hmk;obtain⟨A1,m1,c1,rfl⟩:=hh.str.first.form3
  obtain⟨A2,m2,c2,rfl⟩:=hh.str.last.form3;have hf:=zox HWF.o k s HL.o;have hhs:=hh.kept.size;have hng:¬ Q g:=HGO.o;have e5:=hh.kept.cell HC.o.1 hng;have e6:=hh.kept.cell HC.o.2.1 hng;have e7:=hh.kept.cell HC.o.2.2 hng;have hkn:=HKID.o.kept hh.kept hh.new;obtain⟨c0,c1',c2'⟩:=hh.box.cell
  by_cases hkl:k<M
  .have hsn:=zk0 (layP u) k s .nothing;have hkM:(k+1)*plR u<=M*plR u:=yg4 _ hkl;rw[yha] at hkM;obtain⟨sk,hsk⟩:∃ sk,(zaq (layP u) k s .nothing).1=sk:=⟨_,rfl⟩;obtain⟨xk,hxk⟩:∃ xk,(zaq (layP u) k s .nothing).2=xk:=⟨_,rfl⟩;rw[hsk,hxk] at hh hf hsn;rw[hxk] at c2';have hls:=zd5 HWF.o sk;have h1k:=hf.size;have hBw:B<=w.heap.size:=HBW.o;have hnum:=HNUM.o;have hcall:=HU.o wr.drew B gl sk Qr gn 0 hh.lay.drew hkn.drew (show B<=wr.heap.size by omega) hf.inv yie;unfold zc0 at hcall;have HCL:=Zh hcall;have HH:=Zh hh.drew;have HF:=Zh hf;have HSN:=Zh hsn;have HLS:=Zh (show (layP u sk).1.sets.length<=1000 by omega);have k0:(0:Int)<=(k:Int):=yie;have k1:(k:Int)<(M:Int):=yie;clear hcall hh hf hsn hkn hls h1k hkM hsk hxk hnum e5 e6;go_upto_region 4 with fail
   go_region_law (first
    | (go_simp;go_at_call 45;(refine HCL.o.mono ?_);rintro e w5 ⟨u1,u2,Q5,rfl,l5,s5,k5,q5⟩;have h5:=HH.o.laid l5 k5 q5;obtain⟨d0,d1,d2⟩:=h5.box.cell;have H5:=Zh h5;have S5:=Zh s5;have T5:=Zh (HH.o.two s5);clear h5 s5 l5 k5 q5)
    | (go_simp;go_at_call 76;have hj:=zon (t:=u) (s0:=sk) (x:=xk) HWF.o HF.o.inv HF.o.nice H5.o S5.o T5.o HH.o.kept.size HBW.o HLS.o;(refine hj.mono ?_);rintro e w6 ⟨z1,z2,Q6,rfl,-,b6,r6,h6⟩;clear hj;obtain⟨Z1,zm1,zc1,rfl⟩:=h6.str.first.form3;obtain⟨Z2,zm2,zc2,rfl⟩:=h6.str.last.form3;have H6:=Zh h6;obtain⟨f0,f1,f2⟩:=b6.cell;obtain⟨y0,y1,y2⟩:=b6.frozen;clear h6 b6 r6)
    | fail)
   all_goals
    go_wp2;go_roundg (M-(k+1))
    case measure=>have:=HMK.o;omega
    case rel=>exact⟨k+1,by go_num,by omega,rfl,_,_,Q6,by rw[HSN.o];exact H6.o⟩
  .have hkM:k=M:=yie;subst hkM;obtain⟨sk,xk,hsk⟩:∃ a b,zaq (layP u) k s .nothing=(a,b):=⟨_,_,rfl⟩;rw[hsk] at hh hf c2';obtain⟨s8',y2,e2⟩:∃ a b,within (layP u) D sk=(a,b):=⟨_,_,rfl⟩;have hW:repX (layP u) k D s=(zcb s8' xk y2,zb8 xk y2):=by
    show (zcb (within (layP u) D (zaq (layP u) k s .nothing).1).1 (zaq (layP u) k s .nothing).2 (within (layP u) D (zaq (layP u) k s .nothing).1).2,zb8 (zaq (layP u) k s .nothing).2 (within (layP u) D (zaq (layP u) k s .nothing).1).2)=_
    rw[hsk];simp only[e2]
   simp only at hh hf c2';have hf2:=zi5 HWF.o D sk hf.inv;have hn2:=zje HWF.o D hf.inv hf.nice;rw[e2] at hf2 hn2;simp only at hf2 hn2;have h1k:sk.sets.length=s.sets.length+k*plR u:=hf.size;have h2k:s8'.sets.length=sk.sets.length+D*plR u:=hf2.size;have h3k:s8'.sets.length<=1000:=(by have h:=HNUM.o;rw[h.1] at h;omega);have hnum:=HNUM.o;have hBw:B<=w.heap.size:=HBW.o;have hcall:=zxx HU.o HWF.o D wr.drew B gl sk Qr gn 0 yie hh.lay.drew hkn.drew (show B<=wr.heap.size by omega) hf.inv yie;rw[e2] at hcall;unfold zc0 at hcall;have HCL:=Zh hcall;have HH:=Zh hh.drew;have HF2:=Zh hf2;have HN2:=Zh hn2;have HWW:=Zh hW;have H1000:=Zh h3k;clear hcall hh hf hf2 hn2 hkn h1k h2k h3k hnum hW hsk e2;go_upto_region 6 with fail
   go_region_law (first
    | (go_simp;go_at_call 77;(refine HCL.o.mono ?_);rintro e w8 ⟨p1,p2,Q8,rfl,l8,s8,k8,q8⟩;have h8:=HH.o.laid l8 k8 q8;obtain⟨A5,m5,c5,rfl⟩:=s8.first.form3;obtain⟨A6,m6,c6,rfl⟩:=s8.last.form3;obtain⟨j0,j1,j2⟩:=h8.box.cell;have ee5:=h8.kept.cell HC.o.1 HGO.o;have ee6:=h8.kept.cell HC.o.2.1 HGO.o;have ee7:=h8.kept.cell HC.o.2.2 HGO.o;have H8:=Zh h8;have S8:=Zh (s8.low (C':=w.heap.size) HH.o.kept.size);have T8:=Zh (HH.o.two s8);clear h8 s8 l8 k8 q8)
    | (go_simp;go_at_call 76;have hj:=zol (a:=s.sets.length) (b:=sk.sets.length) (c:=s8'.sets.length) (C:=w.heap.size) H8.o.lay H8.o.str S8.o T8.o (yfa HBW.o H8.o.kept.size) H8.o.kept.size HF2.o.inv HN2.o HF2.o.nice (yez _) H1000.o;(refine hj.mono ?_);rintro e w9 ⟨z1,z2,Q9,rfl,l9,s9,k9,q9⟩;clear hj;obtain⟨A7,m7,c7,rfl⟩:=s9.first.form3;obtain⟨A8,m8,c8,rfl⟩:=s9.last.form3;have J9:=zh2 H8.o l9 s9 k9 q9 H8.o.box H8.o.n5 H8.o.h5 H8.o.ne;obtain⟨yy0,yy1,yy2⟩:=J9.1.res.cell;obtain⟨xx0,xx1,xx2⟩:=J9.1.res.frozen;have JJ:=Zh J9.1;clear J9 l9 s9 k9 q9)
    | fail)
   all_goals
    go_wp2;refine zc5 (x:=4) rfl rfl rfl (JJ.o.res.put _ _ _) ?_;rw[HWW.o];exact JJ.o.told ((((Kept.refl (fun b=>b=w.heap.size∨b=wa.heap.size) w9).setCell (a:=⟨w.heap.size,0,none⟩) (.inl (.inl rfl)) _).setCell (a:=⟨w.heap.size,1,none⟩) (.inl (.inl rfl)) _).setCell (a:=⟨w.heap.size,2,none⟩) (.inl (.inl rfl)) _) rfl rfl
end
section
attribute [local go_sem ↓] Go.wp_at_zero Go.wp_at_succ
def zey (w:World) (t:T) (e:Ending) (w':World):Prop:=e = .returned (.int .i64 (plR t:Nat))∧Below w.heap.size w w'
def NoQ:Nat->Prop:=fun _=>False
theorem NodeIn.stays {w w':World} {Q:Nat->Prop} {g o:Nat} {t:T} (h:NodeIn w g o t Q) (hb:Below w.heap.size w w'):NodeIn w' g o t Q:=h.kept (Kept.of_below Q hb) fun b h => .inl h
theorem ycn:∀ (N:Nat) (t:T) (w:World) (g o:Nat),SizeOf.sizeOf t<=N->WF t->NodeIn w g o t NoQ->plR t<=256->Calls Tryd.prog 44 #[.pointer (some ⟨g,o,none⟩)] w (zey w t):=by
 intro N;induction N with
 | zero=>intro t w g o h;obtain⟨op,p,lo,hi,l⟩:=t;simp at h
 | succ N ih =>
 intro t w g o hN hwf hnode h256;obtain⟨kv,hna,htr⟩:=hnode.node;obtain⟨A,n,c,rfl⟩:=htr.form;have hnb:=htr.bound.1;have hcell:∀ q v,(zdt t (.slice A n c))[q]?=some v->w.cell? ⟨g,o+q,none⟩=some v:=hna;have hcell0:=hcell 0 _ rfl;rw[yh1] at hcell0;have hglt:=hnode.lt;have HCELL:=Zh hcell;have HTR:=Zh htr;have many:∀ (op:Int) (l:List T),t = .mk op za9 0 0 l->(op=2∨op=3)->2<=l.length->l.length<=202->(∀ x∈l,WF x)->plR t=plRL l->Calls Tryd.prog 44 #[.pointer (some ⟨g,o,none⟩)] w (zey w t):=by
  intro op l ht hop h2 h202 hall hpl;have hkids:t.kids=l:=(by rw[ht];rfl);have hto:t.op=op:=(by rw[ht];rfl);rw[hkids] at hnb;rw[hto] at hcell0;have c7:=HCELL.o 7 _ rfl;have hk:∀ u∈l,SizeOf.sizeOf u<=N∧WF u:=fun u hu=>by
   have:=yhi hu;rw[ht] at hN;simp at hN;exact⟨by omega,hall u hu⟩
  have hm1:(op==(1:Int))=false:=yil;have hm4:(op==(4:Int))=false:=yil;unfold zey;rw[hpl] at h256 ⊢;have HK:=Zh hk;have HKIDS:=Zh hkids;have H256:=Zh h256;have HNB:=Zh hnb;have HIH:=Zh ih;clear hk hkids h256 hnb ih hna htr hnode hcell hN hwf hall hpl hop;go_enter Tryd.func44,Tryd.ntmps44;go_wp2;go_loopg [3,30] n (fun m s i wr=>∃ k:Nat,i = .int .i64 (k:Int)∧k<=n∧m=n-k∧s = .int .i64 (plRL (l.take k):Nat)∧Below w.heap.size w wr)
  case atStart=>exact⟨0,rfl,yf8 _,rfl,by simp[plRL],yf6 _ _⟩
  case round =>
   obtain⟨k,rfl,hk,hmk,rfl,hW⟩:=hrel;have HMK:=Zh hmk;clear hmk
   by_cases hkl:k<n
   .have hkl':k<l.length:=(by rw[←HNB.o];exact hkl);have hkt:k<t.kids.length:=(by rw[HKIDS.o];exact hkl');have htk:=zj7 l k hkl';have hle:=zmc l (k+1);have hle0:=zmc l k;have h256:=H256.o;obtain⟨gn,rfl,hkid⟩:=zgu (Q:=NoQ) HTR.o k hkt;have hu:t.kids[k]'hkt=l[k]'hkl':=by
     have:∀ (l':List T) (h:k<l'.length),l'=l->l'[k]'h=l[k]'hkl':=fun l' h e=>by subst e;rfl
     exact this _ hkt HKIDS.o
    rw[hu] at hkid;have hku:=HK.o _ (yfq hkl');generalize l[k]'hkl'=u at *;have hcall:=HIH.o u wr gn (k*8) hku.1 hku.2 (hkid.stays hW) yie;unfold zey at hcall;have HC:=Zh hcall;have e7:=(hW.cell (p:=⟨g,o+7,none⟩) hglt).trans c7;obtain⟨a,ha⟩:∃ a,plRL (l.take k)=a:=⟨_,rfl⟩;obtain⟨b,hb⟩:∃ b,plR u=b:=⟨_,rfl⟩;rw[ha,hb] at htk;rw[hb] at HC;rw[ha] at hle0 ⊢;have HTK:=Zh htk;have hab:a+b<=256:=yie;have hn202:n<=202:=(by have:=HNB.o;omega);have hna:¬ ((256:Int)<(a:Int)):=yie;have k0:(0:Int)<=(k:Int):=yie;have k1:(k:Int)<(n:Int):=yie;clear hcall hkid hu hku htk hle hkt hkl' ha hb;go_wp2_with (go_at_call 44;(refine HC.o.mono ?_);rintro e w5 ⟨rfl,hb5⟩);go_roundg (n-(k+1))
    case measure=>have:=HMK.o;omega
    case rel=>exact⟨k+1,by go_num,by omega,rfl,by rw[HTK.o];go_num,gro hW hb5⟩
   .have hkn:k=l.length:=(by rw[←HNB.o];omega);have htl:plRL (l.take k)=plRL l:=(by rw[hkn,yfy]);rw[htl];go_wp2;go_ret;exact⟨rfl,hW⟩
 cases hwf with
 | one p =>
  simp only[T.op] at hcell0;go_enter Tryd.func44,Tryd.ntmps44;go_wp2;go_ret;exact⟨by simp[plR],yf6 _ _⟩
 | cat l h2 hNl h=>exact many 2 l rfl (.inl rfl) h2 hNl h (by simp[plR])
 | alt l h2 hNl h=>exact many 3 l rfl (.inr rfl) h2 hNl h (by simp[plR])
 | rep m h u h0 h1 h2 h3 hu =>
  obtain⟨H,rfl⟩:∃ H:Nat,h=H:=⟨h.toNat,by omega⟩;have hNu:SizeOf.sizeOf u<=N:=(by simp at hN;omega);have hpl:plR (.mk 4 za9 m (H:Int) [u])=H*plR u:=(by simp[plR,plRL]);rw[hpl] at h256;have hH1:1<=H:=yie;have hub:plR u<=H*plR u:=yht _ hH1;obtain⟨gn,rfl,hkid⟩:=zgu (Q:=NoQ) htr 0 (by simp[T.kids]);have hkid':NodeIn w gn 0 u NoQ:=(by simpa [T.kids] using hkid);have hcall:=fun W (hb:Below w.heap.size w W)=>ih u W gn 0 hNu hu (hkid'.stays hb) yie
  have c6:w.cell? ⟨g,o+6,none⟩=some (.int .i64 (H:Int)):=hcell 6 _ rfl;have c7:=hcell 7 _ rfl;simp only[T.op] at hcell0;have hn1:n=1:=(by rw[hnb];rfl);subst hn1;unfold zey at hcall ⊢;rw[hpl];obtain⟨x,hx⟩:∃ x,plR u=x:=⟨_,rfl⟩;rw[hx] at h256 hcall ⊢;have hmul:IntKind.i64.wrap ((H:Int)*(x:Int))=((H*x:Nat):Int):=(by rw[IntWalk.i64_in _ (by rw[←yib];omega),yib]);have hmin:min ((H*x:Nat):Int) 257=((H*x:Nat):Int):=yie;have HC:=Zh hcall;clear hcall hkid hkid' many ih hna htr hnode hcell hub hpl hnb;have d0:w.drew.cell? ⟨g,o,none⟩=some (.int .i64 4):=hcell0;go_enter Tryd.func44,Tryd.ntmps44;go_upto_region 5 with fail
  go_region_law (first
   | (go_simp;go_at_call 44;(refine (HC.o _ ((yf6 _ _).drew)).mono ?_);rintro e w5 ⟨rfl,hb5⟩;have f6:=(hb5.cell (p:=⟨g,o+6,none⟩) hglt).trans c6;have HB5:=Zh hb5;clear hb5)
   | fail)
  all_goals
   go_wp2;go_ret;exact⟨rfl,zez HB5.o⟩
theorem ycm {t:T} {w:World} {g o:Nat} (hwf:WF t) (hnode:NodeIn w g o t NoQ) (h256:plR t<=256):Calls Tryd.prog 44 #[.pointer (some ⟨g,o,none⟩)] w (zey w t):=
 ycn _ t w g o (yez _) hwf hnode h256
end
end Go.Proofs.YtipfgpfplakhiaaDoor
