import Derived.Test.YtipfgpfplakhiaaDoorTw16
set_option linter.unusedVariables false
set_option linter.unusedSimpArgs false
set_option maxRecDepth 20000
set_option maxHeartbeats 4000000
namespace Go.Proofs.YtipfgpfplakhiaaDoor
open Go Go.RowKit
section
attribute [local go_sem ↓] Go.wp_at_zero Go.wp_at_succ
theorem zjb (w:World):Calls Tryd.prog 75 #[] w fun e w'=>e = .returned (.agg #[.slice none 0 0,.slice none 0 0,.bool true])∧Below w.heap.size w w':=by
 go_enter Tryd.func75,Tryd.ntmps75;go_wp2;refine zc5 (x:=0) rfl rfl rfl (BoxS.new w _ _ _) ?_;exact⟨rfl,(yf6 _ _).alloc (yez _) _⟩
theorem zg9 (w:World) (C:Nat) (Q:Nat->Prop):StrAt w C (.slice none 0 0) (.slice none 0 0) .nothing Q:=
 ⟨Ints.nil _ _,Ints.nil _ _,fun b e=>yj0,fun b e=>yj0,fun b e=>yj0⟩
theorem zy6 (w:World) (C:Nat) (Q:Nat->Prop):StrAt w C (.slice none 0 0) (.slice none 0 0) .void Q:=
 ⟨Ints.nil _ _,Ints.nil _ _,fun b e=>yj0,fun b e=>yj0,fun b e=>yj0⟩
theorem zj9 {w w3 W19 w19 W25 w25:World} {B gl n:Nat} {s:Lay} {Q:Nat->Prop} {p:Nat->Bool} {vs vf v19 v25:Value} {fs:List Value} (hl:LInv s) (hn:s.sets.length=n) (hB0:Below w.heap.size w w3)
 (hge:∀ b,Q b->B<=b∧b<w.heap.size) (hglQ:Q gl) (hgl:HasO w3 gl (.cells #[vs,vf] 130 (0,0))) (hrows:RowsAt w3 B vs vf s Q) (hfs:FolAt w3 B fs s.follow Q) (hB:B<=w.heap.size)
 (vsl:∀ b,vs.ownBlock=some b->b<w.heap.size∧b≠gl) (vfl:∀ b,vf.ownBlock=some b->b<w.heap.size∧b≠gl) (vsf:∀ b,vs.ownBlock=some b->vf.ownBlock≠some b)
 (Ka:Kept NoB w3 W19) (own19:w19.ownsRow B 53 4 v19 (n+1) (zcj s.sets++[.int .u64 (word p 0),.int .u64 (word p 1),.int .u64 (word p 2),.int .u64 (word p 3)])) (g19:W19.grownBy w19 vs.ownBlock) (o19:v19.ownBlock=vs.ownBlock∨v19.ownBlock=some W19.heap.size)
 (Kb:Kept NoB w19 W25) (own25:w25.ownsRow B 68 1 v25 (n+1) (fs++[.slice none 0 0])) (g25:W25.grownBy w25 vf.ownBlock) (o25:v25.ownBlock=vf.ownBlock∨v25.ownBlock=some W25.heap.size):
 ∃ Q',LayAt ((w25.setCell ⟨gl,0,none⟩ v19).setCell ⟨gl,1,none⟩ v25) B gl (oneL s p) Q'∧(∀ b,Q' b->Q b∨w3.heap.size<=b)∧Kept Q w3 ((w25.setCell ⟨gl,0,none⟩ v19).setCell ⟨gl,1,none⟩ v25):=by
 have hsz:=hB0.size;have h1:=Ka.size;have h2:=g19.size;have h3:=Kb.size;have h4:=g25.size;have hgl3:=(hge gl hglQ).2;have K19:Kept (fun b=>vs.ownBlock=some b∨vf.ownBlock=some b∨b=gl) w3 w19:=(Ka.mono fun b h=>h.elim).grown g19 fun b e => .inl (.inl e)
 have K25:Kept (fun b=>vs.ownBlock=some b∨vf.ownBlock=some b∨b=gl) w3 w25:=(K19.trans Kb fun b h=>h.elim).grown g25 fun b e => .inl (.inr (.inl e))
 have K3:Kept (fun b=>vs.ownBlock=some b∨vf.ownBlock=some b∨b=gl) w3 ((w25.setCell ⟨gl,0,none⟩ v19).setCell ⟨gl,1,none⟩ v25):=(K25.setCell (.inl (.inr (.inr rfl))) _).setCell (.inl (.inr (.inr rfl))) _;have Kx:Kept Q w3 ((w25.setCell ⟨gl,0,none⟩ v19).setCell ⟨gl,1,none⟩ v25):=K3.mono fun b h=>by
  rcases h with h|h|h
  .exact .inl (hrows.setsQ b h)
  .exact .inl (hrows.folsQ b h)
  .exact .inl (h▸hglQ)
 have Kf:Kept (fun b=>vf.ownBlock=some b) w19 w25:=(Kb.mono fun b h=>h.elim).grown g25 fun b e => .inl e
 have gl19:HasO w19 gl (.cells #[vs,vf] 130 (0,0)):=zbp g19 (hgl.of_kept Ka fun h=>h) fun e=>(vsl gl e.symm).2 rfl
 have gl25:HasO w25 gl (.cells #[vs,vf] 130 (0,0)):=zbp g25 (gl19.of_kept Kb fun h=>h) fun e=>(vfl gl e.symm).2 rfl
 have hset:∀ b,b≠gl->((w25.setCell ⟨gl,0,none⟩ v19).setCell ⟨gl,1,none⟩ v25).heap[b]?=w25.heap[b]?:=fun b hb=>(yf9 _ _ _ _ hb).trans (yf9 _ _ _ _ hb)
 have hsx:((w25.setCell ⟨gl,0,none⟩ v19).setCell ⟨gl,1,none⟩ v25).heap.size=w25.heap.size:=(by simp[World.setCell]);have n19:∀ b,v19.ownBlock=some b->b≠gl∧vf.ownBlock≠some b:=fun b e=>by
  obtain⟨cur,hc⟩:=za7 own19 e;refine⟨za1 hc gl19 yij,fun e2=>?_⟩;rcases o19 with o|o
  .exact vsf b (o.symm.trans e) e2
  .rw[e] at o;injection o with o
   have:=(vfl b e2).1;omega
 have n25:∀ b,v25.ownBlock=some b->b≠gl:=fun b e=>by
  obtain⟨cur,hc⟩:=za7 own25 e;exact za1 hc gl25 yij
 have hlen:(oneL s p).sets.length=n+1:=(by simp[oneL,hn]);have hlen2:(oneL s p).follow.length=n+1:=(by simp[oneL,hl.len,hn]);have hsf:zcj (oneL s p).sets=zcj s.sets++[.int .u64 (word p 0),.int .u64 (word p 1),.int .u64 (word p 2),.int .u64 (word p 3)]:=(zsz _ _).symm;have q25:∀ b,(Q b∨v19.ownBlock=some b∨v25.ownBlock=some b)->Q b∨w3.heap.size<=b:=by
  rintro b (e|e|e)
  .exact .inl e
  .rcases o19 with o|o
   .exact .inl (hrows.setsQ b (o.symm.trans e))
   .rw[e] at o;injection o with o
    exact .inr yie
  .rcases o25 with o|o
   .exact .inl (hrows.folsQ b (o.symm.trans e))
   .rw[e] at o;injection o with o
    exact .inr yie
 refine⟨fun b=>Q b∨v19.ownBlock=some b∨v25.ownBlock=some b,⟨?_,.inl hglQ,v19,v25,?_,⟨?_,fun b e => .inr (.inl e),⟨fs++[.slice none 0 0],?_,?_⟩,fun b e => .inr (.inr e)⟩⟩,q25,Kx⟩
 .rintro b (e|e|e)
  .have:=hge b e;rw[hsx];exact⟨this.1,by omega⟩
  .have:=yf5 own19 b e;rw[hsx];exact⟨this.1,by omega⟩
  .have:=yf5 own25 b e;rw[hsx];exact this
 .have h0:=heap_setCell_same w25 gl 0 _ _ v19 gl25;rw[heap_setCell_same _ gl 1 _ _ v25 h0];rfl
 .rw[hlen,hsf];refine za8 own19 fun b e hb=>?_
  rw[hset b (n19 b e).1];exact Kf.block b hb (n19 b e).2
 .rw[hlen2];exact za8 own25 fun b e hb=>hset b (n25 b e)
 .have hp:=hfs.push;refine⟨hp.len,fun i v l h1 h2=>(hp.get i v l h1 h2).off K3 fun b e hq=>?_,fun i v b h1 h2 => .inl (hp.inQ i v b h1 h2),hp.apart⟩;obtain⟨cur,hc⟩:=(hp.get i v l h1 h2).kind e;rcases hq with hq|hq|hq
  .obtain⟨cur',hc'⟩:=za7 hrows.sets hq;exact za1 hc hc' yij rfl
  .obtain⟨fs',h3',_⟩:=hrows.fols;obtain⟨cur',hc'⟩:=za7 h3' hq;exact za1 hc hc' yij rfl
  .exact za1 hc hgl yij hq
structure znd (w w3:World) (gl:Nat) (p:Nat->Bool) (vs vf:Value):Prop where
 a:w3.cell? ⟨gl,0,none⟩=some vs
 b:w3.cell? ⟨gl,1,none⟩=some vf
 c:w3.cell? ⟨w.heap.size,0,none⟩=some (.int .u64 (word p 0))
 d:w3.cell? ⟨w.heap.size,1,none⟩=some (.int .u64 (word p 1))
 e:w3.cell? ⟨w.heap.size,2,none⟩=some (.int .u64 (word p 2))
 f:w3.cell? ⟨w.heap.size,3,none⟩=some (.int .u64 (word p 3))
 y:w3.frozen? ⟨gl,0,none⟩=false
 z:w3.frozen? ⟨gl,1,none⟩=false
 lg:gl<w3.heap.size
 l3:w.heap.size<w3.heap.size
 hb:w.heap.size+2<=w3.heap.size
theorem zeb {w w3 W w':World} {gl:Nat} {p:Nat->Bool} {vs vf:Value} {row:Option Nat} (h:znd w w3 gl p vs vf) (hk:Kept NoB w3 W) (g:W.grownBy w' row) (h1:∀ b,row=some b->b<w.heap.size∧b≠gl):znd w w' gl p vs vf:=by
 have K:Kept (fun b=>row=some b) w3 w':=(hk.mono fun b h=>h.elim).grown g fun b e => .inl e
 have hs:=K.size;have n1:¬ row=some gl:=fun e=>(h1 gl e).2 rfl
 have n2:¬ row=some w.heap.size:=fun e=>by have:=(h1 _ e).1;omega
 have hz:∀ j,w'.frozen? ⟨gl,j,none⟩=w3.frozen? ⟨gl,j,none⟩:=fun j=>World.frozen?_of_block (a:=⟨gl,j,none⟩) (K.block gl h.lg n1)
 exact⟨K.cell h.a n1,K.cell h.b n1,K.cell h.c n2,K.cell h.d n2,K.cell h.e n2,K.cell h.f n2,(hz 0).trans h.y,(hz 1).trans h.z,by have:=h.lg;omega,by have:=h.l3;omega,by have:=h.hb;omega⟩
end
section
attribute [local go_sem ↓] Go.wp_at_zero Go.wp_at_succ
attribute [local go_sem ↓] zgq
theorem ztb {w:World} {B gl:Nat} {s:Lay} {Q:Nat->Prop} (p:Nat->Bool) (hlay:LayAt w B gl s Q) (hB:B<=w.heap.size) (hl:LInv s) (h1000:s.sets.length<=1000):
 Calls Tryd.prog 60 #[.pointer (some ⟨gl,0,none⟩),.agg #[.int .u64 (word p 0),.int .u64 (word p 1),.int .u64 (word p 2),.int .u64 (word p 3)]] w
  (zc0 w B gl w.heap.size (oneL s p) (oneX s) Q Q):=by
 have b3:=(Box4.new w p).alloc (.cells #[.slice none 0 0,.slice none 0 0,.bool false] 132);have b4:=BoxS.new (w.alloc (.cells #[.int .u64 (word p 0),.int .u64 (word p 1),.int .u64 (word p 2),.int .u64 (word p 3)] 53)) (.slice none 0 0) (.slice none 0 0) false;have hB0:Below w.heap.size w ((w.alloc (.cells #[.int .u64 (word p 0),.int .u64 (word p 1),.int .u64 (word p 2),.int .u64 (word p 3)] 53)).alloc (.cells #[.slice none 0 0,.slice none 0 0,.bool false] 132)):=
  ((yf6 _ _).alloc (yez _) _).alloc yii _
 simp only[yfe] at b4;obtain⟨vs,vf,hgl,hrows⟩:=(hlay.stays hB0).box;obtain⟨fs,hfo,hfs⟩:=hrows.fols;obtain⟨As,cs,rfl⟩:=zaa hrows.sets;obtain⟨Af,cf,rfl⟩:=zaa hfo;rw[hl.len] at hfo hrows hgl;have hge:=hlay.ge;have hglQ:=hlay.glQ;generalize hw3:((w.alloc (.cells #[.int .u64 (word p 0),.int .u64 (word p 1),.int .u64 (word p 2),.int .u64 (word p 3)] 53)).alloc (.cells #[.slice none 0 0,.slice none 0 0,.bool false] 132))=w3 at b3 b4 hB0 hgl hrows hfo hfs;obtain⟨n,hn⟩:∃ n,s.sets.length=n:=⟨_,rfl⟩;rw[hn] at hfo hgl h1000;have hsets:=hrows.sets;rw[hn] at hsets;have g0:w3.cell? ⟨gl,0,none⟩=some (.slice As n cs):=cell_of_row w3 gl 0 _ _ (0,0) hgl;have g1:w3.cell? ⟨gl,1,none⟩=some (.slice Af n cf):=cell_of_row w3 gl 1 _ _ (0,0) hgl;have z0:w3.frozen? ⟨gl,0,none⟩=false:=(by simp[World.frozen?,hgl]);have z1:w3.frozen? ⟨gl,1,none⟩=false:=(by simp[World.frozen?,hgl]);obtain⟨s0,s1,s2,s3⟩:=b3.cell;obtain⟨r0,r1,r2⟩:=b4.cell;obtain⟨q0,q1,q2⟩:=b4.frozen;have hsz:=hB0.size;have hl3:=b4.lt;have hgl3:gl<w.heap.size:=(hge gl hglQ).2;obtain⟨i0,hi,hi0,hi1,hi2⟩:=info_parts Tryd.infoSetN;obtain⟨j0,hj,hj0,hj1,hj2⟩:=info_parts Tryd.infoList;have vsl:∀ b,(Value.slice As n cs).ownBlock=some b->b<w.heap.size∧b≠gl:=fun b e=>by
  obtain⟨cur,hc⟩:=za7 hsets e;exact⟨(hge b (by rw[←hn] at e;exact hrows.setsQ b e)).2,za1 hc hgl yij⟩
 have vfl:∀ b,(Value.slice Af n cf).ownBlock=some b->b<w.heap.size∧b≠gl:=fun b e=>by
  obtain⟨cur,hc⟩:=za7 hfo e;exact⟨(hge b (by rw[←hn] at e;exact hrows.folsQ b e)).2,za1 hc hgl yij⟩
 have vsf:∀ b,(Value.slice As n cs).ownBlock=some b->(Value.slice Af n cf).ownBlock≠some b:=fun b e e2=>by
  obtain⟨cur,hc⟩:=za7 hsets e;obtain⟨cur',hc'⟩:=za7 hfo e2;exact za1 hc hc' yij rfl
 have HSETS:=Zh hsets;have HFO:=Zh hfo;have HFS:=Zh hfs;have HB3:Hid (HasO w3 w.heap.size (.cells #[.int .u64 (word p 0),.int .u64 (word p 1),.int .u64 (word p 2),.int .u64 (word p 3)] 53 (0,0))):=b3;have HB4:Hid (HasO w3 (w.heap.size+1) (.cells #[.slice none 0 0,.slice none 0 0,.bool false] 132 (0,0))):=b4;have HGL:Hid (HasO w3 gl (.cells #[.slice As n cs,.slice Af n cf] 130 (0,0))):=hgl;have hrows':RowsAt w3 B (.slice As n cs) (.slice Af n cf) s Q:=(by rw[←hn];exact hrows);have HROWS:=Zh hrows';have HB0:=Zh hB0;have HGE:=Zh hge;have HGQ:=Zh hglQ;have VS:=Zh vsl;have VF:=Zh vfl;have VSF:=Zh vsf;have HLI:=Zh hl;have HN:=Zh hn;have HBW:=Zh hB;have hw3s:w.heap.size+1+1=w3.heap.size:=(by rw[←hw3];simp);clear hsets hfo hfs b3 b4 hgl hrows hrows' hB0 hge hglQ vsl vfl vsf hl hn hlay;go_enter Tryd.func60,Tryd.ntmps60;go_upto_region 2 with fail
 have HFACTS:Hid (znd w w3 gl p (.slice As n cs) (.slice Af n cf)):=⟨g0,g1,s0,s1,s2,s3,z0,z1,by omega,by omega,by omega⟩;have hgl4:gl<w3.heap.size:=yie;have hl4:w.heap.size<w3.heap.size:=yie;have q191:∃ A c u,App 67 67 ((w3.alloc (.cells #[.int .u64 (word p 0),.int .u64 (word p 1),.int .u64 (word p 2),.int .u64 (word p 3)] 53)).drew) (.slice As n cs) (.slice (some ⟨w3.heap.size,0,none⟩) 1 1)∧appV 67 67 ((w3.alloc (.cells #[.int .u64 (word p 0),.int .u64 (word p 1),.int .u64 (word p 2),.int .u64 (word p 3)] 53)).drew) (.slice As n cs) (.slice (some ⟨w3.heap.size,0,none⟩) 1 1) = .slice A (n+1) c∧appW 67 67 ((w3.alloc (.cells #[.int .u64 (word p 0),.int .u64 (word p 1),.int .u64 (word p 2),.int .u64 (word p 3)] 53)).drew) (.slice As n cs) (.slice (some ⟨w3.heap.size,0,none⟩) 1 1)=u∧
  Hid (u.ownsRow B 53 4 (.slice A (n+1) c) (n+1) (zcj s.sets++(#[.int .u64 (word p 0),.int .u64 (word p 1),.int .u64 (word p 2),.int .u64 (word p 3)]:Array Value).toList)∧((w3.alloc (.cells #[.int .u64 (word p 0),.int .u64 (word p 1),.int .u64 (word p 2),.int .u64 (word p 3)] 53)).drew).grownBy u (Value.slice As n cs).ownBlock∧((Value.slice A (n+1) c).ownBlock=(Value.slice As n cs).ownBlock∨(Value.slice A (n+1) c).ownBlock=some ((w3.alloc (.cells #[.int .u64 (word p 0),.int .u64 (word p 1),.int .u64 (word p 2),.int .u64 (word p 3)] 53)).drew).heap.size)):=by
  obtain⟨v',u,hr,h2,h3,_,h5⟩:=run_append_own_at (P:=Tryd.prog) ((w3.alloc (.cells #[.int .u64 (word p 0),.int .u64 (word p 1),.int .u64 (word p 2),.int .u64 (word p 3)] 53)).drew) B 67 67 53 i0 _ 4 32 Tryd.underlying67 hi hi0 hi1 hi2 rfl yij (.slice As n cs) n (zcj s.sets) (zd3 HSETS.o (((Kept.refl NoB w3).alloc _).drew)) ⟨w3.heap.size,0,none⟩ 1 1 _ yik (zd4 (zcg (zav w3 _ _ _ rfl))) (ybh p) yin yie yil;obtain⟨A,c,rfl⟩:=zaa h2;obtain⟨a1,a2,a3⟩:=zic hr;exact⟨A,c,u,a1,a2,a3,h2,h3,h5⟩
 obtain⟨A191,c191,u1,ha1,hv1,hw1,hh1⟩:=q191;have F1:=zeb HFACTS.o (((Kept.refl NoB w3).alloc _).drew) hh1.out.2.1 VS.o;have O1:=zht hh1.out.2.1 (zd3 HFO.o (((Kept.refl NoB w3).alloc _).drew)) (fun b e e2=>absurd e (VSF.o b e2.symm));obtain⟨xa1,xb1,xc1,xd1,xe1,xf1,xy1,xz1,xl1,xm1,xn1⟩:=F1;have q192:∃ A c u,App 67 67 (((w3.alloc (.cells #[.int .u64 (word p 0),.int .u64 (word p 1),.int .u64 (word p 2),.int .u64 (word p 3)] 53)).alloc (.cells #[.slice none 0 0] 68)).drew) (.slice As n cs) (.slice (some ⟨w3.heap.size,0,none⟩) 1 1)∧appV 67 67 (((w3.alloc (.cells #[.int .u64 (word p 0),.int .u64 (word p 1),.int .u64 (word p 2),.int .u64 (word p 3)] 53)).alloc (.cells #[.slice none 0 0] 68)).drew) (.slice As n cs) (.slice (some ⟨w3.heap.size,0,none⟩) 1 1) = .slice A (n+1) c∧appW 67 67 (((w3.alloc (.cells #[.int .u64 (word p 0),.int .u64 (word p 1),.int .u64 (word p 2),.int .u64 (word p 3)] 53)).alloc (.cells #[.slice none 0 0] 68)).drew) (.slice As n cs) (.slice (some ⟨w3.heap.size,0,none⟩) 1 1)=u∧
  Hid (u.ownsRow B 53 4 (.slice A (n+1) c) (n+1) (zcj s.sets++(#[.int .u64 (word p 0),.int .u64 (word p 1),.int .u64 (word p 2),.int .u64 (word p 3)]:Array Value).toList)∧(((w3.alloc (.cells #[.int .u64 (word p 0),.int .u64 (word p 1),.int .u64 (word p 2),.int .u64 (word p 3)] 53)).alloc (.cells #[.slice none 0 0] 68)).drew).grownBy u (Value.slice As n cs).ownBlock∧((Value.slice A (n+1) c).ownBlock=(Value.slice As n cs).ownBlock∨(Value.slice A (n+1) c).ownBlock=some (((w3.alloc (.cells #[.int .u64 (word p 0),.int .u64 (word p 1),.int .u64 (word p 2),.int .u64 (word p 3)] 53)).alloc (.cells #[.slice none 0 0] 68)).drew).heap.size)):=by
  obtain⟨v',u,hr,h2,h3,_,h5⟩:=run_append_own_at (P:=Tryd.prog) (((w3.alloc (.cells #[.int .u64 (word p 0),.int .u64 (word p 1),.int .u64 (word p 2),.int .u64 (word p 3)] 53)).alloc (.cells #[.slice none 0 0] 68)).drew) B 67 67 53 i0 _ 4 32 Tryd.underlying67 hi hi0 hi1 hi2 rfl yij (.slice As n cs) n (zcj s.sets) (zd3 HSETS.o ((((Kept.refl NoB w3).alloc _).alloc _).drew)) ⟨w3.heap.size,0,none⟩ 1 1 _ yik (zd4 (zcg (zbq _ (zav w3 _ _ _ rfl)))) (ybh p) yin yie yil;obtain⟨A,c,rfl⟩:=zaa h2;obtain⟨a1,a2,a3⟩:=zic hr;exact⟨A,c,u,a1,a2,a3,h2,h3,h5⟩
 obtain⟨A192,c192,u2,ha2,hv2,hw2,hh2⟩:=q192;have F2:=zeb HFACTS.o ((((Kept.refl NoB w3).alloc _).alloc _).drew) hh2.out.2.1 VS.o;have O2:=zht hh2.out.2.1 (zd3 HFO.o ((((Kept.refl NoB w3).alloc _).alloc _).drew)) (fun b e e2=>absurd e (VSF.o b e2.symm));obtain⟨xa2,xb2,xc2,xd2,xe2,xf2,xy2,xz2,xl2,xm2,xn2⟩:=F2;have q193:∃ A c u,App 67 67 (((w3.alloc (.cells #[.slice none 0 0] 68)).alloc (.cells #[.int .u64 (word p 0),.int .u64 (word p 1),.int .u64 (word p 2),.int .u64 (word p 3)] 53)).drew) (.slice As n cs) (.slice (some ⟨w3.heap.size+1,0,none⟩) 1 1)∧appV 67 67 (((w3.alloc (.cells #[.slice none 0 0] 68)).alloc (.cells #[.int .u64 (word p 0),.int .u64 (word p 1),.int .u64 (word p 2),.int .u64 (word p 3)] 53)).drew) (.slice As n cs) (.slice (some ⟨w3.heap.size+1,0,none⟩) 1 1) = .slice A (n+1) c∧appW 67 67 (((w3.alloc (.cells #[.slice none 0 0] 68)).alloc (.cells #[.int .u64 (word p 0),.int .u64 (word p 1),.int .u64 (word p 2),.int .u64 (word p 3)] 53)).drew) (.slice As n cs) (.slice (some ⟨w3.heap.size+1,0,none⟩) 1 1)=u∧
  Hid (u.ownsRow B 53 4 (.slice A (n+1) c) (n+1) (zcj s.sets++(#[.int .u64 (word p 0),.int .u64 (word p 1),.int .u64 (word p 2),.int .u64 (word p 3)]:Array Value).toList)∧(((w3.alloc (.cells #[.slice none 0 0] 68)).alloc (.cells #[.int .u64 (word p 0),.int .u64 (word p 1),.int .u64 (word p 2),.int .u64 (word p 3)] 53)).drew).grownBy u (Value.slice As n cs).ownBlock∧((Value.slice A (n+1) c).ownBlock=(Value.slice As n cs).ownBlock∨(Value.slice A (n+1) c).ownBlock=some (((w3.alloc (.cells #[.slice none 0 0] 68)).alloc (.cells #[.int .u64 (word p 0),.int .u64 (word p 1),.int .u64 (word p 2),.int .u64 (word p 3)] 53)).drew).heap.size)):=by
  obtain⟨v',u,hr,h2,h3,_,h5⟩:=run_append_own_at (P:=Tryd.prog) (((w3.alloc (.cells #[.slice none 0 0] 68)).alloc (.cells #[.int .u64 (word p 0),.int .u64 (word p 1),.int .u64 (word p 2),.int .u64 (word p 3)] 53)).drew) B 67 67 53 i0 _ 4 32 Tryd.underlying67 hi hi0 hi1 hi2 rfl yij (.slice As n cs) n (zcj s.sets) (zd3 HSETS.o ((((Kept.refl NoB w3).alloc _).alloc _).drew)) ⟨w3.heap.size+1,0,none⟩ 1 1 _ yik (zd4 (zcg (zav _ _ _ _ yii))) (ybh p) yin yie yil;obtain⟨A,c,rfl⟩:=zaa h2;obtain⟨a1,a2,a3⟩:=zic hr;exact⟨A,c,u,a1,a2,a3,h2,h3,h5⟩
 obtain⟨A193,c193,u3,ha3,hv3,hw3,hh3⟩:=q193;have F3:=zeb HFACTS.o ((((Kept.refl NoB w3).alloc _).alloc _).drew) hh3.out.2.1 VS.o;have O3:=zht hh3.out.2.1 (zd3 HFO.o ((((Kept.refl NoB w3).alloc _).alloc _).drew)) (fun b e e2=>absurd e (VSF.o b e2.symm));obtain⟨xa3,xb3,xc3,xd3,xe3,xf3,xy3,xz3,xl3,xm3,xn3⟩:=F3;have q251:∃ A c u,App 35 35 (u1.alloc (.cells #[.slice none 0 0] 68)) (.slice Af n cf) (.slice (some ⟨u1.heap.size,0,none⟩) 1 1)∧appV 35 35 (u1.alloc (.cells #[.slice none 0 0] 68)) (.slice Af n cf) (.slice (some ⟨u1.heap.size,0,none⟩) 1 1) = .slice A (n+1) c∧appW 35 35 (u1.alloc (.cells #[.slice none 0 0] 68)) (.slice Af n cf) (.slice (some ⟨u1.heap.size,0,none⟩) 1 1)=u∧
  Hid (u.ownsRow B 68 1 (.slice A (n+1) c) (n+1) (fs++(#[.slice none 0 0]:Array Value).toList)∧((u1.alloc (.cells #[.slice none 0 0] 68))).grownBy u (Value.slice Af n cf).ownBlock∧((Value.slice A (n+1) c).ownBlock=(Value.slice Af n cf).ownBlock∨(Value.slice A (n+1) c).ownBlock=some ((u1.alloc (.cells #[.slice none 0 0] 68))).heap.size)):=by
  obtain⟨v',u,hr,h2,h3,_,h5⟩:=run_append_own_at (P:=Tryd.prog) (u1.alloc (.cells #[.slice none 0 0] 68)) B 35 35 68 j0 _ 1 24 Tryd.underlying35 hj hj0 hj1 hj2 rfl yij (.slice Af n cf) n fs (zd3 O1 ((Kept.refl NoB u1).alloc _)) ⟨u1.heap.size,0,none⟩ 1 1 _ yik (zd4 (zav u1 _ _ _ rfl)) ybi yin yie (by first | omega | (simp;omega));obtain⟨A,c,rfl⟩:=zaa h2;obtain⟨a1,a2,a3⟩:=zic hr;exact⟨A,c,u,a1,a2,a3,h2,h3,h5⟩
 obtain⟨A251,c251,x1,hA1,hV1,hX1,hH1⟩:=q251;have G1:=zeb ⟨xa1,xb1,xc1,xd1,xe1,xf1,xy1,xz1,xl1,xm1,xn1⟩ ((Kept.refl NoB u1).alloc _) hH1.out.2.1 VF.o;obtain⟨ya1,yb1,yc1,yd1,ye1,yf1,yy1,yz1,yl1,ym1,yn1⟩:=G1;have q252:∃ A c u,App 35 35 u2 (.slice Af n cf) (.slice (some ⟨w3.heap.size+1,0,none⟩) 1 1)∧appV 35 35 u2 (.slice Af n cf) (.slice (some ⟨w3.heap.size+1,0,none⟩) 1 1) = .slice A (n+1) c∧appW 35 35 u2 (.slice Af n cf) (.slice (some ⟨w3.heap.size+1,0,none⟩) 1 1)=u∧
  Hid (u.ownsRow B 68 1 (.slice A (n+1) c) (n+1) (fs++(#[.slice none 0 0]:Array Value).toList)∧(u2).grownBy u (Value.slice Af n cf).ownBlock∧((Value.slice A (n+1) c).ownBlock=(Value.slice Af n cf).ownBlock∨(Value.slice A (n+1) c).ownBlock=some (u2).heap.size)):=by
  obtain⟨v',u,hr,h2,h3,_,h5⟩:=run_append_own_at (P:=Tryd.prog) u2 B 35 35 68 j0 _ 1 24 Tryd.underlying35 hj hj0 hj1 hj2 rfl yij (.slice Af n cf) n fs (zd3 O2 (Kept.refl NoB u2)) ⟨w3.heap.size+1,0,none⟩ 1 1 _ yik (zd4 (zi1 hh2.out.2.1 (zcg (zav _ _ _ _ yii)) (by intro h;have h2:=(VS.o _ h.symm).1;omega))) ybi yin yie (by first | omega | (simp;omega));obtain⟨A,c,rfl⟩:=zaa h2;obtain⟨a1,a2,a3⟩:=zic hr;exact⟨A,c,u,a1,a2,a3,h2,h3,h5⟩
 obtain⟨A252,c252,x2,hA2,hV2,hX2,hH2⟩:=q252;have G2:=zeb ⟨xa2,xb2,xc2,xd2,xe2,xf2,xy2,xz2,xl2,xm2,xn2⟩ (Kept.refl NoB u2) hH2.out.2.1 VF.o;obtain⟨ya2,yb2,yc2,yd2,ye2,yf2,yy2,yz2,yl2,ym2,yn2⟩:=G2;have q253:∃ A c u,App 35 35 u3 (.slice Af n cf) (.slice (some ⟨w3.heap.size,0,none⟩) 1 1)∧appV 35 35 u3 (.slice Af n cf) (.slice (some ⟨w3.heap.size,0,none⟩) 1 1) = .slice A (n+1) c∧appW 35 35 u3 (.slice Af n cf) (.slice (some ⟨w3.heap.size,0,none⟩) 1 1)=u∧
  Hid (u.ownsRow B 68 1 (.slice A (n+1) c) (n+1) (fs++(#[.slice none 0 0]:Array Value).toList)∧(u3).grownBy u (Value.slice Af n cf).ownBlock∧((Value.slice A (n+1) c).ownBlock=(Value.slice Af n cf).ownBlock∨(Value.slice A (n+1) c).ownBlock=some (u3).heap.size)):=by
  obtain⟨v',u,hr,h2,h3,_,h5⟩:=run_append_own_at (P:=Tryd.prog) u3 B 35 35 68 j0 _ 1 24 Tryd.underlying35 hj hj0 hj1 hj2 rfl yij (.slice Af n cf) n fs (zd3 O3 (Kept.refl NoB u3)) ⟨w3.heap.size,0,none⟩ 1 1 _ yik (zd4 (zi1 hh3.out.2.1 (zcg (zbq _ (zav w3 _ _ _ rfl))) (by intro h;have h2:=(VS.o _ h.symm).1;omega))) ybi yin yie (by first | omega | (simp;omega));obtain⟨A,c,rfl⟩:=zaa h2;obtain⟨a1,a2,a3⟩:=zic hr;exact⟨A,c,u,a1,a2,a3,h2,h3,h5⟩
 obtain⟨A253,c253,x3,hA3,hV3,hX3,hH3⟩:=q253;have G3:=zeb ⟨xa3,xb3,xc3,xd3,xe3,xf3,xy3,xz3,xl3,xm3,xn3⟩ (Kept.refl NoB u3) hH3.out.2.1 VF.o;obtain⟨ya3,yb3,yc3,yd3,ye3,yf3,yy3,yz3,yl3,ym3,yn3⟩:=G3;have hz1:w3.heap.size<u2.heap.size:=(by have:=hh2.out.2.1.size;simp at this;omega);have hz2:w3.heap.size<u3.heap.size:=(by have:=hh3.out.2.1.size;simp at this;omega);go_cut [29] from 11 to 29 (fun s29 wx=>∃ Q',LayAt wx B gl (oneL s p) Q'∧(∀ b,Q' b->Q b∨w3.heap.size<=b)∧Kept Q w3 wx)
 case first =>
  go_region
  all_goals
   go_wp2;go_meet
   first
    | exact zj9 HLI.o HN.o HB0.o HGE.o HGQ.o HGL.o HROWS.o HFS.o hB VS.o VF.o VSF.o (((Kept.refl NoB w3).alloc _).drew) hh1.out.1 hh1.out.2.1 hh1.out.2.2 ((Kept.refl NoB u1).alloc _) hH1.out.1 hH1.out.2.1 hH1.out.2.2
    | exact zj9 HLI.o HN.o HB0.o HGE.o HGQ.o HGL.o HROWS.o HFS.o hB VS.o VF.o VSF.o ((((Kept.refl NoB w3).alloc _).alloc _).drew) hh2.out.1 hh2.out.2.1 hh2.out.2.2 (Kept.refl NoB u2) hH2.out.1 hH2.out.2.1 hH2.out.2.2
    | exact zj9 HLI.o HN.o HB0.o HGE.o HGQ.o HGL.o HROWS.o HFS.o hB VS.o VF.o VSF.o ((((Kept.refl NoB w3).alloc _).alloc _).drew) hh3.out.1 hh3.out.2.1 hh3.out.2.2 (Kept.refl NoB u3) hH3.out.1 hH3.out.2.1 hH3.out.2.2
 case rest =>
  obtain⟨Q',hlw,hqw,hkw⟩:=hcut;have n4:¬ Q (w.heap.size+1):=fun e=>by have:=(HGE.o _ e).2;omega
  have n4':¬ Q' (w.heap.size+1):=fun e=>(hqw _ e).elim n4 fun e'=>by omega
  have b4:BoxS wc (w.heap.size+1) (.slice none 0 0) (.slice none 0 0) false:=HB4.o.of_kept hkw n4;obtain⟨t0,t1,t2⟩:=((b4.alloc (.cells #[.int .i64 (n:Int)] 3)).alloc (.cells #[.int .i64 (n:Int)] 3)).cell;obtain⟨v0,v1,v2⟩:=((b4.alloc (.cells #[.int .i64 (n:Int)] 3)).alloc (.cells #[.int .i64 (n:Int)] 3)).frozen;have hlc:=b4.lt;have hzs:=hkw.size;have HLW:=Zh hlw;have HQW:=Zh hqw;have HKW:=Zh hkw;have HB:=Zh b4;have HHN:=Zh (And.intro n4 n4');clear hlw hqw hkw b4 n4 n4' HFACTS g0 g1 z0 z1 s0 s1 s2 s3 r0 r1 r2 q0 q1 q2 hi hi0 hi1 hi2 hj hj0 hj1 hj2;go_wp2;refine zc5 (x:=4) rfl rfl rfl (((HB.o.alloc _).alloc _).put _ _ _) ?_;have A1:HasO (((((wc.alloc (.cells #[.int .i64 (n:Int)] 3)).alloc (.cells #[.int .i64 (n:Int)] 3)).setCell ⟨w.heap.size+1,0,none⟩ (.slice (some ⟨wc.heap.size,0,none⟩) 1 1)).setCell ⟨w.heap.size+1,1,none⟩ (.slice (some ⟨wc.heap.size+1,0,none⟩) 1 1)).setCell ⟨w.heap.size+1,2,none⟩ (.bool false)) wc.heap.size (.cells #[.int .i64 (n:Int)] 3 (0,0)):=
   zbf _ (zbf _ (zbf _ (zbq _ (zav wc _ _ _ rfl)) yj9) yj9) yj9
  have A2:HasO (((((wc.alloc (.cells #[.int .i64 (n:Int)] 3)).alloc (.cells #[.int .i64 (n:Int)] 3)).setCell ⟨w.heap.size+1,0,none⟩ (.slice (some ⟨wc.heap.size,0,none⟩) 1 1)).setCell ⟨w.heap.size+1,1,none⟩ (.slice (some ⟨wc.heap.size+1,0,none⟩) 1 1)).setCell ⟨w.heap.size+1,2,none⟩ (.bool false)) (wc.heap.size+1) (.cells #[.int .i64 (n:Int)] 3 (0,0)):=
   zbf _ (zbf _ (zbf _ (zav _ _ _ _ yii) yj5) yj5) yj5
  have K:Kept (fun b=>b=w.heap.size+1) wc (((((wc.alloc (.cells #[.int .i64 (n:Int)] 3)).alloc (.cells #[.int .i64 (n:Int)] 3)).setCell ⟨w.heap.size+1,0,none⟩ (.slice (some ⟨wc.heap.size,0,none⟩) 1 1)).setCell ⟨w.heap.size+1,1,none⟩ (.slice (some ⟨wc.heap.size+1,0,none⟩) 1 1)).setCell ⟨w.heap.size+1,2,none⟩ (.bool false)):=
   ((((((Kept.refl (fun b=>b=w.heap.size+1) wc).alloc _).alloc _).setCell (a:=⟨w.heap.size+1,0,none⟩) (.inl rfl) _).setCell (a:=⟨w.heap.size+1,1,none⟩) (.inl rfl) _).setCell (a:=⟨w.heap.size+1,2,none⟩) (.inl rfl) _)
  have hf:(oneX s).first=[n]:=by rw[←HN.o];rfl
  have hla:(oneX s).last=[n]:=(by rw[←HN.o];rfl);have hQ:∀ b,wc.heap.size<=b->¬ Q' b:=fun b h e=>by have:=(HLW.o.ge b e).2;omega
  refine⟨_,_,Q',rfl,HLW.o.off K fun b e e2=>HHN.o.2 (e2▸e),⟨by rw[hf];exact zh5 A1 yie,by rw[hla];exact zh5 A2 yie,fun b e e2=>?_,fun b e=>?_,fun b e=>?_⟩,
   ((Kept.of_below Q HB0.o).trans HKW.o fun b h => .inl h).trans K fun b e => .inr yie,fun b e=>(HQW.o b e).imp id fun e=>by omega⟩
  .injection e with e
   injection e2 with e2
   have e':wc.heap.size=b:=e;have e2':wc.heap.size+1=b:=e2;omega
  .injection e with e
   have e':wc.heap.size=b:=e;exact hQ b yie
  .injection e with e
   have e':wc.heap.size+1=b:=e;exact hQ b yie
end
section
structure NodeIn (w:World) (g o:Nat) (t:T) (Q:Nat->Prop):Prop where
 node:∃ k,NodeAt w g o t k∧Tree w (fun b=>¬ Q b) t k
 out:¬ Q g
 lt:g<w.heap.size
def zxv (N:Nat):Prop:=∀ (t:T) (w:World) (B gl:Nat) (s:Lay) (Q:Nat->Prop) (g o:Nat),SizeOf.sizeOf t<=N->WF t->LayAt w B gl s Q->NodeIn w g o t Q->B<=w.heap.size->LInv s->
 s.sets.length+plR t<=1000->Calls Tryd.prog 45 #[.pointer (some ⟨gl,0,none⟩),.pointer (some ⟨g,o,none⟩)] w (zc0 w B gl w.heap.size (layP t s).1 (layP t s).2 Q Q)
theorem ziy {w w':World} {Q Qr:Nat->Prop} {t:T} {k:Value} (h:Tree w (fun b=>¬ Q b) t k) (hk:Kept Q w w') (hq:∀ b,Qr b->Q b∨w.heap.size<=b):Tree w' (fun b=>¬ Qr b) t k:=
 h.mono fun b hb hlt _=>⟨hk.block b hlt hb,fun e=>(hq b e).elim hb fun e'=>by omega⟩
theorem NodeIn.kept {w w':World} {Q Qr:Nat->Prop} {g o:Nat} {t:T} (h:NodeIn w g o t Q) (hk:Kept Q w w') (hq:∀ b,Qr b->Q b∨w.heap.size<=b):NodeIn w' g o t Qr:=by
 obtain⟨k,h1,h2⟩:=h.node;exact⟨⟨k,h1.block (hk.block g h.lt h.out),ziy h2 hk hq⟩,fun e=>(hq g e).elim h.out fun e'=>by have:=h.lt;omega,yff h.lt hk.size⟩
theorem zgu {w:World} {Q:Nat->Prop} {t:T} {A:Option Addr} {n c:Nat} (h:Tree w (fun b=>¬ Q b) t (.slice A n c)) (i:Nat) (hi:i<t.kids.length):
 ∃ g,A=some ⟨g,0,none⟩∧NodeIn w g (i*8) (t.kids[i]'hi) Q:=by
 obtain⟨g,B,m,d,rfl,h1,h2⟩:=NodeAt.kid h i hi;refine⟨g,rfl,⟨⟨_,h2,h1⟩,?_,h2.lt⟩⟩;cases h with
 | row _ g' cap cur ks hg hok=>exact hok
structure Hold (w wr:World) (B gl:Nat) (s:Lay) (x:Str) (Q Qr:Nat->Prop) (g4 g5:Nat) (v1 v2:Value):Prop where
 box:BoxS wr g5 v1 v2 x.empty
 res:BoxS wr g4 (.slice none 0 0) (.slice none 0 0) false
 lay:LayAt wr B gl s Qr
 str:StrAt wr w.heap.size v1 v2 x Qr
 kept:Kept Q w wr
 new:∀ b,Qr b->Q b∨w.heap.size<=b
 n4:¬ Qr g4
 n5:¬ Qr g5
 h4:w.heap.size<=g4
 h5:w.heap.size<=g5
 ne:g4≠g5
section
variable {w wr w5 w6:World} {B gl g4 g5:Nat} {s s5 s6:Lay} {x y z:Str} {Q Qr Q5 Q6:Nat->Prop} {v1 v2 u1 u2 z1 z2:Value}
theorem Hold.start {wa:World} (hb:Below w.heap.size w wa) (b4:BoxS wa g4 (.slice none 0 0) (.slice none 0 0) false) (h4:w.heap.size<=g4) (hlay:LayAt w B gl s Q) (hs:∀ w C Q,StrAt w C (.slice none 0 0) (.slice none 0 0) x Q):
 Hold w (wa.alloc (.cells #[.slice none 0 0,.slice none 0 0,.bool x.empty] 132)) B gl s x Q Q g4 wa.heap.size (.slice none 0 0) (.slice none 0 0):=by
 have b5:=BoxS.new wa (.slice none 0 0) (.slice none 0 0) x.empty;have hsz:=hb.size;exact⟨b5,b4.alloc _,(hlay.stays hb).alloc _,hs _ _ _,(Kept.of_below Q hb).alloc _,fun b h => .inl h,fun e=>by have:=(hlay.ge _ e).2;omega,fun e=>by have:=(hlay.ge _ e).2;omega,h4,by omega,by have:=b4.lt;omega⟩
theorem LayAt.drew (h:LayAt w B gl s Q):LayAt w.drew B gl s Q:=h.block (yez _) fun _ _=>rfl
theorem Hold.drew (h:Hold w wr B gl s x Q Qr g4 g5 v1 v2):Hold w wr.drew B gl s x Q Qr g4 g5 v1 v2:=
 ⟨h.box,h.res,h.lay.drew,⟨h.str.first,h.str.last,h.str.apart,h.str.out1,h.str.out2⟩,h.kept.drew,h.new,h.n4,h.n5,h.h4,h.h5,h.ne⟩
theorem NodeIn.drew {g o:Nat} {t:T} (h:NodeIn w g o t Q):NodeIn w.drew g o t Q:=h.kept ((Kept.refl Q w).drew) fun b h => .inl h
theorem Hold.laid (h:Hold w wr B gl s x Q Qr g4 g5 v1 v2) (hl:LayAt w5 B gl s5 Q5) (hk:Kept Qr wr w5) (hq:∀ b,Q5 b->Qr b∨wr.heap.size<=b):Hold w w5 B gl s5 x Q Q5 g4 g5 v1 v2:=by
 have hs:=h.kept.size;have l5:=h.box.lt;have l4:=h.res.lt;exact⟨h.box.off hk h.n5,h.res.off hk h.n4,hl,h.str.off hk hq,h.kept.trans hk h.new,fun b e=>(hq b e).elim (h.new b) fun e' => .inr yie,
  fun e=>(hq _ e).elim h.n4 fun e'=>by omega,fun e=>(hq _ e).elim h.n5 fun e'=>by omega,h.h4,h.h5,h.ne⟩
theorem Hold.two (h:Hold w wr B gl s x Q Qr g4 g5 v1 v2) (hy:StrAt w5 wr.heap.size u1 u2 y Q5):TwoS v1 v2 u1 u2:=
 ⟨fun b e e'=>by have:=(h.str.first.in e).2;have:=(hy.first.in e').1;omega,fun b e e'=>by have:=(h.str.first.in e).2;have:=(hy.last.in e').1;omega,
  fun b e e'=>by have:=(h.str.last.in e).2;have:=(hy.first.in e').1;omega,fun b e e'=>by have:=(h.str.last.in e).2;have:=(hy.last.in e').1;omega⟩
theorem Hold.joined (h:Hold w w5 B gl s x Q Q5 g4 g5 v1 v2) (hl:LayAt w6 B gl s6 Q6) (hz:StrAt w6 w.heap.size z1 z2 z Q6) (hk:Kept (fun b=>Q5 b∨v1.ownBlock=some b∨v2.ownBlock=some b) w5 w6) (hq:∀ b,Q6 b->Q5 b∨w5.heap.size<=b):
 Hold w (((w6.setCell ⟨g5,0,none⟩ z1).setCell ⟨g5,1,none⟩ z2).setCell ⟨g5,2,none⟩ (.bool z.empty)) B gl s6 z Q Q6 g4 g5 z1 z2:=by
 have hs:=h.kept.size;have l5:=h.box.lt;have l4:=h.res.lt;have m5:¬ (Q5 g5∨v1.ownBlock=some g5∨v2.ownBlock=some g5):=by
  rintro (e|e|e)
  .exact h.n5 e
  .obtain⟨cur,hc⟩:=h.str.first.kind e;exact za1 hc h.box yij rfl
  .obtain⟨cur,hc⟩:=h.str.last.kind e;exact za1 hc h.box yij rfl
 have m4:¬ (Q5 g4∨v1.ownBlock=some g4∨v2.ownBlock=some g4):=by
  rintro (e|e|e)
  .exact h.n4 e
  .obtain⟨cur,hc⟩:=h.str.first.kind e;exact za1 hc h.res yij rfl
  .obtain⟨cur,hc⟩:=h.str.last.kind e;exact za1 hc h.res yij rfl
 have n6:¬ Q6 g5:=fun e=>(hq _ e).elim h.n5 fun e'=>by omega
 have n64:¬ Q6 g4:=fun e=>(hq _ e).elim h.n4 fun e'=>by omega
 have b6:=h.box.off hk m5;have r6:=h.res.off hk m4;have K:Kept (fun b=>b=g5) w6 (((w6.setCell ⟨g5,0,none⟩ z1).setCell ⟨g5,1,none⟩ z2).setCell ⟨g5,2,none⟩ (.bool z.empty)):=(((Kept.refl (fun b=>b=g5) w6).setCell (a:=⟨g5,0,none⟩) (.inl rfl) _).setCell (a:=⟨g5,1,none⟩) (.inl rfl) _).setCell (a:=⟨g5,2,none⟩) (.inl rfl) _;have zk:∀ {v:Value} {l:List Int} {C:Nat},Ints w6 C v l->∀ b,v.ownBlock=some b->¬ b=g5:=fun hi b e=>by
  obtain⟨cur,hc⟩:=hi.kind e;exact za1 hc b6 yij
 refine⟨b6.put _ _ _,r6.off K h.ne,hl.off K fun b e e2=>n6 (e2 ▸ e),⟨hz.first.off K (zk hz.first),hz.last.off K (zk hz.last),hz.apart,hz.out1,hz.out2⟩,
  (h.kept.trans hk fun b e=>?_).trans K fun b e => .inr (by have:=h.h5;omega),fun b e=>(hq b e).elim (h.new b) fun e' => .inr yie,n64,n6,h.h4,h.h5,h.ne⟩
 rcases e with e|e|e
 .exact h.new b e
 .exact .inr (h.str.first.in e).1
 .exact .inr (h.str.last.in e).1
theorem Hold.told (h:Hold w wr B gl s x Q Qr g4 g5 v1 v2):zc0 w B gl w.heap.size s x Q Q (.returned (.agg #[v1,v2,.bool x.empty])) (((wr.setCell ⟨g4,0,none⟩ v1).setCell ⟨g4,1,none⟩ v2).setCell ⟨g4,2,none⟩ (.bool x.empty)):=by
 have K:Kept (fun b=>b=g4) wr (((wr.setCell ⟨g4,0,none⟩ v1).setCell ⟨g4,1,none⟩ v2).setCell ⟨g4,2,none⟩ (.bool x.empty)):=(((Kept.refl (fun b=>b=g4) wr).setCell (a:=⟨g4,0,none⟩) (.inl rfl) _).setCell (a:=⟨g4,1,none⟩) (.inl rfl) _).setCell (a:=⟨g4,2,none⟩) (.inl rfl) _;have zk:∀ {v:Value} {l:List Int} {C:Nat},Ints wr C v l->∀ b,v.ownBlock=some b->¬ b=g4:=fun hi b e=>by
  obtain⟨cur,hc⟩:=hi.kind e;exact za1 hc h.res yij
 exact⟨v1,v2,Qr,rfl,h.lay.off K fun b e e2=>h.n4 (e2 ▸ e),⟨h.str.first.off K (zk h.str.first),h.str.last.off K (zk h.str.last),h.str.apart,h.str.out1,h.str.out2⟩,h.kept.trans K fun b e => .inr (by have:=h.h4;omega),h.new⟩
end
end
end Go.Proofs.YtipfgpfplakhiaaDoor
