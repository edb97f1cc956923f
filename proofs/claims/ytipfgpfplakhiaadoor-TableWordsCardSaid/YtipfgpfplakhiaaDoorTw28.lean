import Derived.Test.YtipfgpfplakhiaaDoorTw25
set_option linter.unusedVariables false
set_option linter.unusedSimpArgs false
set_option maxRecDepth 20000
set_option maxHeartbeats 4000000
namespace Go.Proofs.YtipfgpfplakhiaaDoor
open Go Go.RowKit
section
attribute [local go_sem ↓] Go.wp_at_zero Go.wp_at_succ
theorem zmp {w w5:World} {B gl:Nat} {s':Lay} {x':Str} {Q:Nat->Prop} {e:Ending} (hge:∀ b,Q b->b<w.heap.size)
 (h:zc0 (w.alloc (.cells #[.slice none 0 0,.slice none 0 0,.bool false] 132)) B gl (w.alloc (.cells #[.slice none 0 0,.slice none 0 0,.bool false] 132)).heap.size s' x' Q Q e w5):
 ∃ A1 m1 c1 A2 m2 c2,e = .returned (.agg #[.slice A1 m1 c1,.slice A2 m2 c2,.bool x'.empty])∧BoxS w5 w.heap.size (.slice none 0 0) (.slice none 0 0) false∧
  zc0 w B gl w.heap.size s' x' Q Q e (((w5.setCell ⟨w.heap.size,0,none⟩ (.slice A1 m1 c1)).setCell ⟨w.heap.size,1,none⟩ (.slice A2 m2 c2)).setCell ⟨w.heap.size,2,none⟩ (.bool x'.empty)):=by
 obtain⟨v1,v2,Q',rfl,l5,s5,k5,q5⟩:=h;obtain⟨A1,m1,c1,rfl⟩:=s5.first.form3
 obtain⟨A2,m2,c2,rfl⟩:=s5.last.form3;have hn:¬ Q w.heap.size:=fun e=>by have:=hge _ e;omega
 have b5:=(BoxS.new w (.slice none 0 0) (.slice none 0 0) false).off k5 hn;have hn':¬ Q' w.heap.size:=fun e=>(q5 _ e).elim hn fun e'=>by simp at e';omega
 have K:Kept (fun b=>b=w.heap.size) w5 (((w5.setCell ⟨w.heap.size,0,none⟩ (.slice A1 m1 c1)).setCell ⟨w.heap.size,1,none⟩ (.slice A2 m2 c2)).setCell ⟨w.heap.size,2,none⟩ (.bool x'.empty)):=
  (((Kept.refl (fun b=>b=w.heap.size) w5).setCell (a:=⟨w.heap.size,0,none⟩) (.inl rfl) _).setCell (a:=⟨w.heap.size,1,none⟩) (.inl rfl) _).setCell (a:=⟨w.heap.size,2,none⟩) (.inl rfl) _
 have zk:∀ {v:Value} {l:List Int} {C:Nat},Ints w5 C v l->∀ b,v.ownBlock=some b->¬ b=w.heap.size:=fun hi b e=>by
  obtain⟨cur,hc⟩:=hi.kind e;exact za1 hc b5 yij
 have hs:w.heap.size<=(w.alloc (.cells #[.slice none 0 0,.slice none 0 0,.bool false] 132)).heap.size:=yii;have s6:=s5.low hs;refine⟨A1,m1,c1,A2,m2,c2,rfl,b5,_,_,Q',rfl,l5.off K fun b e e2=>hn' (e2 ▸ e),⟨s6.first.off K (zk s6.first),s6.last.off K (zk s6.last),s6.apart,s6.out1,s6.out2⟩,?_,fun b e=>(q5 b e).imp id fun e'=>by omega⟩;exact ((((Kept.refl Q w).alloc _).trans k5 fun b h => .inl h)).trans K fun b e => .inr yie
theorem yc0:∀ N,zxv N:=by
 intro N;induction N with
 | zero=>intro t w B gl s Q g o h;obtain⟨op,p,lo,hi,l⟩:=t;simp at h
 | succ N ih =>
 intro t w B gl s Q g o hN hwf hlay hnode hB hl h1000;have hge:∀ b,Q b->b<w.heap.size:=fun b e=>(hlay.ge b e).2
 obtain⟨kv,hna,htr⟩:=hnode.node;obtain⟨A,n,c,rfl⟩:=htr.form;have hnb:=htr.bound.1;have hna1:NodeAt (w.alloc (.cells #[.slice none 0 0,.slice none 0 0,.bool false] 132)) g o t (.slice A n c):=hna.block (yfo w _ g hnode.lt);have hcell:∀ q v,(zdt t (.slice A n c))[q]?=some v->(w.alloc (.cells #[.slice none 0 0,.slice none 0 0,.bool false] 132)).cell? ⟨g,o+q,none⟩=some v:=hna1;have hcell0:=hcell 0 _ rfl;rw[yh1] at hcell0;have hlay1:=hlay.alloc (.cells #[.slice none 0 0,.slice none 0 0,.bool false] 132);have hnode1:=hnode.alloc (.cells #[.slice none 0 0,.slice none 0 0,.bool false] 132);have hB1:B<=(w.alloc (.cells #[.slice none 0 0,.slice none 0 0,.bool false] 132)).heap.size:=yil;have htr1:Tree (w.alloc (.cells #[.slice none 0 0,.slice none 0 0,.bool false] 132)) (fun b=>¬ Q b) t (.slice A n c):=htr.alloc _;have HGE:=Zh hge;cases hwf with
 | one p =>
  have hcall:=ztb p hlay1 hB1 hl (by simp only[plR] at h1000;simp at h1000;omega);have c1:=hcell 1 _ rfl;have c2:=hcell 2 _ rfl;have c3:=hcell 3 _ rfl;have c4:=hcell 4 _ rfl;simp only[T.set] at c1 c2 c3 c4;simp only[T.op] at hcell0;have HC:=Zh hcall;have hlp:layP (.mk 1 p 0 0 []) s=(oneL s p,oneX s):=(by simp[layP]);rw[hlp];clear hcall hcell hna hna1 hnode hnode1 hlay hlay1 htr htr1 hl ih hge hlp hnb;go_enter Tryd.func45,Tryd.ntmps45;go_wp2_with (go_at_call 60;(refine HC.o.mono ?_);intro e w5 he;obtain⟨A1,m1,c1,A2,m2,c2,rfl,b5,hr⟩:=zmp HGE.o he;have HR:=Zh hr;have HB5:=Zh b5;obtain⟨d0,d1,d2⟩:=b5.cell;obtain⟨e0,e1,e2⟩:=b5.frozen;clear he hr b5);refine zc5 (x:=4) rfl rfl rfl (HB5.o.put _ _ _) ?_;exact HR.o
 | cat l h2 hNl h =>
  have hk:∀ u∈(T.mk 2 za9 0 0 l).kids,SizeOf.sizeOf u<=N∧WF u:=fun u hu=>by
   have:=yhi (show u∈l from hu);simp at hN;exact⟨by omega,h u hu⟩
  have hcall:=yer ih hk hlay1 htr1 hB1 hl (by simp only[plR] at h1000;simpa [T.kids] using h1000) (by rw[hnb];simp only[T.kids];omega);have c7:=hcell 7 _ rfl;simp only[T.op] at hcell0;simp only[T.kids] at hcall;have HC:=Zh hcall;have hlp:layP (.mk 2 za9 0 0 l) s=catP l s .nothing:=(by simp[layP]);rw[hlp];clear hcall hcell hna hna1 hnode hnode1 hlay hlay1 htr htr1 hl ih hge hlp hnb hk h;go_enter Tryd.func45,Tryd.ntmps45;go_wp2_with (go_at_call 61;(refine HC.o.mono ?_);intro e w5 he;obtain⟨A1,m1,c1,A2,m2,c2,rfl,b5,hr⟩:=zmp HGE.o he;have HR:=Zh hr;have HB5:=Zh b5;obtain⟨d0,d1,d2⟩:=b5.cell;obtain⟨e0,e1,e2⟩:=b5.frozen;clear he hr b5);refine zc5 (x:=4) rfl rfl rfl (HB5.o.put _ _ _) ?_;exact HR.o
 | alt l h2 hNl h =>
  have hk:∀ u∈(T.mk 3 za9 0 0 l).kids,SizeOf.sizeOf u<=N∧WF u:=fun u hu=>by
   have:=yhi (show u∈l from hu);simp at hN;exact⟨by omega,h u hu⟩
  have hcall:=yes ih hk hlay1 htr1 hB1 hl (by simp only[plR] at h1000;simpa [T.kids] using h1000) (by rw[hnb];simp only[T.kids];omega);have c7:=hcell 7 _ rfl;simp only[T.op] at hcell0;simp only[T.kids] at hcall;have HC:=Zh hcall;have hlp:layP (.mk 3 za9 0 0 l) s=altP l s .void:=(by simp[layP]);rw[hlp];clear hcall hcell hna hna1 hnode hnode1 hlay hlay1 htr htr1 hl ih hge hlp hnb hk h;go_enter Tryd.func45,Tryd.ntmps45;go_wp2_with (go_at_call 62;(refine HC.o.mono ?_);intro e w5 he;obtain⟨A1,m1,c1,A2,m2,c2,rfl,b5,hr⟩:=zmp HGE.o he;have HR:=Zh hr;have HB5:=Zh b5;obtain⟨d0,d1,d2⟩:=b5.cell;obtain⟨e0,e1,e2⟩:=b5.frozen;clear he hr b5);refine zc5 (x:=4) rfl rfl rfl (HB5.o.put _ _ _) ?_;exact HR.o
 | rep m h u h0 h1 h2 h3 hu =>
  obtain⟨M,rfl⟩:∃ M:Nat,m=M:=⟨m.toNat,by omega⟩;obtain⟨H,rfl⟩:∃ H:Nat,h=H:=⟨h.toNat,by omega⟩;have hNu:SizeOf.sizeOf u<=N:=(by simp at hN;omega);have hone:zxu u:=fun w B gl s Q g o h1 h2 h3 h4 h5=>ih u w B gl s Q g o hNu hu h1 h2 h3 h4 h5
  have hpl:plR (.mk 4 za9 (M:Int) (H:Int) [u])=H*plR u:=(by simp[plR,plRL]);rw[hpl] at h1000;have hcall:=yen (M:=M) (H:=H) hone hu yie yie hlay1 hnode1 hB1 hl h1000;simp only[T.op] at hcell0;have HC:=Zh hcall;have hh:zmw [u]=layP u:=(by funext s;simp[zmw]);have hlp:layP (.mk 4 za9 (M:Int) (H:Int) [u]) s=repX (layP u) M (H-M) s:=by
   simp only[layP];simp[hh]
  rw[hlp];clear hcall hcell hna hna1 hnode hnode1 hlay hlay1 htr htr1 hl ih hge hlp hnb hone hpl hh;go_enter Tryd.func45,Tryd.ntmps45;go_wp2_with (go_at_call 63;(refine HC.o.mono ?_);intro e w5 he;obtain⟨A1,m1,c1,A2,m2,c2,rfl,b5,hr⟩:=zmp HGE.o he;have HR:=Zh hr;have HB5:=Zh b5;obtain⟨d0,d1,d2⟩:=b5.cell;obtain⟨e0,e1,e2⟩:=b5.frozen;clear he hr b5);refine zc5 (x:=4) rfl rfl rfl (HB5.o.put _ _ _) ?_;exact HR.o
theorem yep {t:T} {w:World} {B gl:Nat} {s:Lay} {Q:Nat->Prop} {g o:Nat} (hwf:WF t) (hlay:LayAt w B gl s Q) (hnode:NodeIn w g o t Q) (hB:B<=w.heap.size) (hl:LInv s) (h1000:s.sets.length+plR t<=1000):
 Calls Tryd.prog 45 #[.pointer (some ⟨gl,0,none⟩),.pointer (some ⟨g,o,none⟩)] w (zc0 w B gl w.heap.size (layP t s).1 (layP t s).2 Q Q):=
 yc0 _ t w B gl s Q g o (yez _) hwf hlay hnode hB hl h1000
end
section
attribute [local go_sem ↓] Go.wp_at_zero Go.wp_at_succ
def zsj (w:World) (s:Lay) (x:Str) (e:Ending) (w':World):Prop:=
 ∃ A1 m1 c1 A2 m2 c2 gm A3 m3 c3,e = .returned (.tuple #[.agg #[.slice A1 m1 c1,.slice A2 m2 c2,.slice (some ⟨gm,0,none⟩) s.sets.length s.sets.length,.slice A3 m3 c3,.bool x.empty],.nilIface])∧
  NfaAt w' w.heap.size (.slice A1 m1 c1) (.slice A2 m2 c2) gm (.slice A3 m3 c3) s x∧Below w.heap.size w w'
def BoxF (w:World) (g:Nat) (a b c d:Value) (e:Bool):Prop:=w.heap[g]?=some (.cells #[a,b,c,d,.bool e] 73 (0,0))
section
variable {w w':World} {g x y:Nat} {a b c d v:Value} {e:Bool}
theorem BoxF.cell (h:BoxF w g a b c d e):w.cell? ⟨g,0,none⟩=some a∧w.cell? ⟨g,1,none⟩=some b∧w.cell? ⟨g,2,none⟩=some c∧w.cell? ⟨g,3,none⟩=some d∧w.cell? ⟨g,4,none⟩=some (.bool e):=by
 unfold BoxF at h;refine⟨?_,?_,?_,?_,?_⟩ <;> exact cell_of_row w g _ _ 73 (0,0) h
theorem BoxF.frozen (h:BoxF w g a b c d e):w.frozen? ⟨g,0,none⟩=false∧w.frozen? ⟨g,1,none⟩=false∧w.frozen? ⟨g,2,none⟩=false∧w.frozen? ⟨g,3,none⟩=false∧w.frozen? ⟨g,4,none⟩=false:=by
 unfold BoxF at h;refine⟨?_,?_,?_,?_,?_⟩ <;> simp[World.frozen?,h]
theorem BoxF.lt (h:BoxF w g a b c d e):g<w.heap.size:=za0 h
theorem BoxF.new (w:World) (a b c d:Value) (e:Bool):BoxF (w.alloc (.cells #[a,b,c,d,.bool e] 73)) w.heap.size a b c d e:=heap_alloc_new w _
theorem BoxF.alloc (h:BoxF w g a b c d e) (o:Obj):BoxF (w.alloc o) g a b c d e:=(yfo w o g h.lt).trans h
theorem BoxF.stays (h:BoxF w g a b c d e) (hb:Below w.heap.size w w'):BoxF w' g a b c d e:=(hb.block g h.lt).trans h
theorem BoxF.off {Q:Nat->Prop} (h:BoxF w g a b c d e) (hk:Kept Q w w') (hq:¬ Q g):BoxF w' g a b c d e:=(hk.block g h.lt hq).trans h
theorem BoxF.put (h:BoxF w g a b c d e) (a' b' c' d':Value) (e':Bool):BoxF (((((w.setCell ⟨g,0,none⟩ a').setCell ⟨g,1,none⟩ b').setCell ⟨g,2,none⟩ c').setCell ⟨g,3,none⟩ d').setCell ⟨g,4,none⟩ (.bool e')) g a' b' c' d' e':=by
 unfold BoxF at h ⊢;have h0:=heap_setCell_same w g 0 _ _ a' h;have h1:=heap_setCell_same _ g 1 _ _ b' h0;have h2:=heap_setCell_same _ g 2 _ _ c' h1;have h3:=heap_setCell_same _ g 3 _ _ d' h2;rw[heap_setCell_same _ g 4 _ _ (.bool e') h3];rfl
theorem zzb (h:BoxF w g a b c d e):(loadVar 73 ⟨g,0,none⟩).run Tryd.prog w = .ok (.agg #[a,b,c,d,.bool e]) w:=by
 obtain⟨c0,c1,c2,c3,c4⟩:=h.cell;have h1:(loadCells ⟨g,0,none⟩ 5).run Tryd.prog w = .ok #[a,b,c,d,.bool e] w:=run_loadCells w ⟨g,0,none⟩ 5 (fun j=>if j=0 then a else if j=1 then b else if j=2 then c else if j=3 then d else .bool e) (fun j hj=>by
  rw[Addr.add_lit,yg5]
  match j,hj with
  | 0,_=>exact c0
  | 1,_=>exact c1
  | 2,_=>exact c2
  | 3,_=>exact c3
  | 4,_=>exact c4)
 have h2:(isAgg 73).run Tryd.prog w = .ok true w:=yih;have h3:(sizeOf 73).run Tryd.prog w = .ok 5 w:=yih;simp[loadVar,Sem.run_bind,h1,h2,h3]
theorem yba {fn:Func} {R:Ending->World->Prop} {a0:Act} (hr:fn.results=#[.cell x 73,.tmp y]) (hx:a0.tmps.getD x undef = .pointer (some ⟨g,0,none⟩)) (hy:a0.tmps.getD y undef=v) (hd:a0.defers=[]) (h:BoxF w g a b c d e)
 (hR:R (.returned (.tuple #[.agg #[a,b,c,d,.bool e],v])) w):bodyPost Tryd.prog fn R .ret a0 w:=by
 refine bodyPost_ret ?_ hd hR;have e0:(#[ResultVar.cell x 73,.tmp y]:Array ResultVar)=[ResultVar.cell x 73,.tmp y].toArray:=rfl;rw[ygj] at hx hy;unfold results;rw[hr,e0];simp[Sem.run_bind,hx,hy,zzb h,asAddr]
end
theorem zw8 (w:World) (B:Nat) (hB:B<=w.heap.size):LayAt (w.alloc (.cells #[.slice none 0 0,.slice none 0 0] 130)) B w.heap.size ⟨[],[]⟩ (fun b=>b=w.heap.size):=
 ⟨fun b e=>by subst e;simp;omega,rfl,_,_,heap_alloc_new w _,⟨yfx _ _ _ _,fun b e=>yj0,⟨[],yfx _ _ _ _,⟨rfl,fun i v l h=>(by simp at h),fun i v b h=>(by simp at h),fun i j v v' b h=>(by simp at h)⟩⟩,fun b e=>yj0⟩⟩
theorem zl6:LInv ⟨[],[]⟩:=⟨rfl,fun q p h=>by simp at h⟩
theorem ycq {t:T} {w:World} {ok:Nat->Prop} {k:Value} (hwf:WF t) (ht:Tree w ok t k) (h256:plR t<=256):Calls Tryd.prog 27 #[zcu t k] w (zsj w (lay0 t).1 (lay0 t).2):=by
 obtain⟨A,n,c,rfl⟩:=ht.form;have b1:=Box8.new w t (.slice A n c);have hB1:Below w.heap.size w (w.alloc (.cells #[.int .i64 t.op,.int .u64 (word t.set 0),.int .u64 (word t.set 1),.int .u64 (word t.set 2),.int .u64 (word t.set 3),.int .i64 t.lo,.int .i64 t.hi,.slice A n c] 56)):=(yf6 _ _).alloc (yez _) _;have hN1:NodeIn (w.alloc (.cells #[.int .i64 t.op,.int .u64 (word t.set 0),.int .u64 (word t.set 1),.int .u64 (word t.set 2),.int .u64 (word t.set 3),.int .i64 t.lo,.int .i64 t.hi,.slice A n c] 56)) w.heap.size 0 t NoQ:=
  ⟨⟨_,b1.nodeAt,(ht.stays hB1).weak fun _ _ _ h=>h⟩,fun h=>h,b1.lt⟩
 have hsz0:(lay0 t).1.sets.length=plR t:=(by have:=zd5 hwf ⟨[],[]⟩;simpa [lay0] using this);have hf0:=zh1 hwf ⟨[],[]⟩ zl6;obtain⟨s0,x0,e0⟩:∃ a b,layP t ⟨[],[]⟩=(a,b):=⟨_,_,rfl⟩;have hlay0:lay0 t=(s0,x0):=e0;rw[e0] at hf0;rw[hlay0] at hsz0 ⊢;simp only at hf0 hsz0 ⊢;obtain⟨z,hz⟩:∃ z,plR t=z:=⟨_,rfl⟩;have hlast:∀ p∈x0.last,p<s0.sets.length:=fun p hp=>by
  obtain⟨R,g⟩:=hf0.nice;exact (g.last p hp).2
 have hll:=hf0.nice.len.2;obtain⟨i0,hi,hi0,hi1,hi2⟩:=info_parts Tryd.infoBool;have bR:=BoxF.new (w.alloc (.cells #[.int .i64 t.op,.int .u64 (word t.set 0),.int .u64 (word t.set 1),.int .u64 (word t.set 2),.int .u64 (word t.set 3),.int .i64 t.lo,.int .i64 t.hi,.slice A n c] 56)) (.slice none 0 0) (.slice none 0 0) (.slice none 0 0) (.slice none 0 0) false;have hB2:=hB1.alloc hB1.size (.cells #[.slice none 0 0,.slice none 0 0,.slice none 0 0,.slice none 0 0,.bool false] 73);have hN2:=hN1.alloc (.cells #[.slice none 0 0,.slice none 0 0,.slice none 0 0,.slice none 0 0,.bool false] 73);rw[yfe] at bR;have hcount:=ycm hwf hN2 yie;unfold zey at hcount;rw[hz] at hcount h256 hsz0;have HCO:=Zh hcount;have HLAY:Hid (∀ (W:World) (Q:Nat->Prop) (gl:Nat),LayAt W w.heap.size gl ⟨[],[]⟩ Q->NodeIn W w.heap.size 0 t Q->w.heap.size<=W.heap.size->Calls Tryd.prog 45 #[.pointer (some ⟨gl,0,none⟩),.pointer (some ⟨w.heap.size,0,none⟩)] W (zc0 W w.heap.size gl W.heap.size s0 x0 Q Q)):=fun W Q gl h1 h2 h3=>by
  have:=yep hwf h1 h2 h3 zl6 yil;rw[e0] at this;exact this
 unfold zc0 at HLAY;have HN:=Zh hN2;have HBR:=Zh bR;have HB2:=Zh hB2;have HSZ:=Zh hsz0;have HLA:=Zh hlast;have HLL:Hid (x0.last.length<=100000):=by show _<=_;simp at hll;omega
 have hz256:¬ ((256:Int)<(z:Int)):=yie;unfold zcu;clear hcount hN1 hN2 bR hB1 hB2 hsz0 hlast hll hf0 e0 hlay0 hz b1 ht hwf;go_enter Tryd.func27,Tryd.ntmps27;go_wp2_with (first
  | (go_at_call 44;(refine HCO.o.mono ?_);rintro e w2 ⟨rfl,hb2⟩;have hbw:=gro HB2.o hb2;have n2:=HN.o.stays hb2;have r2:=HBR.o.stays hb2;have hl2:=r2.lt;have l3:=zw8 w2 w.heap.size hbw.size;have n3:NodeIn (w2.alloc (.cells #[.slice none 0 0,.slice none 0 0] 130)) w.heap.size 0 t (fun b=>b=w2.heap.size):=n2.kept ((Kept.refl NoQ w2).alloc _) (fun b e => .inr yie);have L3:=Zh l3;have N3:=Zh n3;have R3:=Zh (r2.alloc (.cells #[.slice none 0 0,.slice none 0 0] 130));have HBW:=Zh hbw;clear l3 n3 n2 r2 hb2 hbw)
  | (go_at_call 45;(refine (HLAY.o _ _ _ L3.o N3.o (by simp;have:=HBW.o.size;omega)).mono ?_);rintro e w5 ⟨v1,v2,Q',rfl,l5,s5,k5,q5⟩;obtain⟨A4,m4,c4,rfl⟩:=s5.first.form3;obtain⟨A5,m5,c5,rfl⟩:=s5.last.form3;obtain⟨vs,vf,hgl,hrw⟩:=l5.box;obtain⟨As,cs,rfl⟩:=zaa hrw.sets;obtain⟨fs,hfo,hfs⟩:=hrw.fols;obtain⟨Af,cf,rfl⟩:=zaa hfo;rw[HSZ.o] at hgl hrw;have hs25:=k5.size;rw[yfe] at hs25;have hw2:=HBW.o.size;have l2:=R3.o.lt;rw[yfe] at l2;have hq2:∀ b,Q' b->b≠w.heap.size+1∧w.heap.size+1<w5.heap.size:=(fun b e=>⟨fun e2=>(by rcases q5 b e with e3 | e3;have e3':b=w2.heap.size:=e3;omega;rw[yfe] at e3;omega),by omega⟩);have r5:=R3.o.off k5 (by intro e;have:w.heap.size+1=w2.heap.size:=e;omega);have h6:HasO (w5.alloc (.cells #[.slice A4 m4 c4,.slice A5 m5 c5,.bool x0.empty] 132)) w2.heap.size (.cells #[.slice As z cs,.slice Af s0.follow.length cf] 130 (0,0)):=zbq _ hgl;have c60:(w5.alloc (.cells #[.slice A4 m4 c4,.slice A5 m5 c5,.bool x0.empty] 132)).cell? ⟨w2.heap.size,0,none⟩=some (.slice As z cs):=cell_of_row _ _ 0 _ _ (0,0) h6;obtain⟨wm,hmk,hown,hgm⟩:=run_make_full (P:=Tryd.prog) (w5.alloc (.cells #[.slice A4 m4 c4,.slice A5 m5 c5,.bool x0.empty] 132)) w.heap.size 23 4 i0 _ 1 Tryd.underlying23 hi hi0 hi1 .i64 .i64 z (by rw[hi2];omega) yin yil;rw[zli] at hown;rw[yfe] at hmk hown;have km:Kept NoQ (w5.alloc (.cells #[.slice A4 m4 c4,.slice A5 m5 c5,.bool x0.empty] 132)) wm:=((Kept.refl NoQ _).grown hgm fun b e=>by cases e);have gm6:HasO wm w2.heap.size (.cells #[.slice As z cs,.slice Af s0.follow.length cf] 130 (0,0)):=(km.block _ (za0 h6) (fun h=>h)).trans h6;have b5m:=(BoxS.new w5 (.slice A4 m4 c4) (.slice A5 m5 c5) x0.empty).off km (fun h=>h);have r6:=(r5.alloc (.cells #[.slice A4 m4 c4,.slice A5 m5 c5,.bool x0.empty] 132)).off km (fun h=>h);obtain⟨t0,t1,t2⟩:=b5m.cell;have g0:wm.cell? ⟨w2.heap.size,0,none⟩=some (.slice As z cs):=cell_of_row _ _ 0 _ _ (0,0) gm6;have BM:Hid (Bools wm w.heap.size (w5.heap.size+1) z fun _=>false):=hown;have IL:=Zh ((s5.last.alloc (.cells #[.slice A4 m4 c4,.slice A5 m5 c5,.bool x0.empty] 132)).off km (Q:=NoQ) (fun b e h=>h));have GM:=Zh gm6;have BT:=Zh b5m;have RR:=Zh r6;have L5:=Zh l5;have KK5:=Zh k5;have S5:=Zh s5;have HRW:=Zh hrw;have HQ2:=Zh hq2;have KM:=Zh km;have Q5':=Zh q5;clear l5 s5 hrw hfo hfs hgl k5 q5 r5 h6 hown hgm km gm6 b5m r6 hq2)
  | (go_at_call 46;(refine (ybm BM.o IL.o (by intro p hp;have:=HLA.o p hp;rw[HSZ.o] at this;exact this) HLL.o yie).mono ?_);rintro e w7 ⟨rfl,hb7,k7⟩;have g7:HasO w7 w2.heap.size (.cells #[.slice As z cs,.slice Af s0.follow.length cf] 130 (0,0)):=(k7.block _ (za0 GM.o) (by intro e;have:w2.heap.size=w5.heap.size+1:=e;omega)).trans GM.o;have f0:w7.cell? ⟨w2.heap.size,0,none⟩=some (.slice As z cs):=cell_of_row _ _ 0 _ _ (0,0) g7;have f1:w7.cell? ⟨w2.heap.size,1,none⟩=some (.slice Af s0.follow.length cf):=cell_of_row _ _ 1 _ _ (0,0) g7;have b7:=BT.o.off k7 (by intro e;have:w5.heap.size=w5.heap.size+1:=e;omega);have r7:=RR.o.off k7 (by intro e;have:w.heap.size+1=w5.heap.size+1:=e;omega);obtain⟨u0,u1,u2⟩:=b7.cell;obtain⟨j0,j1,j2,j3,j4⟩:=r7.cell;obtain⟨k0,k1,k2,k3,k4⟩:=r7.frozen;have R7:=Zh r7;have B7:=Zh hb7;have K7:=Zh k7;clear g7 b7 r7 hb7 k7))
 refine yba (x:=2) (y:=3) rfl rfl rfl rfl (R7.o.put _ _ _ _ _) ?_;have K7F:=((((((Kept.refl (fun b=>b=w.heap.size+1) w7).setCell (a:=⟨w.heap.size+1,0,none⟩) (.inl rfl) (.slice As z cs)).setCell (a:=⟨w.heap.size+1,1,none⟩) (.inl rfl) (.slice A4 m4 c4)).setCell (a:=⟨w.heap.size+1,2,none⟩) (.inl rfl) (.slice (some ⟨w5.heap.size+1,0,none⟩) z z)).setCell (a:=⟨w.heap.size+1,3,none⟩) (.inl rfl) (.slice Af s0.follow.length cf)).setCell (a:=⟨w.heap.size+1,4,none⟩) (.inl rfl) (.bool x0.empty));have K5F:=((((Kept.refl (fun b=>b=w.heap.size+1∨b=w5.heap.size+1) w5).alloc (.cells #[.slice A4 m4 c4,.slice A5 m5 c5,.bool x0.empty] 132)).trans KM.o fun b h=>h.elim).trans K7.o fun b e => .inl (.inr e)).trans K7F fun b e => .inl (.inl e)
 have hw2s:=HBW.o.size;have hin:=fun b e=>S5.o.first.in (b:=b) e
 rw[yfe] at hin;refine⟨As,z,cs,A4,m4,c4,w5.heap.size+1,Af,s0.follow.length,cf,by rw[HSZ.o];rfl,⟨⟨_,HRW.o.block fun b e hb=>K5F.block b hb ?_⟩,?_,?_⟩,?_⟩
 .rintro (h|h)
  .exact (HQ2.o b e).1 h
  .have:=(L5.o.ge b e).2;omega
 .refine (S5.o.first.off K5F fun b e h=>?_).high fun b e=>by have:=hin b e;omega
  have:=hin b e;rcases h with h|h <;> omega
 .rw[HSZ.o];exact (B7.o.off K7F (by intro h;have h':w5.heap.size+1=w.heap.size+1:=h;omega)).congr fun j _=>by simp
 .exact ((((Kept.of_below NoQ HBW.o).alloc _).trans KK5.o fun b e => .inr (by have e':b=w2.heap.size:=e;omega)).trans K5F fun b e => .inr (by rcases e with e | e <;> omega)).below (yez _) fun b e=>e.elim
end
end Go.Proofs.YtipfgpfplakhiaaDoor
