import Derived.Test.YtipfgpfplakhiaaTc27
import Derived.Test.YtipfgpfplakhiaaTc30
import Derived.Test.YtipfgpfplakhiaaTc28
set_option linter.unusedVariables false
set_option linter.unusedSimpArgs false
set_option maxRecDepth 20000
set_option maxHeartbeats 4000000
namespace Go.Proofs.Ytipfgpfplakhiaa
open Go Go.RowKit
section
attribute [local go_sem ↓] Go.wp_at_zero Go.wp_at_succ
attribute [local go_sem ↓] zh5
theorem zvh (z:Nat):(madeCells (Value.agg #[.int .u64 0,.int .u64 0,.int .u64 0,.int .u64 0]).cells (z*4)).toList=zb8 (List.replicate z zaa):=by
 apply yil;intro j
 by_cases hj:j<z*4
 .have hd:j=j / 4*4+j % 4:=yjz;have hlt:j / 4<(List.replicate z zaa).length:=(by rw[yhp];omega);have h1:=zcs (List.replicate z zaa) (j / 4) (j % 4) hlt yjz;rw[←hd] at h1;rw[h1,List.getElem_replicate,zah];have h4:j % 4=0∨j % 4=1∨j % 4=2∨j % 4=3:=yjz;simp only[madeCells,Value.cells,Array.toList_map,Array.toList_range,yhj,yir hj,Option.map_some];have hs:(#[Value.int .u64 0,.int .u64 0,.int .u64 0,.int .u64 0]:Array Value).size=4:=rfl;rcases h4 with h|h|h|h <;> simp[h]
 .rw[yh6 (by simp[madeCells];omega),yh6 (by rw[zet,yhp];omega)]
theorem zu6 (z:Nat):(madeCells (Value.slice none 0 0).cells (z*1)).toList=List.replicate z (Value.slice none 0 0):=by
 have:=toList_madeCells_one (Value.slice none 0 0) z;rw[yib];exact this
theorem zug (w:World) (B z:Nat) (Q:Nat->Prop):FolAt w B (List.replicate z (.slice none 0 0)) (List.replicate z []) Q:=by
 have hg:∀ (i:Nat) (v:Value),(List.replicate z (Value.slice none 0 0))[i]?=some v->v = .slice none 0 0:=fun i v h=>by
  rw[yip] at h;split at h
  .injection h with h;exact h.symm
  .cases h
 refine⟨by simp,fun i v l h1 h2=>?_,fun i v b h1 h2=>?_,fun i j v v' b h1 h2 h3 h4=>?_⟩
 .have:=hg i v h1;subst this;rw[yip] at h2;split at h2
  .injection h2 with h2
   subst h2;exact Ints.nil _ _
  .cases h2
 .have:=hg i v h1;subst this;cases h2
 .have:=hg i v h1;subst this;cases h3
theorem yah {W:World} {C ga gs gm gf z:Nat} {e:Bool} {M4 M1 MB:Array Value} (hz:z<=256) (hs:HasO W gs (.cells M4 64 (0,0))) (hM4:M4.toList=zb8 (List.replicate z zaa)) (hf:HasO W gf (.cells M1 44 (0,0))) (hM1:M1.toList=List.replicate z (.slice none 0 0))
 (hm:HasO W gm (.cells MB 4 (0,0))) (hMB:MB.toList=zc0 z fun _=>false) (ha:HasO W ga (.cells #[.slice (some ⟨gs,0,none⟩) z z,.slice none 0 0,.slice (some ⟨gm,0,none⟩) z z,.slice (some ⟨gf,0,none⟩) z z,.bool e] 76 (0,0)))
 (g1:C<=gs) (g2:C<=gf) (g3:C<=gm) (g4:C<=ga):
 NfaD W C ga gs gf z (.slice (some ⟨gm,0,none⟩) z z) e (start z) (fun b=>b=ga∨b=gs∨b=gf)∧Bools W C gm z (fun _=>false)∧¬ (gm=ga∨gm=gs∨gm=gf):=by
 have s4:M4.size=z*4:=(by rw[←yij,hM4,zet,yhp]);have s1:M1.size=z*1:=(by rw[←yij,hM1,yhp,yib]);have sB:MB.size=z*1:=(by rw[←yij,hMB];simp[zc0]);have hmax:z<=maxLen:=yka;refine⟨⟨fun b q=>?_,.inl rfl,ha,⟨?_,fun b e=>?_,⟨_,?_,zug _ _ _ _⟩,fun b e=>?_⟩,by simp[start],by simp[start]⟩,?_,?_⟩
 .have a1:=za1 hs;have a2:=za1 hf;have a3:=za1 ha;rcases q with q|q|q <;> subst q <;> omega
 .simp only[start,yhp];exact⟨by simp[zet],.inr ⟨gs,z,M4,rfl,g1,hs,ygo _,hmax,s4,by rw[←hM4];exact yhg (by rw[yij];omega)⟩⟩
 .injection e with e;exact .inr (.inl e.symm)
 .simp only[start,yhp];exact⟨by simp,.inr ⟨gf,z,M1,rfl,g2,hf,ygo _,hmax,s1,by rw[←hM1];exact yhg (by rw[yij];omega)⟩⟩
 .injection e with e;exact .inr (.inr e.symm)
 .exact⟨by simp[zc0],.inr ⟨gm,z,MB,rfl,g3,hm,ygo _,hmax,sB,by rw[←hMB];exact yhg (by rw[yij];omega)⟩⟩
 .rintro (q|q|q)
  .exact za0 hm ha yk6 q
  .exact za0 hm hs yk6 q
  .exact za0 hm hf yk6 q
theorem Try.infoSetD:(Try.prog.info? 64).map (fun i=>(i.zero,i.size,i.bytes))=some (some (.agg #[.int .u64 0,.int .u64 0,.int .u64 0,.int .u64 0]),4,32):=by kernel_rfl
theorem Try.infoListD:(Try.prog.info? 44).map (fun i=>(i.zero,i.size,i.bytes))=some (some (.slice none 0 0),1,24):=by kernel_rfl
theorem zwu (z:Nat) (hz:z<=256):∃ M4 M1 MB:Array Value,M4.toList=zb8 (List.replicate z zaa)∧M1.toList=List.replicate z (.slice none 0 0)∧MB.toList=zc0 z (fun _=>false)∧
 (∀ W:World,(Instr.makeSlice 74 (.int .i64 (z:Int)) (.int .i64 (z:Int))).run Try.prog W = .ok (.slice (some ⟨W.heap.size,0,none⟩) z z) (W.alloc (.cells M4 64)))∧
 (∀ W:World,(Instr.makeSlice 23 (.int .i64 (z:Int)) (.int .i64 (z:Int))).run Try.prog W = .ok (.slice (some ⟨W.heap.size,0,none⟩) z z) (W.alloc (.cells MB 4)))∧
 (∀ W:World,(Instr.makeSlice 35 (.int .i64 (z:Int)) (.int .i64 (z:Int))).run Try.prog W = .ok (.slice (some ⟨W.heap.size,0,none⟩) z z) (W.alloc (.cells M1 44))):=by
 obtain⟨i1,a1,a2,a3,a4⟩:=info_parts Try.infoSetD;obtain⟨i2,b1,b2,b3,b4⟩:=info_parts Try.infoBool;obtain⟨i3,d1,d2,d3,d4⟩:=info_parts Try.infoListD;refine⟨_,_,_,zvh z,zu6 z,zii z,fun W=>?_,fun W=>?_,fun W=>?_⟩
 .have:=run_make (P:=Try.prog) (w:=W) 74 64 i1 _ Try.underlying74 a1 a2 .i64 .i64 (z:Int) (z:Int) yjz (yjw _) (by rw[a4];omega) yjz;rw[a3] at this
  simpa using this
 .have:=run_make (P:=Try.prog) (w:=W) 23 4 i2 _ Try.underlying23 b1 b2 .i64 .i64 (z:Int) (z:Int) yjz (yjw _) (by rw[b4];omega) yjz;rw[b3] at this
  simpa using this
 .have:=run_make (P:=Try.prog) (w:=W) 35 44 i3 _ Try.underlying35 d1 d2 .i64 .i64 (z:Int) (z:Int) yjz (yjw _) (by rw[d4];omega) yjz;rw[d3] at this
  simpa using this
theorem ygb {w4 wx:World} {ga gs gm gf z:Nat} {e:Bool} {M4 M1 MB:Array Value}
 (h0:HasO wx ga (.cells #[.slice (some ⟨gs,0,none⟩) z z,.slice none 0 0,.slice (some ⟨gm,0,none⟩) z z,.slice (some ⟨gf,0,none⟩) z z,.bool e] 76 (0,0)))
 (h1:HasO wx gs (.cells M4 64 (0,0))) (h2:HasO wx gf (.cells M1 44 (0,0))) (h3:HasO wx gm (.cells MB 4 (0,0))) (h4:Below w4.heap.size w4 wx) (h5:w4.heap.size<=gs∧w4.heap.size<=gf∧w4.heap.size<=gm∧w4.heap.size<=ga):
 ∃ ga' gs gm gf,Value.pointer (some ⟨ga,0,none⟩) = .pointer (some ⟨ga',0,none⟩)∧HasO wx ga' (.cells #[.slice (some ⟨gs,0,none⟩) z z,.slice none 0 0,.slice (some ⟨gm,0,none⟩) z z,.slice (some ⟨gf,0,none⟩) z z,.bool e] 76 (0,0))∧
  HasO wx gs (.cells M4 64 (0,0))∧HasO wx gf (.cells M1 44 (0,0))∧HasO wx gm (.cells MB 4 (0,0))∧Below w4.heap.size w4 wx∧(w4.heap.size<=gs∧w4.heap.size<=gf∧w4.heap.size<=gm∧w4.heap.size<=ga'):=
 ⟨ga,gs,gm,gf,rfl,h0,h1,h2,h3,h4,h5⟩
theorem zvo {w w':World} {C:Nat} {vs vf:Value} {s:Lay} {Q Q':Nat->Prop} (h:RowsAt w C vs vf s Q) (hk:Kept Q' w w')
 (hq:∀ b,Q' b->b<w.heap.size->∃ cur ty,w.heap[b]?=some (.cells cur ty (0,0))∧ty≠64∧ty≠44∧ty≠3):RowsAt w' C vs vf s Q:=by
 have key:∀ (b:Nat) (cur:Array Value) (ty:TypeId),w.heap[b]?=some (.cells cur ty (0,0))->(ty=64∨ty=44∨ty=3)->w'.heap[b]?=w.heap[b]?:=fun b cur ty hb ht=>by
  refine hk.block b (za1 hb) fun q=>?_
  obtain⟨cur',ty',hb',n1,n2,n3⟩:=hq b q (za1 hb);have hne:ty'≠ty:=fun e=>by
   rcases ht with h|h|h
   .exact n1 (e.trans h)
   .exact n2 (e.trans h)
   .exact n3 (e.trans h)
  exact za0 hb' hb hne rfl
 obtain⟨fs,h1,h2⟩:=h.fols;refine⟨za7 h.sets fun b e hb=>?_,h.setsQ,⟨fs,za7 h1 fun b e hb=>?_,⟨h2.len,fun i v l e1 e2=>(h2.get i v l e1 e2).block fun b e3 hb=>?_,h2.inQ,h2.apart⟩⟩,h.folsQ⟩
 .obtain⟨cur,hc⟩:=za8 h.sets e;exact key b cur _ hc (.inl rfl)
 .obtain⟨cur,hc⟩:=za8 h1 e;exact key b cur _ hc (.inr (.inl rfl))
 .obtain⟨cur,hc⟩:=(h2.get i v l e1 e2).kind e3;exact key b cur _ hc (.inr (.inr rfl))
def BoxG (w:World) (g:Nat) (a b c d:Value) (e:Bool):Prop:=w.heap[g]?=some (.cells #[a,b,c,d,.bool e] 76 (0,0))
section
variable {w w':World} {g x y:Nat} {a b c d v:Value} {e:Bool}
theorem BoxG.cell (h:BoxG w g a b c d e):w.cell? ⟨g,0,none⟩=some a∧w.cell? ⟨g,1,none⟩=some b∧w.cell? ⟨g,2,none⟩=some c∧w.cell? ⟨g,3,none⟩=some d∧w.cell? ⟨g,4,none⟩=some (.bool e):=by
 unfold BoxG at h;refine⟨?_,?_,?_,?_,?_⟩ <;> exact cell_of_row w g _ _ 76 (0,0) h
theorem BoxG.frozen (h:BoxG w g a b c d e):w.frozen? ⟨g,0,none⟩=false∧w.frozen? ⟨g,1,none⟩=false∧w.frozen? ⟨g,2,none⟩=false∧w.frozen? ⟨g,3,none⟩=false∧w.frozen? ⟨g,4,none⟩=false:=by
 unfold BoxG at h;refine⟨?_,?_,?_,?_,?_⟩ <;> simp[World.frozen?,h]
theorem BoxG.off {Q:Nat->Prop} (h:BoxG w g a b c d e) (hk:Kept Q w w') (hq:¬ Q g):BoxG w' g a b c d e:=(hk.block g (za1 h) hq).trans h
theorem BoxG.stays (h:BoxG w g a b c d e) (hb:Below w.heap.size w w'):BoxG w' g a b c d e:=(hb.block g (za1 h)).trans h
theorem BoxG.put1 (h:BoxG w g a b c d e) (b':Value):BoxG (w.setCell ⟨g,1,none⟩ b') g a b' c d e:=by
 unfold BoxG at h ⊢;rw[heap_setCell_same w g 1 _ _ b' h];rfl
theorem BoxG.put (h:BoxG w g a b c d e) (a' b' c' d':Value) (e':Bool):BoxG (((((w.setCell ⟨g,0,none⟩ a').setCell ⟨g,1,none⟩ b').setCell ⟨g,2,none⟩ c').setCell ⟨g,3,none⟩ d').setCell ⟨g,4,none⟩ (.bool e')) g a' b' c' d' e':=by
 unfold BoxG at h ⊢;have h0:=heap_setCell_same w g 0 _ _ a' h;have h1:=heap_setCell_same _ g 1 _ _ b' h0;have h2:=heap_setCell_same _ g 2 _ _ c' h1;have h3:=heap_setCell_same _ g 3 _ _ d' h2;rw[heap_setCell_same _ g 4 _ _ (.bool e') h3];rfl
theorem yaw (h:BoxG w g a b c d e):(loadVar 76 ⟨g,0,none⟩).run Try.prog w = .ok (.agg #[a,b,c,d,.bool e]) w:=by
 obtain⟨c0,c1,c2,c3,c4⟩:=h.cell;have h1:(loadCells ⟨g,0,none⟩ 5).run Try.prog w = .ok #[a,b,c,d,.bool e] w:=run_loadCells w ⟨g,0,none⟩ 5 (fun j=>if j=0 then a else if j=1 then b else if j=2 then c else if j=3 then d else .bool e) (fun j hj=>by
  rw[Addr.add_lit,yhm]
  match j,hj with
  | 0,_=>exact c0
  | 1,_=>exact c1
  | 2,_=>exact c2
  | 3,_=>exact c3
  | 4,_=>exact c4)
 have h2:(isAgg 76).run Try.prog w = .ok true w:=yk2;have h3:(sizeOf 76).run Try.prog w = .ok 5 w:=yk2;simp[loadVar,Sem.run_bind,h1,h2,h3]
theorem ya0 {fn:Func} {R:Ending->World->Prop} {a0:Act} (hr:fn.results=#[.cell x 76,.tmp y]) (hx:a0.tmps.getD x undef = .pointer (some ⟨g,0,none⟩)) (hy:a0.tmps.getD y undef=v) (hd:a0.defers=[]) (h:BoxG w g a b c d e)
 (hR:R (.returned (.tuple #[.agg #[a,b,c,d,.bool e],v])) w):bodyPost Try.prog fn R .ret a0 w:=by
 refine bodyPost_ret ?_ hd hR;have e0:(#[ResultVar.cell x 76,.tmp y]:Array ResultVar)=[ResultVar.cell x 76,.tmp y].toArray:=rfl;rw[yi1] at hx hy;unfold results;rw[hr,e0];simp[Sem.run_bind,hx,hy,yaw h,asAddr]
end
def zq1 (w:World) (s:Lay) (x:Str) (e:Ending) (w':World):Prop:=
 ∃ A1 m1 c1 A2 m2 c2 gm A3 m3 c3,e = .returned (.tuple #[.agg #[.slice A1 m1 c1,.slice A2 m2 c2,.slice (some ⟨gm,0,none⟩) s.sets.length s.sets.length,.slice A3 m3 c3,.bool x.empty],.bool true])∧
  NfaAt w' w.heap.size (.slice A1 m1 c1) (.slice A2 m2 c2) gm (.slice A3 m3 c3) s x∧Below w.heap.size w w'
theorem ybx {t:T} {w:World} {ok:Nat->Prop} {k:Value} (hwf:WF t) (ht:Tree w ok t k) (h256:plR t<=256):Calls Try.prog 23 #[zas t k] w (zq1 w (lay0 t).1 (lay0 t).2):=by
 obtain⟨A,n,c,rfl⟩:=ht.form;obtain⟨hpl,hsets,hfol,hfst,hlst,hemp⟩:=zul hwf h256;obtain⟨z,hz⟩:∃ z,plR t=z:=⟨_,rfl⟩;have hzN:plN t=z:=(by have:=zw2 hwf;omega);have hsz:(lay0 t).1.sets.length=z:=(by rw[←hsets,(zhl _ _ _).1,←hz];simp[start]);have b1:=(Box8.new w t (.slice A n c)).alloc (.cells #[.slice none 0 0,.slice none 0 0,.slice none 0 0,.slice none 0 0,.bool false] 76);have hB:Below w.heap.size w ((w.alloc (.cells #[.int .i64 t.op,.int .u64 (word t.set 0),.int .u64 (word t.set 1),.int .u64 (word t.set 2),.int .u64 (word t.set 3),.int .i64 t.lo,.int .i64 t.hi,.slice A n c] 67)).alloc (.cells #[.slice none 0 0,.slice none 0 0,.slice none 0 0,.slice none 0 0,.bool false] 76)):=
  ((ygr _ _).alloc (ygo _) _).alloc yk3 _
 have hR:HasO ((w.alloc (.cells #[.int .i64 t.op,.int .u64 (word t.set 0),.int .u64 (word t.set 1),.int .u64 (word t.set 2),.int .u64 (word t.set 3),.int .i64 t.lo,.int .i64 t.hi,.slice A n c] 67)).alloc (.cells #[.slice none 0 0,.slice none 0 0,.slice none 0 0,.slice none 0 0,.bool false] 76)) (w.heap.size+1) (.cells #[.slice none 0 0,.slice none 0 0,.slice none 0 0,.slice none 0 0,.bool false] 76 (0,0)):=zao _ _ _ _ yk3;have HP:=Zh (zmp _ hwf (ht.stays hB));have HFL:=Zh (fun w' (hb:Below w.heap.size w w')=>yfl (w:=w') hwf (ht.stays hb));have hft:=zxs hwf;rw[hz] at hpl hsets hfol h256;generalize zaq t=fl at *;unfold zas zea at HP;unfold zgz at HFL;unfold zas;unfold zas at HFL;rw[hzN] at HP;obtain⟨s0,x0,e0⟩:∃ a b,lay0 t=(a,b):=⟨_,_,rfl⟩;rw[e0] at hsets hfol hfst hlst hemp hsz ⊢;simp only at hsets hfol hfst hlst hemp hsz ⊢;have HSAME:=Zh (And.intro hpl (And.intro hsets (And.intro hfol (And.intro hfst (And.intro hlst hsz)))));have HEMP:=Zh hemp;have HB:=Zh hB;have HR:=Zh hR;have HB1:=Zh b1;have HFT:=Zh hft;obtain⟨c0,c1,c2,c3,c4,c5,c6,c7⟩:=b1.cell;have hzl:¬ (256:Int)<(z:Int):=yjz;obtain⟨M4,M1,MB,hM4,hM1,hMB,mk4,mkB,mk1⟩:=zwu z h256;have HM:=Zh (And.intro hM4 (And.intro hM1 hMB));clear hB hR b1 hft ht hwf hz hpl hsets hfol hfst hlst hemp hsz e0 hzN hM4 hM1 hMB;go_enter Try.func23,Try.ntmps23;go_wp2_with (first
  | (go_at_call 41;(with_reducible refine HP.o.mono ?_);rintro e2 w2 ⟨rfl,b2⟩;have hb2:=gro HB.o b2;have HB2:=Zh hb2;have hx2:=HB1.o.stays b2;obtain⟨d0,d1,d2,d3,d4,d5,d6,d7⟩:=hx2.cell;have HR2:=Zh (zb7 HR.o b2);clear hx2 b2 hb2)
  | (go_at_call 42;(with_reducible refine (HFL.o w2 HB2.o).mono ?_);rintro e3 w3 ⟨k3,rfl,t3,b3⟩;obtain⟨A3,n3,m3,rfl⟩:=t3.form;have HT3:=Zh t3;have HB3:=Zh (gro HB2.o b3);have HR3:=Zh (zb7 HR2.o b3);have hs3:=b3.size;clear t3 b3)
  | fail)
 have hbf:=Box8.new w3 fl (.slice A3 n3 m3);generalize hw4:w3.alloc (.cells #[.int .i64 fl.op,.int .u64 (word fl.set 0),.int .u64 (word fl.set 1),.int .u64 (word fl.set 2),.int .u64 (word fl.set 3),.int .i64 fl.lo,.int .i64 fl.hi,.slice A3 n3 m3] 67)=w4 at *;have hs4:w4.heap.size=w3.heap.size+1:=(by rw[←hw4];simp);have hB34:Below w3.heap.size w3 w4:=(by rw[←hw4];exact (ygr _ _).alloc (ygo _) _);have HBF:=Zh hbf;have HB4:=Zh (gro HB3.o hB34);have HR4:=Zh (zb7 HR3.o hB34);have HT4:=Zh (HT3.o.stays hB34);have HKE:=Zh (fun w' (hb:Below w4.heap.size w4 w')=>(zqp (w:=w') HFT.o (HT4.o.stays hb)).mono fun e w'' ⟨h1,h2⟩=>(show _∧Below w'.heap.size w' w''∧Box8 w'' w3.heap.size fl (.slice A3 n3 m3) from⟨h1,h2,HBF.o.stays (gro hb h2)⟩));unfold zas at HKE;obtain⟨c0',c1',c2',c3',c4',c5',c6',c7'⟩:=hbf.cell;have hfl4:w3.heap.size<w4.heap.size:=yjz;clear hw4 hbf hB34 HT3 HR3 HB3 HB2 HR2 HFL HP HB HR HB1 hs3 c0 c1 c2 c3 c4 c5 c6 c7 d0 d1 d2 d3 d4 d5 d6 d7;go_upto_region 5 with fail
 go_cut [6] from 17 to 26 (fun s6 wx=>∃ ga gs gm gf,s6 = .pointer (some ⟨ga,0,none⟩)∧HasO wx ga (.cells #[.slice (some ⟨gs,0,none⟩) z z,.slice none 0 0,.slice (some ⟨gm,0,none⟩) z z,.slice (some ⟨gf,0,none⟩) z z,.bool (zau fl)] 76 (0,0))∧
  HasO wx gs (.cells M4 64 (0,0))∧HasO wx gf (.cells M1 44 (0,0))∧HasO wx gm (.cells MB 4 (0,0))∧Below w4.heap.size w4 wx∧(w4.heap.size<=gs∧w4.heap.size<=gf∧w4.heap.size<=gm∧w4.heap.size<=ga))
 case first =>
  go_region_held3 (fun w'=>w'.cell? ⟨w3.heap.size,0,none⟩=some (.int .i64 fl.op)∧w'.cell? ⟨w3.heap.size,1,none⟩=some (.int .u64 (word fl.set 0))∧w'.cell? ⟨w3.heap.size,2,none⟩=some (.int .u64 (word fl.set 1))∧w'.cell? ⟨w3.heap.size,3,none⟩=some (.int .u64 (word fl.set 2))∧w'.cell? ⟨w3.heap.size,4,none⟩=some (.int .u64 (word fl.set 3))∧w'.cell? ⟨w3.heap.size,5,none⟩=some (.int .i64 fl.lo)∧w'.cell? ⟨w3.heap.size,6,none⟩=some (.int .i64 fl.hi)∧w'.cell? ⟨w3.heap.size,7,none⟩=some (.slice A3 n3 m3))
   (refine⟨?_,?_,?_,?_,?_,?_,?_,?_⟩ <;> (repeat (first | with_reducible assumption | with_reducible refine zba ?_ | with_reducible refine zcj ?_ _))) (first
   | (go_at_call 43;(with_reducible refine (HKE.o _ (by repeat (first | with_reducible exact ygr _ _ | with_reducible refine zjb ?_ rfl _ | with_reducible refine Below.drew ?_))).mono ?_);rintro e5 w5 ⟨rfl,b5,x5⟩;obtain⟨r0,r1,r2,r3,r4,r5,r6,r7⟩:=x5.cell;have hl5:w3.heap.size<w5.heap.size:=x5.lt;clear x5))
  all_goals
   go_wp2;go_meet;have hs5:=b5.size;simp only[yh0,yio] at hs5;apply ygb
   case h0=>repeat (first | with_reducible exact zao _ _ _ _ yku | with_reducible refine zb3 _ ?_ | with_reducible refine zbk ?_ | with_reducible refine zfv b5 ?_)
   case h1=>repeat (first | with_reducible exact zao _ _ _ _ yku | with_reducible refine zb3 _ ?_ | with_reducible refine zbk ?_ | with_reducible refine zfv b5 ?_)
   case h2=>repeat (first | with_reducible exact zao _ _ _ _ yku | with_reducible refine zb3 _ ?_ | with_reducible refine zbk ?_ | with_reducible refine zfv b5 ?_)
   case h3=>repeat (first | with_reducible exact zao _ _ _ _ yku | with_reducible refine zb3 _ ?_ | with_reducible refine zbk ?_ | with_reducible refine zfv b5 ?_)
   case h4=>repeat (first | with_reducible exact ygr _ _ | with_reducible refine zjb ?_ rfl _ | with_reducible refine Below.drew ?_ | with_reducible refine gro ?_ b5)
   case h5 =>
    try simp only[yh0,yio]
    refine⟨?_,?_,?_,?_⟩ <;> omega
 case rest =>
  obtain⟨ga,gs,gm,gf,rfl,o0,o1,o2,o3,bc,hle⟩:=hcut;have hww:=HB4.o.size;obtain⟨hD,hBo,hnQ⟩:=yah (C:=w.heap.size) h256 o1 HM.o.1 o2 HM.o.2.1 o3 HM.o.2.2 o0 yjz yjz yjz yjz;have hbf:=HBF.o.stays bc;have HD:=Zh hD;have HBO:=Zh hBo;have HNQ:=Zh hnQ;have HBC:=Zh bc;have HBF2:=Zh hbf;have HTC:=Zh ((HT4.o.weak (ok':=fun b=>b<w4.heap.size) fun b _ hb=>hb).stays bc);have HLE:=Zh hle;have HPL:=Zh HSAME.o.1;obtain⟨c0,c1,c2,c3,c4,c5,c6,c7⟩:=hbf.cell;have hFW:=ybi (a:=0) HFT.o HTC.o (fun b hb q=>by rcases q with q | q | q <;> omega) (by have:=HSAME.o.1;omega) h256 HD.o (by have:=bc.size;omega) (fun q=>by
   have:(start z).follow.getD q []=[]:=by simp[start,ygq,yip];split <;> rfl
   rw[this,HSAME.o.1];have:=yjf h256 h256;simp;omega)
  unfold zas zm9 at hFW;rw[show ((0:Nat):Int)=0 from rfl] at hFW;have HFW:=Zh hFW;clear o0 o1 o2 o3 hD hBo hnQ bc hle hbf hFW c0' c1' c2' c3' c4' c5' c6' c7';go_wp2_with (first
   | (go_at_call 44;(with_reducible refine HFW.o.mono ?_);rintro e6 w6 ⟨rfl,Q6,D6,K6,q6⟩;have HD6:=Zh D6;have HK6:=Zh K6;have HQ6:=Zh q6;clear D6 K6 q6)
   | fail)
  have hgrow:∀ q,((folL fl 0 (start z)).follow.getD q []).length<=70000:=fun q=>by
   have h1:=zxy fl 0 (start z) q;have h2:(start z).follow.getD q []=[]:=by simp[start,ygq,yip];split <;> rfl
   rw[h2,HPL.o] at h1;have:=yjf h256 h256;rw[yj5] at h1;omega
  have hflen:(folL fl 0 (start z)).follow.length=z:=HD6.o.nf;have HSETS:=Zh HSAME.o.2.1;have HFOL:=Zh HSAME.o.2.2.1;generalize folL fl 0 (start z)=s1 at *;have HGR:=Zh hgrow;have HFLN:=Zh hflen;have hs6:=HK6.o.size;have hfa:ga≠gf:=(by obtain⟨-,⟨c2,k2⟩⟩:=HD6.o.kinds;exact za0 HD6.o.box k2 yk6);clear hgrow hflen c0 c1 c2 c3 c4 c5 c6 c7;go_loopg [7] z (fun m i wr=>∃ (p:Nat) (Qp:Nat->Prop),i = .int .i64 (p:Int)∧p<=z∧m=z-p∧NfaD wr w.heap.size ga gs gf z (.slice (some ⟨gm,0,none⟩) z z) (zau fl) ⟨s1.sets,(s1.follow.take p).map (fun l=>zcr l 300)++s1.follow.drop p⟩ Qp∧Kept Q6 w6 wr∧∀ b,Qp b->Q6 b∨w6.heap.size<=b)
  case atStart=>exact⟨0,Q6,by first | rfl | trivial,ygy _,rfl,by simpa using HD6.o,Kept.refl _ _,fun b h => .inl h⟩
  case round =>
   obtain⟨p,Qp,rfl,hp,hmp,hDp,hKp,hQp⟩:=hrel;have HMP:=Zh hmp;have HDP:=Zh hDp;have HKP:=Zh hKp;have HQP:=Zh hQp;clear hmp hDp hKp hQp
   by_cases hpz:p<z
   .have cga:=HDP.o.cell.2;obtain⟨vp,cgf,fgf,hlist,hvp,-⟩:=HDP.o.open p hpz;have hpl:p<s1.follow.length:=(by rw[HFLN.o];exact hpz);have hget:((s1.follow.take p).map (fun l=>zcr l 300)++s1.follow.drop p).getD p []=s1.follow.getD p []:=by
     rw[ygq,ygq,ygx yk8];simp[Nat.min_eq_left (yix hpl)]
    rw[hget] at hlist;have hset:((s1.follow.take p).map (fun l=>zcr l 300)++s1.follow.drop p).set p (zcr (s1.follow.getD p []) 300)=(s1.follow.take (p+1)).map (fun l=>zcr l 300)++s1.follow.drop (p+1):=by
     have e1:s1.follow.drop p=s1.follow[p]'hpl::s1.follow.drop (p+1):=yhc hpl;have e2:s1.follow.getD p []=s1.follow[p]'hpl:=(by simp[ygq,ygn hpl]);have e3:((s1.follow.take p).map (fun l=>zcr l 300)).length=p:=yk8;rw[e2,e1,yjl _ _ yjz,e3,yi3,List.set_cons_zero,yh2 hpl,yhl];simp
    obtain⟨Av,nv,mv,hfv⟩:=hlist.form3;subst hfv;have HK:=Zh (zra (w:=wr.drew) hlist (ygw (HGR.o p) yjz));unfold zff at HK;have hgal:=(HDP.o.ge _ HDP.o.aQ).2;have hgfl:=(HDP.o.ge _ HDP.o.fQ).2;have p1':p+1<=z:=hpz;have p0:(0:Int)<=(p:Int):=yjz;have p1:(p:Int)<(z:Int):=yjz;have HSET:=Zh hset;clear hlist hvp hget hset;go_upto_region 10 with fail
    go_region_law (first
     | (go_simp;go_at_call 45;(with_reducible refine HK.o.mono ?_);rintro e7 w7 ⟨v7,rfl,i7,b7⟩;obtain⟨A7,n7,m7,rfl⟩:=i7.form3;have D7:=HDP.o.stays (zd5 b7);have cga7:=D7.cell.2;have fgf7:w7.frozen? ⟨gf,p,none⟩=false:=(yji ((zd5 b7).block gf hgfl)).trans fgf;have cgf7:w7.cell? ⟨gf,p,none⟩=some (.slice Av nv mv):=(yhs ((zd5 b7).block gf hgfl)).trans cgf;have HD7:=Zh D7;have HI7:=Zh i7;have HB7:=Zh (zd5 b7);clear D7 i7 b7)
     | fail)
    all_goals
     go_wp2;go_roundg (z-(p+1))
     case measure=>have:=HMP.o;omega
     case rel =>
      have hwr:w.heap.size<=wr.heap.size:=(by have:=HKP.o.size;have:=hs6;have:=HBC.o.size;have:=HB4.o.size;omega);have hi:Ints w7 w.heap.size (.slice A7 n7 m7) (ns (zcr (s1.follow.getD p []) 300)):=HI7.o.low hwr;have hn:∀ b,(Value.slice A7 n7 m7).ownBlock=some b->¬ Qp b:=fun b e q=>by have h1:=(HI7.o.in e).1;have h2:=(HDP.o.ge b q).2;simp only[yio] at h1;omega
      have hD:=HD7.o.setF p p1' hi hn;have hlow:∀ b,(Value.slice A7 n7 m7).ownBlock=some b->wr.heap.size<=b:=fun b e=>by have h1:=(HI7.o.in e).1;simpa only [yio] using h1
      have hk:=(HKP.o.trans (Kept.of_below Qp HB7.o) HQP.o).setCell (a:=⟨gf,p,none⟩) ((HQP.o gf HDP.o.fQ).imp id fun h=>h) (.slice A7 n7 m7);refine⟨p+1,fun b=>Qp b∨(Value.slice A7 n7 m7).ownBlock=some b,by go_num,p1',rfl,?_,hk,fun b h=>h.elim (HQP.o b) fun e => .inr (ygw HKP.o.size (hlow b e))⟩;rw[←HSET.o];exact hD
   .have hpz':p=z:=yjz;subst hpz';have hD:=HDP.o;have e1:s1.follow.take p=s1.follow:=yhg (by rw[HFLN.o];exact ygo _);have e2:s1.follow.drop p=[]:=List.drop_of_length_le (by rw[HFLN.o];exact ygo _);rw[e1,e2,yht,HFOL.o,HSETS.o] at hD;have HDD:=Zh hD;clear hD e1 e2;have hbox:BoxG wr ga (.slice (some ⟨gs,0,none⟩) p p) (.slice none 0 0) (.slice (some ⟨gm,0,none⟩) p p) (.slice (some ⟨gf,0,none⟩) p p) (zau fl):=HDD.o.box;have hnotQ:∀ b,b<w4.heap.size∨b=gm->¬ Q6 b:=fun b hb q=>by
     rcases HQ6.o b q with q|q
     .rcases hb with hb|hb
      .have:=HLE.o;rcases q with q|q|q <;> omega
      .subst hb;exact HNQ.o q
     .have h1:=HBC.o.size;rcases hb with hb|hb
      .omega
      .have:=HBO.o.in.2;omega
    have kw:Kept (fun b=>b=ga∨b=gs∨b=gf) wc wr:=HK6.o.trans HKP.o HQ6.o;have hq4:∀ b,b<w4.heap.size->¬ (b=ga∨b=gs∨b=gf):=fun b hb q=>by have:=HLE.o;rcases q with q|q|q <;> omega
    have hbf:Box8 wr w3.heap.size fl (.slice A3 n3 m3):=(kw.block _ HBF2.o.lt (hq4 _ hfl4)).trans HBF2.o;have hbo:Bools wr w.heap.size gm p (fun _=>false):=HBO.o.off kw HNQ.o;have htc:Tree wr (fun b=>b<w4.heap.size) fl (.slice A3 n3 m3):=HTC.o.mono fun b h1 h2 _=>⟨kw.block b h2 (hq4 b h1),h1⟩
    have hrl:w.heap.size+1<w4.heap.size:=za1 HR4.o;have hr4:BoxG wr (w.heap.size+1) (.slice none 0 0) (.slice none 0 0) (.slice none 0 0) (.slice none 0 0) false:=(kw.block _ (by have:=HBC.o.size;omega) (hq4 _ hrl)).trans (zfv HBC.o HR4.o);have hbw:Below w.heap.size w wr:=(gro HB4.o HBC.o).trans (kw.below (by have:=HBC.o.size;omega) (fun b q=>by have:=HLE.o;rcases q with q | q | q <;> omega));have hpl0:0+plT fl<=256:=ykv;have HE1:=Zh (fun w' (hb:Below wr.heap.size wr w')=>zn7 (w:=w') (b:=false) HFT.o (htc.stays hb) hpl0);have HE2:=Zh (fun w' (hk:Kept (fun b=>b=ga) wr w')=>zn7 (w:=w') (b:=true) (a:=0) HFT.o (htc.mono (w':=w') (ok':=fun b=>b<w4.heap.size) fun b h1 h2 _=>⟨hk.block b h2 (fun e=>by have:=HLE.o;omega),h1⟩) hpl0);unfold zas zff zeb at HE1 HE2;rw[show ((0:Nat):Int)=0 from rfl] at HE1 HE2;simp only[yi0,if_false] at HE1;simp only[if_true] at HE2;have HBOX:=Zh hbox;have HBF3:=Zh hbf;have HBO3:=Zh hbo;have HTC3:=Zh htc;have HR5:=Zh hr4;have HBW:=Zh hbw;have HNQ4:=Zh hnotQ;obtain⟨c0,c1,c2,c3,c4,c5,c6,c7⟩:=hbf.cell;obtain⟨b0,b1,b2,b3,b4⟩:=hbox.cell;have hgal:ga<wr.heap.size:=za1 hbox;have hfl5:w3.heap.size<wr.heap.size:=hbf.lt;clear hbox hbf hbo htc hr4 hbw hnotQ kw hq4;have hne3:w3.heap.size≠ga:=(by have:=HLE.o;omega);have hne3':ga≠w3.heap.size:=fun e=>hne3 e.symm
    have hlf:(fstT fl 0).length<=100000:=(by have:=zih fl 0;omega);go_wp2_with (first
     | (go_at_call 46;(with_reducible refine (HE1.o wr (ygr _ _)).mono ?_);rintro e7 w7 ⟨v7,rfl,i7,b7⟩;have HI7:=Zh i7;have HB7:=Zh b7;clear i7 b7)
     | (go_at_call 45;(with_reducible refine (zra HI7.o hlf).mono ?_);rintro e8 w8 ⟨v8,rfl,i8,b8⟩;obtain⟨A8,n8,m8,rfl⟩:=i8.form3;have HI8:=Zh i8;have hb8:=gro HB7.o b8;have HB8:=Zh hb8;have hbx:=HBOX.o.stays hb8;obtain⟨x0,x1,x2,x3,x4⟩:=hbx.cell;obtain⟨y0,y1,y2,y3,y4⟩:=hbx.frozen;obtain⟨d0,d1,d2,d3,d4,d5,d6,d7⟩:=(HBF3.o.stays hb8).cell;have HBX8:=Zh hbx;have HK8:=Zh (((Kept.of_below (fun b=>b=ga) hb8)).setCell (a:=⟨ga,1,none⟩) (.inl rfl) (.slice A8 n8 m8));clear i8 b8 hb8 hbx)
     | (go_at_call 46;(with_reducible refine (HE2.o _ HK8.o).mono ?_);rintro e9 w9 ⟨v9,rfl,i9,b9⟩;have HI9:=Zh i9;have HB9:=Zh b9;obtain⟨A9,m9,hf9,-,-⟩:=i9.news;rw[za9] at hf9;subst hf9;clear i9 b9)
     | fail)
    have K9:Kept (fun b=>b=ga) wr w9:=HK8.o.trans (Kept.of_below (fun _=>False) HB9.o) fun b h=>h.elim
    have hgm:gm≠ga:=fun e=>HNQ.o (.inl e)
    have hbx9:BoxG w9 ga (.slice (some ⟨gs,0,none⟩) p p) (.slice A8 n8 m8) (.slice (some ⟨gm,0,none⟩) p p) (.slice (some ⟨gf,0,none⟩) p p) (zau fl):=(HBX8.o.put1 _).stays HB9.o;have hbo9:Bools w9 w.heap.size gm p (fun _=>false):=HBO3.o.off K9 hgm;have HK9:=Zh K9;have HBX9:=Zh hbx9;have HBO9:=Zh hbo9;have hlin:=fun q (h:q∈lstT fl 0)=>(zoo fl 0 q h).2
    rw[HPL.o,yhm] at hlin;have hll:=zi7 fl 0;rw[HPL.o] at hll;have hlst:=HSAME.o.2.2.2.2.1;have hfst:=HSAME.o.2.2.2.1;generalize hls:lstT fl 0=ls at *;rw[hfst] at HI8;have HLIN:=Zh hlin;have HLST:=Zh hlst;obtain⟨L,hL⟩:∃ L,ls.length=L:=⟨_,rfl⟩;have HL:=Zh hL;rw[hL] at hll;rw[hL];clear K9 hbx9 hbo9 hlin hlst hfst hL hls c0 c1 c2 c3 c4 c5 c6 c7 d0 d1 d2 d3 d4 d5 d6 d7 b0 b1 b2 b3 b4 x0 x1 x2 x3 x4 y0 y1 y2 y3 y4;go_loopg [9] L (fun m i wq=>∃ q:Nat,i = .int .i64 (q:Int)∧q<=L∧m=L-q∧Bools wq w.heap.size gm p (fun j=>(ls.take q).contains j)∧Kept (fun b=>b=gm) w9 wq)
    case atStart=>exact⟨0,by first | rfl | trivial,ygy _,rfl,HBO9.o.congr fun j _=>by simp,Kept.refl _ _⟩
    case round =>
     obtain⟨q,rfl,hq,hmq,hbq,hkq⟩:=hrel;have HMQ:=Zh hmq;have HBQ:=Zh hbq;have HKQ:=Zh hkq;have hbx:=HBX9.o.off hkq (fun e=>hgm e.symm);clear hmq hbq hkq
     by_cases hqL:q<L
     .have hql:q<ls.length:=(by rw[HL.o];exact hqL);have hva:∀ b,(Value.slice A9 ls.length m9).ownBlock=some b->¬ b=gm:=fun b e=>by
       obtain⟨cur,hc⟩:=HI9.o.kind e;obtain⟨cur',hc'⟩:=HBO9.o.kind;exact za0 hc hc' yk6
      obtain⟨g2,c2',e2,hC2,hg2,hcell⟩:=(HI9.o.off HKQ.o hva).at q (by rw[za9];exact hql);have hxn:=HLIN.o _ (yhb hql);have hce:(ns ls)[q]'(by rw[za9];exact hql)=((ls[q]'hql:Nat):Int):=(by simp[ns]);rw[hce] at hcell;have htk:=yh2 hql;obtain⟨x,hx⟩:∃ x,ls[q]'hql=x:=⟨_,rfl⟩;rw[hx] at hxn htk hcell;rw[za9] at e2;injection e2 with f1 f2 f3
      subst f1 f3;clear f2;have hcb:=HBQ.o.cell x hxn;have hfb:=HBQ.o.frozen x;have cga2:=hbx.cell.2.2.1;have p0:(0:Int)<=(x:Int):=yjz;have p1:(x:Int)<(p:Int):=yjz;have k0:(0:Int)<=(q:Int):=yjz;have k1:(q:Int)<(L:Int):=yjz;have HTK:=Zh htk;have HXN:=Zh hxn;have hql1:q+1<=L:=hqL;clear hva hce htk hx hbx hxn;go_upto_region 16 with fail
      go_region
      all_goals
       go_wp2;go_roundg (L-(q+1))
       case measure=>have:=HMQ.o;omega
       case rel =>
        refine⟨q+1,by go_num,hql1,rfl,(HBQ.o.set x HXN.o true).congr fun j hj=>?_,(HKQ.o.setCell (a:=⟨gm,x,none⟩) (.inl rfl) _).drew⟩;rw[HTK.o]
        by_cases e:j=x <;> simp[e]
     .have hqL':q=ls.length:=ykq;have hba:Bools wr w.heap.size gm p (fun j=>x0.last.contains j):=HBQ.o.congr fun j _=>by
       rw[hqL',yhn];exact HLST.o j
      have hR:BoxG wr (w.heap.size+1) (.slice none 0 0) (.slice none 0 0) (.slice none 0 0) (.slice none 0 0) false:=by
       have h1:=HR5.o.off HK9.o (fun e=>by have:=HLE.o;omega);exact h1.off HKQ.o (fun e=>by have:=HLE.o;omega)
      obtain⟨c0,c1,c2,c3,c4⟩:=hbx.cell;obtain⟨r0,r1,r2,r3,r4⟩:=hR.cell;obtain⟨f0,f1,f2,f3,f4⟩:=hR.frozen;have hrl2:w.heap.size+1<wr.heap.size:=za1 hR;have hgl2:ga<wr.heap.size:=za1 hbx;have hne4:w.heap.size+1≠ga:=(by have:=HLE.o;omega);have HBA:=Zh hba;have HRR:=Zh hR;have HQL:=Zh hqL';clear hba hR hbx hqL';go_wp2;have KF:Kept (fun b=>b=ga∨b=gm∨b=w.heap.size+1) w8 (((((wr.setCell ⟨w.heap.size+1,0,none⟩ (.slice (some ⟨gs,0,none⟩) p p)).setCell ⟨w.heap.size+1,1,none⟩ (.slice A8 n8 m8)).setCell ⟨w.heap.size+1,2,none⟩ (.slice (some ⟨gm,0,none⟩) p p)).setCell ⟨w.heap.size+1,3,none⟩ (.slice (some ⟨gf,0,none⟩) p p)).setCell ⟨w.heap.size+1,4,none⟩ (.bool (zau fl))):=
       (((((((((Kept.refl (fun b=>b=ga∨b=gm∨b=w.heap.size+1) w8).setCell (a:=⟨ga,1,none⟩) (.inl (.inl rfl)) (.slice A8 n8 m8)).trans (Kept.of_below (fun _=>False) HB9.o) fun b h=>h.elim).trans HKQ.o fun b h => .inl (.inr (.inl h))).setCell (a:=⟨w.heap.size+1,0,none⟩) (.inl (.inr (.inr rfl))) _).setCell (a:=⟨w.heap.size+1,1,none⟩) (.inl (.inr (.inr rfl))) _).setCell (a:=⟨w.heap.size+1,2,none⟩) (.inl (.inr (.inr rfl))) _).setCell (a:=⟨w.heap.size+1,3,none⟩) (.inl (.inr (.inr rfl))) _).setCell (a:=⟨w.heap.size+1,4,none⟩) (.inl (.inr (.inr rfl))) _)
      have KR:Kept (fun b=>b=w.heap.size+1) wr (((((wr.setCell ⟨w.heap.size+1,0,none⟩ (.slice (some ⟨gs,0,none⟩) p p)).setCell ⟨w.heap.size+1,1,none⟩ (.slice A8 n8 m8)).setCell ⟨w.heap.size+1,2,none⟩ (.slice (some ⟨gm,0,none⟩) p p)).setCell ⟨w.heap.size+1,3,none⟩ (.slice (some ⟨gf,0,none⟩) p p)).setCell ⟨w.heap.size+1,4,none⟩ (.bool (zau fl))):=
       ((((((Kept.refl (fun b=>b=w.heap.size+1) wr).setCell (a:=⟨w.heap.size+1,0,none⟩) (.inl rfl) _).setCell (a:=⟨w.heap.size+1,1,none⟩) (.inl rfl) _).setCell (a:=⟨w.heap.size+1,2,none⟩) (.inl rfl) _).setCell (a:=⟨w.heap.size+1,3,none⟩) (.inl rfl) _).setCell (a:=⟨w.heap.size+1,4,none⟩) (.inl rfl) _)
      have hbox8:=HBX8.o;have hbm8:=HBO3.o.stays HB8.o;have hrs8:=HR5.o.stays HB8.o;have hrow8:=HDD.o.rows.block fun b _ hb=>HB8.o.block b hb
      have hw8:w.heap.size<=w8.heap.size:=ygw HBW.o.size HB8.o.size;have hk8:∀ b,(b=ga∨b=gm∨b=w.heap.size+1)->b<w8.heap.size->∃ cur ty,w8.heap[b]?=some (.cells cur ty (0,0))∧ty≠64∧ty≠44∧ty≠3:=fun b hb _=>by
       rcases hb with hb|hb|hb
       .subst hb;exact⟨_,_,hbox8,by decide,by decide,by decide⟩
       .subst hb;obtain⟨cur,hc⟩:=hbm8.kind;exact⟨_,_,hc,by decide,by decide,by decide⟩
       .subst hb;exact⟨_,_,hrs8,by decide,by decide,by decide⟩
      have hrowF:=zvo hrow8 KF hk8;have hfirst:Ints _ w.heap.size (.slice A8 n8 m8) (ns x0.first):=(HI8.o.off KF fun b e q=>by
       obtain⟨cur,hc⟩:=HI8.o.kind e;obtain⟨cur',ty,hc',-,-,n3⟩:=hk8 b q (HI8.o.in e).2;exact za0 hc' hc n3 rfl).low (ygw HBW.o.size HB7.o.size)
      have hlastF:=HBA.o.off KR (fun e=>by have:=HLE.o;omega);have hszF:=HSAME.o.2.2.2.2.2;have hbelF:Below w.heap.size w _:=((Kept.of_below (fun b=>b=ga∨b=gm∨b=w.heap.size+1) (gro HBW.o HB8.o)).trans KF fun b h => .inl h).below (ygo _) fun b h=>by
       have:=HLE.o;have:=HB4.o.size;rcases h with h|h|h <;> omega
      refine ya0 (x:=2) (y:=3) (v := .bool true) rfl rfl rfl rfl (HRR.o.put _ _ _ _ _) ?_;refine⟨some ⟨gs,0,none⟩,p,p,A8,n8,m8,gm,some ⟨gf,0,none⟩,p,p,?_,⟨⟨_,hrowF⟩,hfirst,?_⟩,hbelF⟩
      .rw[hszF,HEMP.o]
      .rw[hszF];exact hlastF
end
end Go.Proofs.Ytipfgpfplakhiaa
