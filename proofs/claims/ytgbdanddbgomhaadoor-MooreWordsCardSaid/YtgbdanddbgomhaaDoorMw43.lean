import Derived.Test.YtgbdanddbgomhaaDoorMw37
import Derived.Test.YtgbdanddbgomhaaDoorMw39
import Derived.Test.YtgbdanddbgomhaaDoorMw40
set_option linter.unusedVariables false
set_option linter.unusedSimpArgs false
namespace Go.Proofs.YtgbdanddbgomhaaDoor
open Go Go.RowKit
section
attribute [local go_sem ↓] Go.wp_at_zero Go.wp_at_succ
attribute [local go_sem ↓] zeq
theorem zp7 (z:Nat):(madeCells (Value.agg #[.int .u64 0,.int .u64 0,.int .u64 0,.int .u64 0]).cells (z*4)).toList=setsC (List.replicate z noneP):=by
 apply List.ext_getElem?;intro j
 by_cases hj:j<z*4
 . have hd:j=j / 4*4+j % 4:=(by omega);have hlt:j / 4<(List.replicate z noneP).length:=(by rw[List.length_replicate];omega);have h1:=zbr (List.replicate z noneP) (j / 4) (j % 4) hlt (by omega);rw[←hd] at h1;rw[h1,List.getElem_replicate,za5];have h4:j % 4=0∨j % 4=1∨j % 4=2∨j % 4=3:=(by omega);simp only[madeCells,Value.cells,Array.toList_map,Array.toList_range,List.getElem?_map,List.getElem?_range hj,Option.map_some];have hs:(#[Value.int .u64 0,.int .u64 0,.int .u64 0,.int .u64 0]:Array Value).size=4:=rfl;rcases h4 with h|h|h|h <;> simp[h]
 . rw[List.getElem?_eq_none (by simp[madeCells];omega),List.getElem?_eq_none (by rw[zdh,List.length_replicate];omega)]
theorem znu (z:Nat):(madeCells (Value.slice none 0 0).cells (z*1)).toList=List.replicate z (Value.slice none 0 0):=by
 have:=toList_madeCells_one (Value.slice none 0 0) z;rw[Nat.mul_one];exact this
theorem zo5 (w:World) (B z:Nat) (Q:Nat->Prop):FolAt w B (List.replicate z (.slice none 0 0)) (List.replicate z []) Q:=by
 have hg:∀ (i:Nat) (v:Value),(List.replicate z (Value.slice none 0 0))[i]?=some v->v = .slice none 0 0:=fun i v h=>by
   rw[List.getElem?_replicate] at h;split at h
   . injection h with h;exact h.symm
   . cases h
 refine⟨by simp,fun i v l h1 h2=>?_,fun i v b h1 h2=>?_,fun i j v v' b h1 h2 h3 h4=>?_⟩
 . have:=hg i v h1;subst this;rw[List.getElem?_replicate] at h2;split at h2
   . injection h2 with h2
     subst h2;exact Ints.nil _ _
   . cases h2
 . have:=hg i v h1;subst this;cases h2
 . have:=hg i v h1;subst this;cases h3
theorem zt7 {W:World} {C ga gs gm gf z:Nat} {e:Bool} {M4 M1 MB:Array Value} (hz:z<=256) (hs:HasO W gs (.cells M4 26 (0,0))) (hM4:M4.toList=setsC (List.replicate z noneP)) (hf:HasO W gf (.cells M1 38 (0,0))) (hM1:M1.toList=List.replicate z (.slice none 0 0))
   (hm:HasO W gm (.cells MB 4 (0,0))) (hMB:MB.toList=boolsV z fun _=>false) (ha:HasO W ga (.cells #[.slice (some ⟨gs,0,none⟩) z z,.slice none 0 0,.slice (some ⟨gm,0,none⟩) z z,.slice (some ⟨gf,0,none⟩) z z,.bool e] 103 (0,0)))
   (g1:C<=gs) (g2:C<=gf) (g3:C<=gm) (g4:C<=ga):
   NfaD W C ga gs gf z (.slice (some ⟨gm,0,none⟩) z z) e (start z) (fun b=>b=ga∨b=gs∨b=gf)∧Bools W C gm z (fun _=>false)∧¬ (gm=ga∨gm=gs∨gm=gf):=by
 have s4:M4.size=z*4:=(by rw[←Array.length_toList,hM4,zdh,List.length_replicate]);have s1:M1.size=z*1:=(by rw[←Array.length_toList,hM1,List.length_replicate,Nat.mul_one]);have sB:MB.size=z*1:=(by rw[←Array.length_toList,hMB];simp[boolsV]);have hmax:z<=maxLen:=(by unfold maxLen;omega);refine⟨⟨fun b q=>?_,.inl rfl,ha,⟨?_,fun b e=>?_,⟨_,?_,zo5 _ _ _ _⟩,fun b e=>?_⟩,by simp[start],by simp[start]⟩,?_,?_⟩
 . have a1:=za0 hs;have a2:=za0 hf;have a3:=za0 ha;rcases q with q|q|q <;> subst q <;> omega
 . simp only[start,List.length_replicate];exact⟨by simp[zdh],.inr ⟨gs,z,M4,rfl,g1,hs,Nat.le_refl _,hmax,s4,by rw[←hM4];exact List.take_of_length_le (by rw[Array.length_toList];omega)⟩⟩
 . injection e with e;exact .inr (.inl e.symm)
 . simp only[start,List.length_replicate];exact⟨by simp,.inr ⟨gf,z,M1,rfl,g2,hf,Nat.le_refl _,hmax,s1,by rw[←hM1];exact List.take_of_length_le (by rw[Array.length_toList];omega)⟩⟩
 . injection e with e;exact .inr (.inr e.symm)
 . exact⟨by simp[boolsV],.inr ⟨gm,z,MB,rfl,g3,hm,Nat.le_refl _,hmax,sB,by rw[←hMB];exact List.take_of_length_le (by rw[Array.length_toList];omega)⟩⟩
 . rintro (q|q|q)
   . exact za1 hm ha (by decide) q
   . exact za1 hm hs (by decide) q
   . exact za1 hm hf (by decide) q
theorem Tryd.infoSetD:(Tryd.prog.info? 26).map (fun i=>(i.zero,i.size,i.bytes))=some (some (.agg #[.int .u64 0,.int .u64 0,.int .u64 0,.int .u64 0]),4,32):=by kernel_rfl
theorem Tryd.infoListD:(Tryd.prog.info? 38).map (fun i=>(i.zero,i.size,i.bytes))=some (some (.slice none 0 0),1,24):=by kernel_rfl
theorem zqk (z:Nat) (hz:z<=256):∃ M4 M1 MB:Array Value,M4.toList=setsC (List.replicate z noneP)∧M1.toList=List.replicate z (.slice none 0 0)∧MB.toList=boolsV z (fun _=>false)∧
   (∀ W:World,(Instr.makeSlice 37 (.int .i64 (z:Int)) (.int .i64 (z:Int))).run Tryd.prog W = .ok (.slice (some ⟨W.heap.size,0,none⟩) z z) (W.alloc (.cells M4 26)))∧
   (∀ W:World,(Instr.makeSlice 39 (.int .i64 (z:Int)) (.int .i64 (z:Int))).run Tryd.prog W = .ok (.slice (some ⟨W.heap.size,0,none⟩) z z) (W.alloc (.cells MB 4)))∧
   (∀ W:World,(Instr.makeSlice 40 (.int .i64 (z:Int)) (.int .i64 (z:Int))).run Tryd.prog W = .ok (.slice (some ⟨W.heap.size,0,none⟩) z z) (W.alloc (.cells M1 38))):=by
 obtain⟨i1,a1,a2,a3,a4⟩:=info_parts Tryd.infoSetD;obtain⟨i2,b1,b2,b3,b4⟩:=info_parts Tryd.infoBool;obtain⟨i3,d1,d2,d3,d4⟩:=info_parts Tryd.infoListD;refine⟨_,_,_,zp7 z,znu z,zoe z,fun W=>?_,fun W=>?_,fun W=>?_⟩
 . have:=run_make (P:=Tryd.prog) (w:=W) 37 26 i1 _ Tryd.underlying37 a1 a2 .i64 .i64 (z:Int) (z:Int) (by omega) (Int.le_refl _) (by rw[a4];omega) (by omega);rw[a3] at this
   simpa using this
 . have:=run_make (P:=Tryd.prog) (w:=W) 39 4 i2 _ Tryd.underlying39 b1 b2 .i64 .i64 (z:Int) (z:Int) (by omega) (Int.le_refl _) (by rw[b4];omega) (by omega);rw[b3] at this
   simpa using this
 . have:=run_make (P:=Tryd.prog) (w:=W) 40 38 i3 _ Tryd.underlying40 d1 d2 .i64 .i64 (z:Int) (z:Int) (by omega) (Int.le_refl _) (by rw[d4];omega) (by omega);rw[d3] at this
   simpa using this
theorem zx5 {w4 wx:World} {ga gs gm gf z:Nat} {e:Bool} {M4 M1 MB:Array Value}
   (h0:HasO wx ga (.cells #[.slice (some ⟨gs,0,none⟩) z z,.slice none 0 0,.slice (some ⟨gm,0,none⟩) z z,.slice (some ⟨gf,0,none⟩) z z,.bool e] 103 (0,0)))
   (h1:HasO wx gs (.cells M4 26 (0,0))) (h2:HasO wx gf (.cells M1 38 (0,0))) (h3:HasO wx gm (.cells MB 4 (0,0))) (h4:Below w4.heap.size w4 wx) (h5:w4.heap.size<=gs∧w4.heap.size<=gf∧w4.heap.size<=gm∧w4.heap.size<=ga):
   ∃ ga' gs gm gf,Value.pointer (some ⟨ga,0,none⟩) = .pointer (some ⟨ga',0,none⟩)∧HasO wx ga' (.cells #[.slice (some ⟨gs,0,none⟩) z z,.slice none 0 0,.slice (some ⟨gm,0,none⟩) z z,.slice (some ⟨gf,0,none⟩) z z,.bool e] 103 (0,0))∧
     HasO wx gs (.cells M4 26 (0,0))∧HasO wx gf (.cells M1 38 (0,0))∧HasO wx gm (.cells MB 4 (0,0))∧Below w4.heap.size w4 wx∧(w4.heap.size<=gs∧w4.heap.size<=gf∧w4.heap.size<=gm∧w4.heap.size<=ga'):=
 ⟨ga,gs,gm,gf,rfl,h0,h1,h2,h3,h4,h5⟩
theorem zpc {w w':World} {C:Nat} {vs vf:Value} {s:Lay} {Q Q':Nat->Prop} (h:RowsAt w C vs vf s Q) (hk:Kept Q' w w')
   (hq:∀ b,Q' b->b<w.heap.size->∃ cur ty,w.heap[b]?=some (.cells cur ty (0,0))∧ty≠26∧ty≠38∧ty≠3):RowsAt w' C vs vf s Q:=by
 have key:∀ (b:Nat) (cur:Array Value) (ty:TypeId),w.heap[b]?=some (.cells cur ty (0,0))->(ty=26∨ty=38∨ty=3)->w'.heap[b]?=w.heap[b]?:=fun b cur ty hb ht=>by
   refine hk.block b (za0 hb) fun q=>?_
   obtain⟨cur',ty',hb',n1,n2,n3⟩:=hq b q (za0 hb);have hne:ty'≠ty:=fun e=>by
     rcases ht with h|h|h
     . exact n1 (e.trans h)
     . exact n2 (e.trans h)
     . exact n3 (e.trans h)
   exact za1 hb' hb hne rfl
 obtain⟨fs,h1,h2⟩:=h.fols;refine⟨za3 h.sets fun b e hb=>?_,h.setsQ,⟨fs,za3 h1 fun b e hb=>?_,⟨h2.len,fun i v l e1 e2=>(h2.get i v l e1 e2).block fun b e3 hb=>?_,h2.inQ,h2.apart⟩⟩,h.folsQ⟩
 . obtain⟨cur,hc⟩:=zaa h.sets e;exact key b cur _ hc (.inl rfl)
 . obtain⟨cur,hc⟩:=zaa h1 e;exact key b cur _ hc (.inr (.inl rfl))
 . obtain⟨cur,hc⟩:=(h2.get i v l e1 e2).kind e3;exact key b cur _ hc (.inr (.inr rfl))
def BoxG (w:World) (g:Nat) (a b c d:Value) (e:Bool):Prop:=w.heap[g]?=some (.cells #[a,b,c,d,.bool e] 103 (0,0))
section
variable {w w':World} {g x y:Nat} {a b c d v:Value} {e:Bool}
theorem BoxG.cell (h:BoxG w g a b c d e):w.cell? ⟨g,0,none⟩=some a∧w.cell? ⟨g,1,none⟩=some b∧w.cell? ⟨g,2,none⟩=some c∧w.cell? ⟨g,3,none⟩=some d∧w.cell? ⟨g,4,none⟩=some (.bool e):=by
 unfold BoxG at h;refine⟨?_,?_,?_,?_,?_⟩ <;> exact cell_of_row w g _ _ 103 (0,0) h
theorem BoxG.frozen (h:BoxG w g a b c d e):w.frozen? ⟨g,0,none⟩=false∧w.frozen? ⟨g,1,none⟩=false∧w.frozen? ⟨g,2,none⟩=false∧w.frozen? ⟨g,3,none⟩=false∧w.frozen? ⟨g,4,none⟩=false:=by
 unfold BoxG at h;refine⟨?_,?_,?_,?_,?_⟩ <;> simp[World.frozen?,h]
theorem BoxG.off {Q:Nat->Prop} (h:BoxG w g a b c d e) (hk:Kept Q w w') (hq:¬ Q g):BoxG w' g a b c d e:=(hk.block g (za0 h) hq).trans h
theorem BoxG.stays (h:BoxG w g a b c d e) (hb:Below w.heap.size w w'):BoxG w' g a b c d e:=(hb.block g (za0 h)).trans h
theorem BoxG.put1 (h:BoxG w g a b c d e) (b':Value):BoxG (w.setCell ⟨g,1,none⟩ b') g a b' c d e:=by
 unfold BoxG at h ⊢;rw[heap_setCell_same w g 1 _ _ b' h];rfl
theorem BoxG.put (h:BoxG w g a b c d e) (a' b' c' d':Value) (e':Bool):BoxG (((((w.setCell ⟨g,0,none⟩ a').setCell ⟨g,1,none⟩ b').setCell ⟨g,2,none⟩ c').setCell ⟨g,3,none⟩ d').setCell ⟨g,4,none⟩ (.bool e')) g a' b' c' d' e':=by
 unfold BoxG at h ⊢;have h0:=heap_setCell_same w g 0 _ _ a' h;have h1:=heap_setCell_same _ g 1 _ _ b' h0;have h2:=heap_setCell_same _ g 2 _ _ c' h1;have h3:=heap_setCell_same _ g 3 _ _ d' h2;rw[heap_setCell_same _ g 4 _ _ (.bool e') h3];rfl
theorem ztg (h:BoxG w g a b c d e):(loadVar 103 ⟨g,0,none⟩).run Tryd.prog w = .ok (.agg #[a,b,c,d,.bool e]) w:=by
 obtain⟨c0,c1,c2,c3,c4⟩:=h.cell;have h1:(loadCells ⟨g,0,none⟩ 5).run Tryd.prog w = .ok #[a,b,c,d,.bool e] w:=run_loadCells w ⟨g,0,none⟩ 5 (fun j=>if j=0 then a else if j=1 then b else if j=2 then c else if j=3 then d else .bool e) (fun j hj=>by
   rw[Addr.add_lit,Nat.zero_add]
   match j,hj with
   | 0,_=>exact c0
   | 1,_=>exact c1
   | 2,_=>exact c2
   | 3,_=>exact c3
   | 4,_=>exact c4)
 have h2:(isAgg 103).run Tryd.prog w = .ok true w:=(by kernel_rfl);have h3:(sizeOf 103).run Tryd.prog w = .ok 5 w:=(by kernel_rfl);simp[loadVar,Sem.run_bind,h1,h2,h3]
theorem zsx {fn:Func} {R:Ending->World->Prop} {a0:Act} (hr:fn.results=#[.cell x 103,.tmp y]) (hx:a0.tmps.getD x undef = .pointer (some ⟨g,0,none⟩)) (hy:a0.tmps.getD y undef=v) (hd:a0.defers=[]) (h:BoxG w g a b c d e)
   (hR:R (.returned (.tuple #[.agg #[a,b,c,d,.bool e],v])) w):bodyPost Tryd.prog fn R .ret a0 w:=by
 refine bodyPost_ret ?_ hd hR;have e0:(#[ResultVar.cell x 103,.tmp y]:Array ResultVar)=[ResultVar.cell x 103,.tmp y].toArray:=rfl;rw[Array.getD_eq_getD_getElem?] at hx hy;unfold results;rw[hr,e0];simp[Sem.run_bind,hx,hy,ztg h,asAddr]
end
def RetBuildD (w:World) (s:Lay) (x:Str) (e:Ending) (w':World):Prop:=
 ∃ A1 m1 c1 A2 m2 c2 gm A3 m3 c3,e = .returned (.tuple #[.agg #[.slice A1 m1 c1,.slice A2 m2 c2,.slice (some ⟨gm,0,none⟩) s.sets.length s.sets.length,.slice A3 m3 c3,.bool x.empty],.bool true])∧
   NfaAt w' w.heap.size (.slice A1 m1 c1) (.slice A2 m2 c2) gm (.slice A3 m3 c3) s x∧Below w.heap.size w w'
set_option maxRecDepth 20000 in
set_option maxHeartbeats 4000000 in
theorem zu6 {t:T} {w:World} {ok:Nat->Prop} {k:Value} (hwf:WF t) (ht:Tree w ok t k) (h256:plR t<=256):Calls Tryd.prog 44 #[nodeP t k] w (RetBuildD w (lay0 t).1 (lay0 t).2):=by
 obtain⟨A,n,c,rfl⟩:=ht.form;obtain⟨hpl,hsets,hfol,hfst,hlst,hemp⟩:=zod hwf h256;obtain⟨z,hz⟩:∃ z,plR t=z:=⟨_,rfl⟩;have hzN:plN t=z:=(by have:=zpp hwf;omega);have hsz:(lay0 t).1.sets.length=z:=(by rw[←hsets,(zdx _ _ _).1,←hz];simp[start]);have b1:=(Box8.new w t (.slice A n c)).alloc (.cells #[.slice none 0 0,.slice none 0 0,.slice none 0 0,.slice none 0 0,.bool false] 103);have hB:Below w.heap.size w ((w.alloc (.cells #[.int .i64 t.op,.int .u64 (word t.set 0),.int .u64 (word t.set 1),.int .u64 (word t.set 2),.int .u64 (word t.set 3),.int .i64 t.lo,.int .i64 t.hi,.slice A n c] 29)).alloc (.cells #[.slice none 0 0,.slice none 0 0,.slice none 0 0,.slice none 0 0,.bool false] 103)):=
   ((Below.refl _ _).alloc (Nat.le_refl _) _).alloc (by simp) _
 have hR:HasO ((w.alloc (.cells #[.int .i64 t.op,.int .u64 (word t.set 0),.int .u64 (word t.set 1),.int .u64 (word t.set 2),.int .u64 (word t.set 3),.int .i64 t.lo,.int .i64 t.hi,.slice A n c] 29)).alloc (.cells #[.slice none 0 0,.slice none 0 0,.slice none 0 0,.slice none 0 0,.bool false] 103)) (w.heap.size+1) (.cells #[.slice none 0 0,.slice none 0 0,.slice none 0 0,.slice none 0 0,.bool false] 103 (0,0)):=zat _ _ _ _ (by simp);have HP:=Zh (zht _ hwf (ht.stays hB));have HFL:=Zh (fun w' (hb:Below w.heap.size w w')=>zwu (w:=w') hwf (ht.stays hb));have hft:=zra hwf;rw[hz] at hpl hsets hfol h256;generalize flatT t=fl at *;unfold nodeP RetInt at HP;unfold RetFlat at HFL;unfold nodeP;unfold nodeP at HFL;rw[hzN] at HP;obtain⟨s0,x0,e0⟩:∃ a b,lay0 t=(a,b):=⟨_,_,rfl⟩;rw[e0] at hsets hfol hfst hlst hemp hsz ⊢;simp only at hsets hfol hfst hlst hemp hsz ⊢;have HSAME:=Zh (And.intro hpl (And.intro hsets (And.intro hfol (And.intro hfst (And.intro hlst hsz)))));have HEMP:=Zh hemp;have HB:=Zh hB;have HR:=Zh hR;have HB1:=Zh b1;have HFT:=Zh hft;obtain⟨c0,c1,c2,c3,c4,c5,c6,c7⟩:=b1.cell;have hzl:¬ (256:Int)<(z:Int):=(by omega);obtain⟨M4,M1,MB,hM4,hM1,hMB,mk4,mkB,mk1⟩:=zqk z h256;have HM:=Zh (And.intro hM4 (And.intro hM1 hMB));clear hB hR b1 hft ht hwf hz hpl hsets hfol hfst hlst hemp hsz e0 hzN hM4 hM1 hMB;go_enter Tryd.func44,Tryd.ntmps44;go_wp2_with (first
   | (go_at_call 31;(with_reducible refine HP.out.mono ?_);rintro e2 w2 ⟨rfl,b2⟩;have hb2:=gro HB.out b2;have HB2:=Zh hb2;have hx2:=HB1.out.stays b2;obtain⟨d0,d1,d2,d3,d4,d5,d6,d7⟩:=hx2.cell;have HR2:=Zh (zah HR.out b2);clear hx2 b2 hb2)
   | (go_at_call 75;(with_reducible refine (HFL.out w2 HB2.out).mono ?_);rintro e3 w3 ⟨k3,rfl,t3,b3⟩;obtain⟨A3,n3,m3,rfl⟩:=t3.form;have HT3:=Zh t3;have HB3:=Zh (gro HB2.out b3);have HR3:=Zh (zah HR2.out b3);have hs3:=b3.size;clear t3 b3)
   | fail)
 have hbf:=Box8.new w3 fl (.slice A3 n3 m3);generalize hw4:w3.alloc (.cells #[.int .i64 fl.op,.int .u64 (word fl.set 0),.int .u64 (word fl.set 1),.int .u64 (word fl.set 2),.int .u64 (word fl.set 3),.int .i64 fl.lo,.int .i64 fl.hi,.slice A3 n3 m3] 29)=w4 at *;have hs4:w4.heap.size=w3.heap.size+1:=(by rw[←hw4];simp);have hB34:Below w3.heap.size w3 w4:=(by rw[←hw4];exact (Below.refl _ _).alloc (Nat.le_refl _) _);have HBF:=Zh hbf;have HB4:=Zh (gro HB3.out hB34);have HR4:=Zh (zah HR3.out hB34);have HT4:=Zh (HT3.out.stays hB34);have HKE:=Zh (fun w' (hb:Below w4.heap.size w4 w')=>(zkw (w:=w') HFT.out (HT4.out.stays hb)).mono fun e w'' ⟨h1,h2⟩=>(show _∧Below w'.heap.size w' w''∧Box8 w'' w3.heap.size fl (.slice A3 n3 m3) from⟨h1,h2,HBF.out.stays (gro hb h2)⟩));unfold nodeP at HKE;obtain⟨c0',c1',c2',c3',c4',c5',c6',c7'⟩:=hbf.cell;have hfl4:w3.heap.size<w4.heap.size:=(by omega);clear hw4 hbf hB34 HT3 HR3 HB3 HB2 HR2 HFL HP HB HR HB1 hs3 c0 c1 c2 c3 c4 c5 c6 c7 d0 d1 d2 d3 d4 d5 d6 d7;go_upto_region 5 with fail
 go_cut [6] from 17 to 26 (fun s6 wx=>∃ ga gs gm gf,s6 = .pointer (some ⟨ga,0,none⟩)∧HasO wx ga (.cells #[.slice (some ⟨gs,0,none⟩) z z,.slice none 0 0,.slice (some ⟨gm,0,none⟩) z z,.slice (some ⟨gf,0,none⟩) z z,.bool (emptyT fl)] 103 (0,0))∧
   HasO wx gs (.cells M4 26 (0,0))∧HasO wx gf (.cells M1 38 (0,0))∧HasO wx gm (.cells MB 4 (0,0))∧Below w4.heap.size w4 wx∧(w4.heap.size<=gs∧w4.heap.size<=gf∧w4.heap.size<=gm∧w4.heap.size<=ga))
 case first =>
   go_region_held3 (fun w'=>w'.cell? ⟨w3.heap.size,0,none⟩=some (.int .i64 fl.op)∧w'.cell? ⟨w3.heap.size,1,none⟩=some (.int .u64 (word fl.set 0))∧w'.cell? ⟨w3.heap.size,2,none⟩=some (.int .u64 (word fl.set 1))∧w'.cell? ⟨w3.heap.size,3,none⟩=some (.int .u64 (word fl.set 2))∧w'.cell? ⟨w3.heap.size,4,none⟩=some (.int .u64 (word fl.set 3))∧w'.cell? ⟨w3.heap.size,5,none⟩=some (.int .i64 fl.lo)∧w'.cell? ⟨w3.heap.size,6,none⟩=some (.int .i64 fl.hi)∧w'.cell? ⟨w3.heap.size,7,none⟩=some (.slice A3 n3 m3))
     (refine⟨?_,?_,?_,?_,?_,?_,?_,?_⟩ <;> (repeat (first | with_reducible assumption | with_reducible refine zaj ?_ | with_reducible refine zbe ?_ _))) (first
     | (go_at_call 76;(with_reducible refine (HKE.out _ (by repeat (first | with_reducible exact Below.refl _ _ | with_reducible refine zmz ?_ rfl _ | with_reducible refine Below.drew ?_))).mono ?_);rintro e5 w5 ⟨rfl,b5,x5⟩;obtain⟨r0,r1,r2,r3,r4,r5,r6,r7⟩:=x5.cell;have hl5:w3.heap.size<w5.heap.size:=x5.lt;clear x5))
   all_goals
     go_wp2;go_meet;have hs5:=b5.size;simp only[World.size_alloc,World.size_drew] at hs5;apply zx5
     case h0=>repeat (first | with_reducible exact zat _ _ _ _ (by first | omega | (simp only[World.size_alloc,World.size_drew] <;> omega)) | with_reducible refine zb1 _ ?_ | with_reducible refine zch ?_ | with_reducible refine zcr b5 ?_)
     case h1=>repeat (first | with_reducible exact zat _ _ _ _ (by first | omega | (simp only[World.size_alloc,World.size_drew] <;> omega)) | with_reducible refine zb1 _ ?_ | with_reducible refine zch ?_ | with_reducible refine zcr b5 ?_)
     case h2=>repeat (first | with_reducible exact zat _ _ _ _ (by first | omega | (simp only[World.size_alloc,World.size_drew] <;> omega)) | with_reducible refine zb1 _ ?_ | with_reducible refine zch ?_ | with_reducible refine zcr b5 ?_)
     case h3=>repeat (first | with_reducible exact zat _ _ _ _ (by first | omega | (simp only[World.size_alloc,World.size_drew] <;> omega)) | with_reducible refine zb1 _ ?_ | with_reducible refine zch ?_ | with_reducible refine zcr b5 ?_)
     case h4=>repeat (first | with_reducible exact Below.refl _ _ | with_reducible refine zmz ?_ rfl _ | with_reducible refine Below.drew ?_ | with_reducible refine gro ?_ b5)
     case h5 =>
       try simp only[World.size_alloc,World.size_drew]
       refine⟨?_,?_,?_,?_⟩ <;> omega
 case rest =>
   obtain⟨ga,gs,gm,gf,rfl,o0,o1,o2,o3,bc,hle⟩:=hcut;have hww:=HB4.out.size;obtain⟨hD,hBo,hnQ⟩:=zt7 (C:=w.heap.size) h256 o1 HM.out.1 o2 HM.out.2.1 o3 HM.out.2.2 o0 (by omega) (by omega) (by omega) (by omega);have hbf:=HBF.out.stays bc;have HD:=Zh hD;have HBO:=Zh hBo;have HNQ:=Zh hnQ;have HBC:=Zh bc;have HBF2:=Zh hbf;have HTC:=Zh ((HT4.out.weak (ok':=fun b=>b<w4.heap.size) fun b _ hb=>hb).stays bc);have HLE:=Zh hle;have HPL:=Zh HSAME.out.1;obtain⟨c0,c1,c2,c3,c4,c5,c6,c7⟩:=hbf.cell;have hFW:=ztu (a:=0) HFT.out HTC.out (fun b hb q=>by rcases q with q | q | q <;> omega) (by have:=HSAME.out.1;omega) h256 HD.out (by have:=bc.size;omega) (fun q=>by
     have:(start z).follow.getD q []=[]:=by simp[start,List.getD_eq_getElem?_getD,List.getElem?_replicate];split <;> rfl
     rw[this,HSAME.out.1];have:=Nat.mul_le_mul h256 h256;simp;omega)
   unfold nodeP RetFol at hFW;rw[show ((0:Nat):Int)=0 from rfl] at hFW;have HFW:=Zh hFW;clear o0 o1 o2 o3 hD hBo hnQ bc hle hbf hFW c0' c1' c2' c3' c4' c5' c6' c7';go_wp2_with (first
     | (go_at_call 77;(with_reducible refine HFW.out.mono ?_);rintro e6 w6 ⟨rfl,Q6,D6,K6,q6⟩;have HD6:=Zh D6;have HK6:=Zh K6;have HQ6:=Zh q6;clear D6 K6 q6)
     | fail)
   have hgrow:∀ q,((folL fl 0 (start z)).follow.getD q []).length<=70000:=fun q=>by
     have h1:=zrg fl 0 (start z) q;have h2:(start z).follow.getD q []=[]:=by simp[start,List.getD_eq_getElem?_getD,List.getElem?_replicate];split <;> rfl
     rw[h2,HPL.out] at h1;have:=Nat.mul_le_mul h256 h256;rw[List.length_nil] at h1;omega
   have hflen:(folL fl 0 (start z)).follow.length=z:=HD6.out.nf;have HSETS:=Zh HSAME.out.2.1;have HFOL:=Zh HSAME.out.2.2.1;generalize folL fl 0 (start z)=s1 at *;have HGR:=Zh hgrow;have HFLN:=Zh hflen;have hs6:=HK6.out.size;have hfa:ga≠gf:=(by obtain⟨-,⟨c2,k2⟩⟩:=HD6.out.kinds;exact za1 HD6.out.box k2 (by decide));clear hgrow hflen c0 c1 c2 c3 c4 c5 c6 c7;go_loopg [7] z (fun m i wr=>∃ (p:Nat) (Qp:Nat->Prop),i = .int .i64 (p:Int)∧p<=z∧m=z-p∧NfaD wr w.heap.size ga gs gf z (.slice (some ⟨gm,0,none⟩) z z) (emptyT fl) ⟨s1.sets,(s1.follow.take p).map (fun l=>sortN l 300)++s1.follow.drop p⟩ Qp∧Kept Q6 w6 wr∧∀ b,Qp b->Q6 b∨w6.heap.size<=b)
   case atStart=>exact⟨0,Q6,by first | rfl | trivial,Nat.zero_le _,rfl,by simpa using HD6.out,Kept.refl _ _,fun b h => .inl h⟩
   case round =>
     obtain⟨p,Qp,rfl,hp,hmp,hDp,hKp,hQp⟩:=hrel;have HMP:=Zh hmp;have HDP:=Zh hDp;have HKP:=Zh hKp;have HQP:=Zh hQp;clear hmp hDp hKp hQp
     by_cases hpz:p<z
     . have cga:=HDP.out.cell.2;obtain⟨vp,cgf,fgf,hlist,hvp,-⟩:=HDP.out.open p hpz;have hpl:p<s1.follow.length:=(by rw[HFLN.out];exact hpz);have hget:((s1.follow.take p).map (fun l=>sortN l 300)++s1.follow.drop p).getD p []=s1.follow.getD p []:=by
         rw[List.getD_eq_getElem?_getD,List.getD_eq_getElem?_getD,List.getElem?_append_right (by simp;omega)];simp[Nat.min_eq_left (Nat.le_of_lt hpl)]
       rw[hget] at hlist;have hset:((s1.follow.take p).map (fun l=>sortN l 300)++s1.follow.drop p).set p (sortN (s1.follow.getD p []) 300)=(s1.follow.take (p+1)).map (fun l=>sortN l 300)++s1.follow.drop (p+1):=by
         have e1:s1.follow.drop p=s1.follow[p]'hpl::s1.follow.drop (p+1):=List.drop_eq_getElem_cons hpl;have e2:s1.follow.getD p []=s1.follow[p]'hpl:=(by simp[List.getD_eq_getElem?_getD,List.getElem?_eq_getElem hpl]);have e3:((s1.follow.take p).map (fun l=>sortN l 300)).length=p:=(by simp;omega);rw[e2,e1,List.set_append_right _ _ (by omega),e3,Nat.sub_self,List.set_cons_zero,List.take_succ_eq_append_getElem hpl,List.map_append];simp
       obtain⟨Av,nv,mv,hfv⟩:=hlist.form3;subst hfv;have HK:=Zh (zle (w:=wr.drew) hlist (Nat.le_trans (HGR.out p) (by omega)));unfold RetEndF at HK;have hgal:=(HDP.out.ge _ HDP.out.aQ).2;have hgfl:=(HDP.out.ge _ HDP.out.fQ).2;have p1':p+1<=z:=hpz;have p0:(0:Int)<=(p:Int):=(by omega);have p1:(p:Int)<(z:Int):=(by omega);have HSET:=Zh hset;clear hlist hvp hget hset;go_upto_region 10 with fail
       go_region_law (first
         | (go_simp;go_at_call 78;(with_reducible refine HK.out.mono ?_);rintro e7 w7 ⟨v7,rfl,i7,b7⟩;obtain⟨A7,n7,m7,rfl⟩:=i7.form3;have D7:=HDP.out.stays (zay b7);have cga7:=D7.cell.2;have fgf7:w7.frozen? ⟨gf,p,none⟩=false:=(World.frozen?_of_block ((zay b7).block gf hgfl)).trans fgf;have cgf7:w7.cell? ⟨gf,p,none⟩=some (.slice Av nv mv):=(World.cell?_of_block ((zay b7).block gf hgfl)).trans cgf;have HD7:=Zh D7;have HI7:=Zh i7;have HB7:=Zh (zay b7);clear D7 i7 b7)
         | fail)
       all_goals
         go_wp2;go_roundg (z-(p+1))
         case measure=>have:=HMP.out;omega
         case rel =>
           have hwr:w.heap.size<=wr.heap.size:=(by have:=HKP.out.size;have:=hs6;have:=HBC.out.size;have:=HB4.out.size;omega);have hi:Ints w7 w.heap.size (.slice A7 n7 m7) (ns (sortN (s1.follow.getD p []) 300)):=HI7.out.low hwr;have hn:∀ b,(Value.slice A7 n7 m7).ownBlock=some b->¬ Qp b:=fun b e q=>by have h1:=(HI7.out.in e).1;have h2:=(HDP.out.ge b q).2;simp only[World.size_drew] at h1;omega
           have hD:=HD7.out.setF p p1' hi hn;have hlow:∀ b,(Value.slice A7 n7 m7).ownBlock=some b->wr.heap.size<=b:=fun b e=>by have h1:=(HI7.out.in e).1;simpa only [World.size_drew] using h1
           have hk:=(HKP.out.trans (Kept.of_below Qp HB7.out) HQP.out).setCell (a:=⟨gf,p,none⟩) ((HQP.out gf HDP.out.fQ).imp id fun h=>h) (.slice A7 n7 m7);refine⟨p+1,fun b=>Qp b∨(Value.slice A7 n7 m7).ownBlock=some b,by go_num,p1',rfl,?_,hk,fun b h=>h.elim (HQP.out b) fun e => .inr (Nat.le_trans HKP.out.size (hlow b e))⟩;rw[←HSET.out];exact hD
     . have hpz':p=z:=(by omega);subst hpz';have hD:=HDP.out;have e1:s1.follow.take p=s1.follow:=List.take_of_length_le (by rw[HFLN.out];exact Nat.le_refl _);have e2:s1.follow.drop p=[]:=List.drop_of_length_le (by rw[HFLN.out];exact Nat.le_refl _);rw[e1,e2,List.append_nil,HFOL.out,HSETS.out] at hD;have HDD:=Zh hD;clear hD e1 e2;have hbox:BoxG wr ga (.slice (some ⟨gs,0,none⟩) p p) (.slice none 0 0) (.slice (some ⟨gm,0,none⟩) p p) (.slice (some ⟨gf,0,none⟩) p p) (emptyT fl):=HDD.out.box;have hnotQ:∀ b,b<w4.heap.size∨b=gm->¬ Q6 b:=fun b hb q=>by
         rcases HQ6.out b q with q|q
         . rcases hb with hb|hb
           . have:=HLE.out;rcases q with q|q|q <;> omega
           . subst hb;exact HNQ.out q
         . have h1:=HBC.out.size;rcases hb with hb|hb
           . omega
           . have:=HBO.out.in.2;omega
       have kw:Kept (fun b=>b=ga∨b=gs∨b=gf) wc wr:=HK6.out.trans HKP.out HQ6.out;have hq4:∀ b,b<w4.heap.size->¬ (b=ga∨b=gs∨b=gf):=fun b hb q=>by have:=HLE.out;rcases q with q|q|q <;> omega
       have hbf:Box8 wr w3.heap.size fl (.slice A3 n3 m3):=(kw.block _ HBF2.out.lt (hq4 _ hfl4)).trans HBF2.out;have hbo:Bools wr w.heap.size gm p (fun _=>false):=HBO.out.off kw HNQ.out;have htc:Tree wr (fun b=>b<w4.heap.size) fl (.slice A3 n3 m3):=HTC.out.mono fun b h1 h2 _=>⟨kw.block b h2 (hq4 b h1),h1⟩
       have hrl:w.heap.size+1<w4.heap.size:=za0 HR4.out;have hr4:BoxG wr (w.heap.size+1) (.slice none 0 0) (.slice none 0 0) (.slice none 0 0) (.slice none 0 0) false:=(kw.block _ (by have:=HBC.out.size;omega) (hq4 _ hrl)).trans (zcr HBC.out HR4.out);have hbw:Below w.heap.size w wr:=(gro HB4.out HBC.out).trans (kw.below (by have:=HBC.out.size;omega) (fun b q=>by have:=HLE.out;rcases q with q | q | q <;> omega));have hpl0:0+plT fl<=256:=(by have:=HPL.out;omega);have HE1:=Zh (fun w' (hb:Below wr.heap.size wr w')=>zib (w:=w') (b:=false) HFT.out (htc.stays hb) hpl0);have HE2:=Zh (fun w' (hk:Kept (fun b=>b=ga) wr w')=>zib (w:=w') (b:=true) (a:=0) HFT.out (htc.mono (w':=w') (ok':=fun b=>b<w4.heap.size) fun b h1 h2 _=>⟨hk.block b h2 (fun e=>by have:=HLE.out;omega),h1⟩) hpl0);unfold nodeP RetEndF lasts at HE1 HE2;rw[show ((0:Nat):Int)=0 from rfl] at HE1 HE2;simp only[Bool.false_eq_true,if_false] at HE1;simp only[if_true] at HE2;have HBOX:=Zh hbox;have HBF3:=Zh hbf;have HBO3:=Zh hbo;have HTC3:=Zh htc;have HR5:=Zh hr4;have HBW:=Zh hbw;have HNQ4:=Zh hnotQ;obtain⟨c0,c1,c2,c3,c4,c5,c6,c7⟩:=hbf.cell;obtain⟨b0,b1,b2,b3,b4⟩:=hbox.cell;have hgal:ga<wr.heap.size:=za0 hbox;have hfl5:w3.heap.size<wr.heap.size:=hbf.lt;clear hbox hbf hbo htc hr4 hbw hnotQ kw hq4;have hne3:w3.heap.size≠ga:=(by have:=HLE.out;omega);have hne3':ga≠w3.heap.size:=fun e=>hne3 e.symm
       have hlf:(fstT fl 0).length<=100000:=(by have:=zeg fl 0;omega);go_wp2_with (first
         | (go_at_call 79;(with_reducible refine (HE1.out wr (Below.refl _ _)).mono ?_);rintro e7 w7 ⟨v7,rfl,i7,b7⟩;have HI7:=Zh i7;have HB7:=Zh b7;clear i7 b7)
         | (go_at_call 78;(with_reducible refine (zle HI7.out hlf).mono ?_);rintro e8 w8 ⟨v8,rfl,i8,b8⟩;obtain⟨A8,n8,m8,rfl⟩:=i8.form3;have HI8:=Zh i8;have hb8:=gro HB7.out b8;have HB8:=Zh hb8;have hbx:=HBOX.out.stays hb8;obtain⟨x0,x1,x2,x3,x4⟩:=hbx.cell;obtain⟨y0,y1,y2,y3,y4⟩:=hbx.frozen;obtain⟨d0,d1,d2,d3,d4,d5,d6,d7⟩:=(HBF3.out.stays hb8).cell;have HBX8:=Zh hbx;have HK8:=Zh (((Kept.of_below (fun b=>b=ga) hb8)).setCell (a:=⟨ga,1,none⟩) (.inl rfl) (.slice A8 n8 m8));clear i8 b8 hb8 hbx)
         | (go_at_call 79;(with_reducible refine (HE2.out _ HK8.out).mono ?_);rintro e9 w9 ⟨v9,rfl,i9,b9⟩;have HI9:=Zh i9;have HB9:=Zh b9;obtain⟨A9,m9,hf9,-,-⟩:=i9.news;rw[za9] at hf9;subst hf9;clear i9 b9)
         | fail)
       have K9:Kept (fun b=>b=ga) wr w9:=HK8.out.trans (Kept.of_below (fun _=>False) HB9.out) fun b h=>h.elim
       have hgm:gm≠ga:=fun e=>HNQ.out (.inl e)
       have hbx9:BoxG w9 ga (.slice (some ⟨gs,0,none⟩) p p) (.slice A8 n8 m8) (.slice (some ⟨gm,0,none⟩) p p) (.slice (some ⟨gf,0,none⟩) p p) (emptyT fl):=(HBX8.out.put1 _).stays HB9.out;have hbo9:Bools w9 w.heap.size gm p (fun _=>false):=HBO3.out.off K9 hgm;have HK9:=Zh K9;have HBX9:=Zh hbx9;have HBO9:=Zh hbo9;have hlin:=fun q (h:q∈lstT fl 0)=>(zjc fl 0 q h).2
       rw[HPL.out,Nat.zero_add] at hlin;have hll:=ze9 fl 0;rw[HPL.out] at hll;have hlst:=HSAME.out.2.2.2.2.1;have hfst:=HSAME.out.2.2.2.1;generalize hls:lstT fl 0=ls at *;rw[hfst] at HI8;have HLIN:=Zh hlin;have HLST:=Zh hlst;obtain⟨L,hL⟩:∃ L,ls.length=L:=⟨_,rfl⟩;have HL:=Zh hL;rw[hL] at hll;rw[hL];clear K9 hbx9 hbo9 hlin hlst hfst hL hls c0 c1 c2 c3 c4 c5 c6 c7 d0 d1 d2 d3 d4 d5 d6 d7 b0 b1 b2 b3 b4 x0 x1 x2 x3 x4 y0 y1 y2 y3 y4;go_loopg [9] L (fun m i wq=>∃ q:Nat,i = .int .i64 (q:Int)∧q<=L∧m=L-q∧Bools wq w.heap.size gm p (fun j=>(ls.take q).contains j)∧Kept (fun b=>b=gm) w9 wq)
       case atStart=>exact⟨0,by first | rfl | trivial,Nat.zero_le _,rfl,HBO9.out.congr fun j _=>by simp,Kept.refl _ _⟩
       case round =>
         obtain⟨q,rfl,hq,hmq,hbq,hkq⟩:=hrel;have HMQ:=Zh hmq;have HBQ:=Zh hbq;have HKQ:=Zh hkq;have hbx:=HBX9.out.off hkq (fun e=>hgm e.symm);clear hmq hbq hkq
         by_cases hqL:q<L
         . have hql:q<ls.length:=(by rw[HL.out];exact hqL);have hva:∀ b,(Value.slice A9 ls.length m9).ownBlock=some b->¬ b=gm:=fun b e=>by
             obtain⟨cur,hc⟩:=HI9.out.kind e;obtain⟨cur',hc'⟩:=HBO9.out.kind;exact za1 hc hc' (by decide)
           obtain⟨g2,c2',e2,hC2,hg2,hcell⟩:=(HI9.out.off HKQ.out hva).at q (by rw[za9];exact hql);have hxn:=HLIN.out _ (List.getElem_mem hql);have hce:(ns ls)[q]'(by rw[za9];exact hql)=((ls[q]'hql:Nat):Int):=(by simp[ns]);rw[hce] at hcell;have htk:=List.take_succ_eq_append_getElem hql;obtain⟨x,hx⟩:∃ x,ls[q]'hql=x:=⟨_,rfl⟩;rw[hx] at hxn htk hcell;rw[za9] at e2;injection e2 with f1 f2 f3
           subst f1 f3;clear f2;have hcb:=HBQ.out.cell x hxn;have hfb:=HBQ.out.frozen x;have cga2:=hbx.cell.2.2.1;have p0:(0:Int)<=(x:Int):=(by omega);have p1:(x:Int)<(p:Int):=(by omega);have k0:(0:Int)<=(q:Int):=(by omega);have k1:(q:Int)<(L:Int):=(by omega);have HTK:=Zh htk;have HXN:=Zh hxn;have hql1:q+1<=L:=hqL;clear hva hce htk hx hbx hxn;go_upto_region 16 with fail
           go_region
           all_goals
             go_wp2;go_roundg (L-(q+1))
             case measure=>have:=HMQ.out;omega
             case rel =>
               refine⟨q+1,by go_num,hql1,rfl,(HBQ.out.set x HXN.out true).congr fun j hj=>?_,(HKQ.out.setCell (a:=⟨gm,x,none⟩) (.inl rfl) _).drew⟩;rw[HTK.out]
               by_cases e:j=x <;> simp[e]
         . have hqL':q=ls.length:=(by rw[HL.out];omega);have hba:Bools wr w.heap.size gm p (fun j=>x0.last.contains j):=HBQ.out.congr fun j _=>by
             rw[hqL',List.take_length];exact HLST.out j
           have hR:BoxG wr (w.heap.size+1) (.slice none 0 0) (.slice none 0 0) (.slice none 0 0) (.slice none 0 0) false:=by
             have h1:=HR5.out.off HK9.out (fun e=>by have:=HLE.out;omega);exact h1.off HKQ.out (fun e=>by have:=HLE.out;omega)
           obtain⟨c0,c1,c2,c3,c4⟩:=hbx.cell;obtain⟨r0,r1,r2,r3,r4⟩:=hR.cell;obtain⟨f0,f1,f2,f3,f4⟩:=hR.frozen;have hrl2:w.heap.size+1<wr.heap.size:=za0 hR;have hgl2:ga<wr.heap.size:=za0 hbx;have hne4:w.heap.size+1≠ga:=(by have:=HLE.out;omega);have HBA:=Zh hba;have HRR:=Zh hR;have HQL:=Zh hqL';clear hba hR hbx hqL';go_wp2;have KF:Kept (fun b=>b=ga∨b=gm∨b=w.heap.size+1) w8 (((((wr.setCell ⟨w.heap.size+1,0,none⟩ (.slice (some ⟨gs,0,none⟩) p p)).setCell ⟨w.heap.size+1,1,none⟩ (.slice A8 n8 m8)).setCell ⟨w.heap.size+1,2,none⟩ (.slice (some ⟨gm,0,none⟩) p p)).setCell ⟨w.heap.size+1,3,none⟩ (.slice (some ⟨gf,0,none⟩) p p)).setCell ⟨w.heap.size+1,4,none⟩ (.bool (emptyT fl))):=
             (((((((((Kept.refl (fun b=>b=ga∨b=gm∨b=w.heap.size+1) w8).setCell (a:=⟨ga,1,none⟩) (.inl (.inl rfl)) (.slice A8 n8 m8)).trans (Kept.of_below (fun _=>False) HB9.out) fun b h=>h.elim).trans HKQ.out fun b h => .inl (.inr (.inl h))).setCell (a:=⟨w.heap.size+1,0,none⟩) (.inl (.inr (.inr rfl))) _).setCell (a:=⟨w.heap.size+1,1,none⟩) (.inl (.inr (.inr rfl))) _).setCell (a:=⟨w.heap.size+1,2,none⟩) (.inl (.inr (.inr rfl))) _).setCell (a:=⟨w.heap.size+1,3,none⟩) (.inl (.inr (.inr rfl))) _).setCell (a:=⟨w.heap.size+1,4,none⟩) (.inl (.inr (.inr rfl))) _)
           have KR:Kept (fun b=>b=w.heap.size+1) wr (((((wr.setCell ⟨w.heap.size+1,0,none⟩ (.slice (some ⟨gs,0,none⟩) p p)).setCell ⟨w.heap.size+1,1,none⟩ (.slice A8 n8 m8)).setCell ⟨w.heap.size+1,2,none⟩ (.slice (some ⟨gm,0,none⟩) p p)).setCell ⟨w.heap.size+1,3,none⟩ (.slice (some ⟨gf,0,none⟩) p p)).setCell ⟨w.heap.size+1,4,none⟩ (.bool (emptyT fl))):=
             ((((((Kept.refl (fun b=>b=w.heap.size+1) wr).setCell (a:=⟨w.heap.size+1,0,none⟩) (.inl rfl) _).setCell (a:=⟨w.heap.size+1,1,none⟩) (.inl rfl) _).setCell (a:=⟨w.heap.size+1,2,none⟩) (.inl rfl) _).setCell (a:=⟨w.heap.size+1,3,none⟩) (.inl rfl) _).setCell (a:=⟨w.heap.size+1,4,none⟩) (.inl rfl) _)
           have hbox8:=HBX8.out;have hbm8:=HBO3.out.stays HB8.out;have hrs8:=HR5.out.stays HB8.out;have hrow8:=HDD.out.rows.block fun b _ hb=>HB8.out.block b hb
           have hw8:w.heap.size<=w8.heap.size:=Nat.le_trans HBW.out.size HB8.out.size;have hk8:∀ b,(b=ga∨b=gm∨b=w.heap.size+1)->b<w8.heap.size->∃ cur ty,w8.heap[b]?=some (.cells cur ty (0,0))∧ty≠26∧ty≠38∧ty≠3:=fun b hb _=>by
             rcases hb with hb|hb|hb
             . subst hb;exact⟨_,_,hbox8,by decide,by decide,by decide⟩
             . subst hb;obtain⟨cur,hc⟩:=hbm8.kind;exact⟨_,_,hc,by decide,by decide,by decide⟩
             . subst hb;exact⟨_,_,hrs8,by decide,by decide,by decide⟩
           have hrowF:=zpc hrow8 KF hk8;have hfirst:Ints _ w.heap.size (.slice A8 n8 m8) (ns x0.first):=(HI8.out.off KF fun b e q=>by
             obtain⟨cur,hc⟩:=HI8.out.kind e;obtain⟨cur',ty,hc',-,-,n3⟩:=hk8 b q (HI8.out.in e).2;exact za1 hc' hc n3 rfl).low (Nat.le_trans HBW.out.size HB7.out.size)
           have hlastF:=HBA.out.off KR (fun e=>by have:=HLE.out;omega);have hszF:=HSAME.out.2.2.2.2.2;have hbelF:Below w.heap.size w _:=((Kept.of_below (fun b=>b=ga∨b=gm∨b=w.heap.size+1) (gro HBW.out HB8.out)).trans KF fun b h => .inl h).below (Nat.le_refl _) fun b h=>by
             have:=HLE.out;have:=HB4.out.size;rcases h with h|h|h <;> omega
           refine zsx (x:=2) (y:=3) (v := .bool true) rfl rfl rfl rfl (HRR.out.put _ _ _ _ _) ?_;refine⟨some ⟨gs,0,none⟩,p,p,A8,n8,m8,gm,some ⟨gf,0,none⟩,p,p,?_,⟨⟨_,hrowF⟩,hfirst,?_⟩,hbelF⟩
           . rw[hszF,HEMP.out]
           . rw[hszF];exact hlastF
end
end Go.Proofs.YtgbdanddbgomhaaDoor
