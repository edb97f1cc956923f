import Derived.Test.YtgbdanddbgomhaaGreatDoorMv3
import Derived.Deep.DrawnRows
set_option linter.unusedVariables false
set_option linter.unusedSimpArgs false
namespace Go.Proofs.YtgbdanddbgomhaaGreatDoor
open Go Go.RowKit Go.Extern.Stop Go.Stop Go.Extern
def ErrV (w:World) (er:Value) (c:Int):Prop:=er = .iface 71 (.int .i64 c)∨∃ gs x,er = .iface 69 (.pointer (some ⟨gs,0,none⟩))∧w.heap[gs]?=some (.cells #[.int .i64 x,.int .i64 c] 73 (0,0))
theorem ErrV.stays {w w':World} {er:Value} {c:Int} (h:ErrV w er c) (hb:Below w.heap.size w w'):ErrV w' er c:=h.elim .inl fun ⟨gs,x,e,hg⟩ => .inr ⟨gs,x,e,(hb.block gs (za0 hg)).trans hg⟩
theorem ErrV.some {w:World} {er:Value} {c:Int} (h:ErrV w er c):er ≠ .nilIface:=by
 rcases h with rfl|⟨gs,x,rfl,_⟩ <;> intro e <;> cases e
theorem ea_as (er:Value) (c:Int) (a t:Nat) (old:Value) (w:World) (h:ErrV w er c) (ha:w.cell? ⟨a,0,none⟩=some (.pointer (some ⟨t,0,none⟩))) (ht:w.cell? ⟨t,0,none⟩=some old) (hf:w.frozen? ⟨t,0,none⟩=false) (hal:a<w.heap.size) (htl:t<w.heap.size):
   Calls Tryz.prog 69 #[er,.iface 96 (.pointer (some ⟨t,0,none⟩)),.agg #[.pointer (some ⟨6,96,none⟩),.pointer (some ⟨a,0,none⟩),.int .u64 150],.iface 148 (.agg #[.pointer (some ⟨6,71,none⟩)])] w fun e w'=>e = .returned (.bool true)∧w'=asW w a t c:=by
 rcases h with rfl|⟨gs,x,rfl,hgs⟩
 . exact zlj c a t old w ha ht hf hal htl
 . exact zli gs x c a t old w hgs ha ht hf hal htl
set_option maxHeartbeats 4000000 in
theorem ea_As (er:Value) (c:Int) (t:Nat) (old:Value) (w:World) (h:ErrV w er c) (hE:ErrT w) (ht:w.cell? ⟨t,0,none⟩=some old) (hf:w.frozen? ⟨t,0,none⟩=false) (htl:t<w.heap.size):
   Calls Tryz.prog 40 #[er,.iface 96 (.pointer (some ⟨t,0,none⟩))] w fun e w'=>e = .returned (.bool true)∧w'=asW ((w.alloc (.cells #[.pointer (some ⟨t,0,none⟩)] 96)).alloc (.cells #[.pointer (some ⟨6,96,none⟩),.pointer (some ⟨w.heap.size,0,none⟩),.int .u64 150] 126)) w.heap.size t c:=by
 have h66 := @run_callFunc_extern Tryz.prog 66 _ (fun args=>ReflectliteValue.unpack (args.getD 0 (.tuple #[]))) Tryz.func66 (by kernel_rfl) (by kernel_rfl) (by kernel_rfl) (by kernel_rfl);have h67 := @run_callFunc_extern Tryz.prog 67 _ (ReflectliteValue.methodAny (ReflectliteValue.valueError "reflectlite.Value.Type" 0) (fun t _ _ _ => ReflectliteType.toType t)) Tryz.func67 (by kernel_rfl) (by kernel_rfl) (by kernel_rfl) (by kernel_rfl);have h68 := @run_callFunc_extern Tryz.prog 68 _ (ReflectliteValue.method (ReflectliteValue.valueError "reflectlite.Value.IsNil" 0) ReflectliteValue.isNil) Tryz.func68 (by kernel_rfl) (by kernel_rfl) (by kernel_rfl) (by kernel_rfl);have h160 := @run_callFunc_extern Tryz.prog 160 _ (ReflectliteType.abiMethod fun t=>do pure (.int .u8 (←Rtype.kind t))) Tryz.func160 (by kernel_rfl) (by kernel_rfl) (by kernel_rfl) (by kernel_rfl);have h172 := @run_callFunc_extern Tryz.prog 172 _ (ReflectliteType.method ReflectliteType.elem) Tryz.func172 (by kernel_rfl) (by kernel_rfl) (by kernel_rfl) (by kernel_rfl);have h173 := @run_callFunc_extern Tryz.prog 173 _ (ReflectliteType.relation "Implements" ReflectliteType.implements_) Tryz.func173 (by kernel_rfl) (by kernel_rfl) (by kernel_rfl) (by kernel_rfl);have fP:=zip;have fT:=zps;have mK:=zpt;have mE:=zpu;have mI:=zff;have kP:=zpv;have kC:=zpw;have eP:=zpx;have iC:=zfg;have hlt:0<w.heap.size:=World.block_lt_of_cell? w _ hE;have hg2:((w.alloc (.cells #[.pointer (some ⟨t,0,none⟩)] 96)).alloc (.cells #[.pointer (some ⟨6,96,none⟩),.pointer (some ⟨w.heap.size,0,none⟩),.int .u64 150] 126)).cell? ⟨0,0,none⟩=some (.iface 148 (.agg #[.pointer (some ⟨6,28,none⟩)])):=by
   rw[World.cell?_alloc_lt _ _ ⟨_,0,none⟩ (by simp <;> omega),World.cell?_alloc_lt _ _ ⟨_,0,none⟩ hlt];exact hE
 have n8:=znw ⟨w.heap.size,0,none⟩ ⟨t,0,none⟩ ((w.alloc (.cells #[.pointer (some ⟨t,0,none⟩)] 96)).alloc (.cells #[.pointer (some ⟨6,96,none⟩),.pointer (some ⟨w.heap.size,0,none⟩),.int .u64 150] 126)) (by simp);have HA:=Zh (ea_as er c w.heap.size t old ((w.alloc (.cells #[.pointer (some ⟨t,0,none⟩)] 96)).alloc (.cells #[.pointer (some ⟨6,96,none⟩),.pointer (some ⟨w.heap.size,0,none⟩),.int .u64 150] 126))
   ((h.stays ((Below.refl _ _).alloc (Nat.le_refl _) _)).stays ((Below.refl _ _).alloc (Nat.le_refl _) _)) (by simp)
   (by rw[World.cell?_alloc_lt _ _ ⟨t,0,none⟩ (by simp <;> omega),World.cell?_alloc_lt _ _ ⟨t,0,none⟩ htl];exact ht)
   (by rw[World.frozen?_alloc_old _ _ ⟨t,0,none⟩ (by simp <;> omega),World.frozen?_alloc_old _ _ ⟨t,0,none⟩ (Nat.ne_of_lt htl)];exact hf) (by simp <;> omega) (by simp <;> omega))
 have hz:=h.some;have hty:∃ ty v,er = .iface ty v:=by rcases h with rfl|⟨gs,x,rfl,_⟩ <;> exact⟨_,_,rfl⟩
 obtain⟨ty,v,rfl⟩:=hty;clear h hE hz;go_enter Tryz.func40,Tryz.ntmps40;go_wp2_with (go_at_call 69;(with_reducible refine HA.out.mono ?_);rintro e w' ⟨rfl,rfl⟩);go_ret;exact⟨rfl,rfl⟩
theorem zp6 (k:Int) (er:Value) (c:Int) (w:World) (h:ErrV w er c) (hE:ErrT w):
   Calls Tryz.prog 19 #[.int .i64 k,er] w fun e w'=>∃ gs,e = .returned (.iface 69 (.pointer (some ⟨gs,0,none⟩)))∧w'.heap[gs]?=some (.cells #[.int .i64 k,.int .i64 c] 73 (0,0))∧w.heap.size<=gs∧Below w.heap.size w w':=by
 have hb1:Below w.heap.size w (w.alloc (.cells #[.int .i64 0] 71)):=(Below.refl _ _).alloc (Nat.le_refl _) _;have HA:=Zh ((ea_As er c w.heap.size (.int .i64 0) (w.alloc (.cells #[.int .i64 0] 71)) (h.stays hb1) (hE.stays hb1) (by simp) (by simp) (by simp)).mono fun e w' q=>(show e = .returned (.bool true)∧w'.cell? ⟨w.heap.size,0,none⟩=some (.int .i64 c)∧Below w.heap.size w w' from⟨q.1,by
   rw[q.2];unfold asW;rw[World.cell?_alloc_lt _ _ ⟨_,0,none⟩ (by simp <;> omega),World.cell?_alloc_lt _ _ ⟨_,0,none⟩ (by simp <;> omega),World.cell?_setCell_same' _ _ _ (by rw[World.cell?_alloc_lt _ _ ⟨_,0,none⟩ (by simp <;> omega),World.cell?_alloc_lt _ _ ⟨_,0,none⟩ (by simp <;> omega)];simp)],by
   rw[q.2];unfold asW;exact (((((hb1.alloc (by simp) _).alloc (by simp <;> omega) _).setCell (Nat.le_refl _) _).alloc (by simp <;> omega) _).alloc (by simp <;> omega) _)⟩))
 have hty:∃ ty v,er = .iface ty v:=by rcases h with rfl|⟨gs,x,rfl,_⟩ <;> exact⟨_,_,rfl⟩
 obtain⟨ty,v,rfl⟩:=hty;clear h hE;go_enter Tryz.func19,Tryz.ntmps19;go_wp2_with (go_at_call 40;(with_reducible refine HA.out.mono ?_);rintro e w1 ⟨rfl,hc,hb⟩;have HB:=Zh hb;clear hb);go_ret;have hs:=HB.out.size;exact⟨_,rfl,heap_alloc_new _ _,hs,HB.out.alloc hs _⟩
section
open Go Go.RowKit
set_option maxHeartbeats 400000 in
theorem with_p (p:Nat->Bool) (b:Int) (w:World) (hb:0<=b) (hb':b<=255):
   Calls Tryz.prog 144 #[.agg #[.int .u64 (word p 0),.int .u64 (word p 1),.int .u64 (word p 2),.int .u64 (word p 3)],.int .u8 b] w fun e w'=>e = .returned (setV (add1 p b.toNat))∧Below w.heap.size w w':=by
 have HO:=Zh (zsc p b hb hb');have HW:=Zh (zdx p b.toNat);have hd:(b / 64).toNat=b.toNat / 64:=(by omega);have HD:=Zh hd;clear hd;rcases (show b / 64=0∨b / 64=1∨b / 64=2∨b / 64=3 by omega) with h|h|h|h
 all_goals
   go_enter Tryz.func144,Tryz.ntmps144;go_wp2;have ho:=HO.out;have hw:=HW.out;have hd:=HD.out;rw[h] at ho hd;refine bodyPost_ret (v:=setV (add1 p b.toNat)) ?_ rfl ⟨rfl,((Below.refl _ _).alloc (Nat.le_refl _) _).alloc (by simp) _⟩;unfold setV
 . rw[hw 1 (by omega),hw 2 (by omega),hw 3 (by omega),show word (add1 p b.toNat) 0=_ from ho.symm];simp[results,Tryz.results144,go_sem]
 . rw[hw 0 (by omega),hw 2 (by omega),hw 3 (by omega),show word (add1 p b.toNat) 1=_ from ho.symm];simp[results,Tryz.results144,go_sem]
 . rw[hw 0 (by omega),hw 1 (by omega),hw 3 (by omega),show word (add1 p b.toNat) 2=_ from ho.symm];simp[results,Tryz.results144,go_sem]
 . rw[hw 0 (by omega),hw 1 (by omega),hw 2 (by omega),show word (add1 p b.toNat) 3=_ from ho.symm];simp[results,Tryz.results144,go_sem]
theorem zkw (lo k:Int) (h:lo<=k) (h0:0<=k) (x:Nat):add1 (rangeP lo (k-1)) k.toNat x=rangeP lo (k+1-1) x:=by
 unfold add1 rangeP;rw[Bool.eq_iff_iff];simp;omega
theorem zkx (lo:Int) (x:Nat):noneP x=rangeP lo (lo-1) x:=by
 unfold noneP rangeP;rw[Bool.eq_iff_iff];simp;omega
set_option maxHeartbeats 800000 in
theorem zcu (lo hi:Int) (w:World) (hl:0<=lo) (hl':lo<=255) (hh:0<=hi) (hh':hi<=255):
   Calls Tryz.prog 138 #[.int .u8 lo,.int .u8 hi] w fun e w'=>e = .returned (setV (rangeP lo hi))∧Below w.heap.size w w':=by
 go_enter Tryz.func138,Tryz.ntmps138;go_wp2;go_loopw [6] (fun i wr=>∃ k:Int,∃ p0,lo<=k∧(k<=hi+1∨k=lo)∧i = .int .i64 k∧Box4 wr w.heap.size p0∧Box4 wr (w.heap.size+1) (rangeP lo (k-1))∧Below w.heap.size w wr) (fun i _=>(hi+1-intOf i).toNat)
 case atStart =>
   refine⟨lo,noneP,by omega,by omega,rfl,(Box4.new0 w).alloc _,?_,((Below.refl _ _).alloc (Nat.le_refl _) _).alloc (by simp) _⟩;have h:=Box4.new0 (w.alloc (.cells #[.int .u64 0,.int .u64 0,.int .u64 0,.int .u64 0] 38));rw[World.size_alloc] at h;exact h.congr fun x _=>zkx lo x
 case round =>
   obtain⟨k,p0,hk,hk2,rfl,b0,b1,hnx⟩:=hrel;have hs:=b1.lt;obtain⟨c0,c1,c2,c3⟩:=b1.cell
   by_cases hlt:k<=hi
   . go_wp2_with (go_at_call 144;(with_reducible refine (with_p (rangeP lo (k-1)) k _ (by omega) (by omega)).mono ?_);rintro e w1 ⟨rfl,hb1⟩;unfold setV;obtain⟨d0,d1,d2,d3⟩:=(b1.stays hb1).cell;obtain⟨g0,g1,g2,g3⟩:=(b1.stays hb1).frozen);go_roundw
     case rel =>
       refine⟨k+1,p0,by omega,by omega,rfl,(b0.stays hb1).putFar (g':=w.heap.size+1) (by omega) _,?_,zac (g:=w.heap.size+1) (hnx.trans (hb1.mono (by omega))) (by omega) _⟩;exact ((b1.stays hb1).put (add1 (rangeP lo (k-1)) k.toNat)).congr fun x _=>zkw lo k hk (by omega) x
     case measure=>simp[intOf];omega
   . obtain⟨d0,d1,d2,d3⟩:=b0.cell;obtain⟨g0,g1,g2,g3⟩:=b0.frozen;go_wp2;refine bodyPost_ret (v:=setV (rangeP lo (k-1))) ?_ rfl ⟨congrArg Ending.returned (zbu fun x _=>?_),zac (g:=w.heap.size) hnx (Nat.le_refl _) (rangeP lo (k-1))⟩
     . unfold setV;simp[results,Tryz.results138,go_sem,d0,d1,d2,d3]
     . unfold rangeP;rw[Bool.eq_iff_iff];simp;omega
end
section
open Go Go.RowKit
set_option maxHeartbeats 400000 in
theorem or_p (p q:Nat->Bool) (w:World):
   Calls Tryz.prog 32 #[.agg #[.int .u64 (word p 0),.int .u64 (word p 1),.int .u64 (word p 2),.int .u64 (word p 3)],.agg #[.int .u64 (word q 0),.int .u64 (word q 1),.int .u64 (word q 2),.int .u64 (word q 3)]] w fun e w'=>e = .returned (setV (orP p q))∧Below w.heap.size w w':=by
 generalize ha0:word p 0=a0;generalize ha1:word p 1=a1;generalize ha2:word p 2=a2;generalize ha3:word p 3=a3;generalize hb0:word q 0=b0;generalize hb1:word q 1=b1;generalize hb2:word q 2=b2;generalize hb3:word q 3=b3;have hv:setV (orP p q) = .agg #[.int .u64 (bits .or .u64 a0 b0),.int .u64 (bits .or .u64 a1 b1),.int .u64 (bits .or .u64 a2 b2),.int .u64 (bits .or .u64 a3 b3)]:=by
   unfold setV;rw[←zd7,←zd7,←zd7,←zd7,ha0,ha1,ha2,ha3,hb0,hb1,hb2,hb3]
 rw[hv];clear hv ha0 ha1 ha2 ha3 hb0 hb1 hb2 hb3;have i0:∀ w:World,(Instr.index 38 (.agg #[.int .u64 b0,.int .u64 b1,.int .u64 b2,.int .u64 b3]) (.int .i64 0)).run Tryz.prog w = .ok (.int .u64 b0) w:=fun _=>by kernel_rfl
 have i1:∀ w:World,(Instr.index 38 (.agg #[.int .u64 b0,.int .u64 b1,.int .u64 b2,.int .u64 b3]) (.int .i64 1)).run Tryz.prog w = .ok (.int .u64 b1) w:=fun _=>by kernel_rfl
 have i2:∀ w:World,(Instr.index 38 (.agg #[.int .u64 b0,.int .u64 b1,.int .u64 b2,.int .u64 b3]) (.int .i64 2)).run Tryz.prog w = .ok (.int .u64 b2) w:=fun _=>by kernel_rfl
 have i3:∀ w:World,(Instr.index 38 (.agg #[.int .u64 b0,.int .u64 b1,.int .u64 b2,.int .u64 b3]) (.int .i64 3)).run Tryz.prog w = .ok (.int .u64 b3) w:=fun _=>by kernel_rfl
 go_enter Tryz.func32,Tryz.ntmps32;go_wp2;refine wp_loop_rounds 5 ?_
 iterate 5 (rw[rounds_succ];go_wp2)
 refine bodyPost_ret (v := .agg #[.int .u64 (bits .or .u64 a0 b0),.int .u64 (bits .or .u64 a1 b1),.int .u64 (bits .or .u64 a2 b2),.int .u64 (bits .or .u64 a3 b3)]) ?_ rfl ⟨rfl,?_⟩
 . simp[results,Tryz.results32,go_sem]
 . exact ((((Below.refl _ _).alloc (Nat.le_refl _) _).alloc (by simp) _).alloc (by simp;omega) _)
end
section
open Go Go.RowKit
set_option maxHeartbeats 400000 in
theorem not_p (p:Nat->Bool) (w:World):
   Calls Tryz.prog 130 #[.agg #[.int .u64 (word p 0),.int .u64 (word p 1),.int .u64 (word p 2),.int .u64 (word p 3)]] w fun e w'=>e = .returned (setV (notP p))∧Below w.heap.size w w':=by
 generalize ha0:word p 0=a0;generalize ha1:word p 1=a1;generalize ha2:word p 2=a2;generalize ha3:word p 3=a3;have hv:setV (notP p) = .agg #[.int .u64 (bits .xor .u64 18446744073709551615 a0),.int .u64 (bits .xor .u64 18446744073709551615 a1),.int .u64 (bits .xor .u64 18446744073709551615 a2),.int .u64 (bits .xor .u64 18446744073709551615 a3)]:=by
   unfold setV;rw[←zd9,←zd9,←zd9,←zd9,ha0,ha1,ha2,ha3]
 rw[hv];clear hv ha0 ha1 ha2 ha3;have i0:∀ w:World,(Instr.index 38 (.agg #[.int .u64 a0,.int .u64 a1,.int .u64 a2,.int .u64 a3]) (.int .i64 0)).run Tryz.prog w = .ok (.int .u64 a0) w:=fun _=>by kernel_rfl
 have i1:∀ w:World,(Instr.index 38 (.agg #[.int .u64 a0,.int .u64 a1,.int .u64 a2,.int .u64 a3]) (.int .i64 1)).run Tryz.prog w = .ok (.int .u64 a1) w:=fun _=>by kernel_rfl
 have i2:∀ w:World,(Instr.index 38 (.agg #[.int .u64 a0,.int .u64 a1,.int .u64 a2,.int .u64 a3]) (.int .i64 2)).run Tryz.prog w = .ok (.int .u64 a2) w:=fun _=>by kernel_rfl
 have i3:∀ w:World,(Instr.index 38 (.agg #[.int .u64 a0,.int .u64 a1,.int .u64 a2,.int .u64 a3]) (.int .i64 3)).run Tryz.prog w = .ok (.int .u64 a3) w:=fun _=>by kernel_rfl
 have sg:IntKind.u64.signed=false:=rfl;have mx:IntKind.u64.max=18446744073709551615:=rfl;go_enter Tryz.func130,Tryz.ntmps130;go_wp2;refine wp_loop_rounds 5 ?_
 iterate 5 (rw[rounds_succ];go_wp2)
 refine bodyPost_ret (v := .agg #[.int .u64 (bits .xor .u64 18446744073709551615 a0),.int .u64 (bits .xor .u64 18446744073709551615 a1),.int .u64 (bits .xor .u64 18446744073709551615 a2),.int .u64 (bits .xor .u64 18446744073709551615 a3)]) ?_ rfl ⟨rfl,?_⟩
 . simp[results,Tryz.results130,go_sem]
 . exact ((((Below.refl _ _).alloc (Nat.le_refl _) _).alloc (by simp) _))
end
section
open Go Go.RowKit
attribute [local go_sem ↓] Go.wp_at_zero Go.wp_at_succ
def Tab (w:World):Prop:=3<w.heap.size∧∀ k,k<64->w.cell? ⟨3,k,none⟩=some (.int .u8 (deBr.getD k 0))
theorem Tab.below {w w':World} {B:Nat} (h:Tab w) (hb:Below B w w') (hB:3<B):Tab w':=⟨Nat.lt_of_lt_of_le h.1 hb.size,fun k hk=>(hb.cell (p:=⟨3,k,none⟩) hB).trans (h.2 k hk)⟩
set_option maxHeartbeats 1000000 in
theorem tz_p (w:World) (x k:Nat) (hx:x<18446744073709551616) (hk:k<64) (h:x &&& (2 ^ 64-x)=2 ^ k) (ht:Tab w):Calls Tryz.prog 95 #[.int .u64 x] w fun e w'=>e = .returned (.int .i64 k)∧w=w':=by
 have hx0:x≠0:=by
   rintro rfl;have:=Nat.two_pow_pos k;simp at h;omega
 have hb0:((x:Int)==0)=false:=(by simp;omega);have e1:IntKind.u64.wrap (-(x:Int))=((2 ^ 64-x:Nat):Int):=by
   rw[IntKind.wrap_u64];have:(2:Nat) ^ 64=18446744073709551616:=by decide
   omega
 have e2:bits .and .u64 (x:Int) ((2 ^ 64-x:Nat):Int)=((2 ^ k:Nat):Int):=by
   rw[bits_and_u64_nat _ _ hx (by have:(2:Nat) ^ 64=18446744073709551616:=(by decide);omega),h]
 obtain⟨d1,d2⟩:=zrz ⟨k,hk⟩;simp only at d1 d2;have e3:IntKind.u64.wrap (((2 ^ k:Nat):Int)*285870213051353865)=((2 ^ k*285870213051353865 % 18446744073709551616:Nat):Int):=by
   rw[IntKind.wrap_u64];omega
 generalize 2 ^ k*285870213051353865 % 18446744073709551616=y at d1 d2 e3;have hc:=ht.2 _ d2;rw[d1] at hc;generalize hp:((2 ^ k:Nat))=p2 at *;generalize hn:2 ^ 64-x=nx at *;have j1:(y:Int) / 288230376151711744<64:=(by omega);have j2:((y:Int) / 288230376151711744).toNat=y / 288230376151711744:=(by omega);have j0:(0:Int)<=(y:Int) / 288230376151711744:=(by omega);clear d1 h hp hn hx0;go_enter Tryz.func95,Tryz.ntmps95;go_wp2;go_ret;exact⟨rfl,rfl⟩
end
section
open Go Go.RowKit
attribute [local go_sem ↓] Go.wp_at_zero Go.wp_at_succ
set_option maxHeartbeats 400000 in
theorem has_p (p:Nat->Bool) (b:Int) (w:World) (hb:0<=b) (hb':b<=255):
   Calls Tryz.prog 13 #[.agg #[.int .u64 (word p 0),.int .u64 (word p 1),.int .u64 (word p 2),.int .u64 (word p 3)],.int .u8 b] w fun e w'=>e = .returned (.bool (p b.toNat))∧Below w.heap.size w w':=by
 have hv:=zg9 p b hb hb';have H:=zgv p b hb hb';rw[←H];clear H;go_enter Tryz.func13,Tryz.ntmps13;go_wp2;go_ret;exact⟨rfl,(Below.refl _ _).alloc (Nat.le_refl _) _⟩
end
end Go.Proofs.YtgbdanddbgomhaaGreatDoor
