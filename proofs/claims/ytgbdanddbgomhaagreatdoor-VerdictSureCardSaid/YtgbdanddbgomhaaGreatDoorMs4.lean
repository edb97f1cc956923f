import Derived.Test.YtgbdanddbgomhaaGreatDoorMs3
import Derived.Test.YtgbdanddbgomhaaGreatDoorMs2
import Derived.Laws.Cover2
set_option linter.unusedVariables false
set_option linter.unusedSimpArgs false
namespace Go.Proofs.YtgbdanddbgomhaaGreatDoor
open Go Go.RowKit Go.Extern.Stop Go.Stop Go.Extern
def ErrV (w:World) (er:Value) (c:Int):Prop:=er = .iface 71 (.int .i64 c)∨∃ gs x,er = .iface 69 (.pointer (some ⟨gs,0,none⟩))∧w.heap[gs]?=some (.cells #[.int .i64 x,.int .i64 c] 73 (0,0))
theorem ErrV.stays {w w':World} {er:Value} {c:Int} (h:ErrV w er c) (hb:Below w.heap.size w w'):ErrV w' er c:=h.elim .inl fun ⟨gs,x,e,hg⟩ => .inr ⟨gs,x,e,(hb.block gs (za0 hg)).trans hg⟩
theorem ErrV.some {w:World} {er:Value} {c:Int} (h:ErrV w er c):er ≠ .nilIface:=by
 rcases h with rfl|⟨gs,x,rfl,_⟩ <;> intro e <;> cases e
theorem ea_as (er:Value) (c:Int) (a t:Nat) (old:Value) (w:World) (h:ErrV w er c) (ha:w.cell? ⟨a,0,none⟩=some (.pointer (some ⟨t,0,none⟩))) (ht:w.cell? ⟨t,0,none⟩=some old) (hf:w.frozen? ⟨t,0,none⟩=false) (hal:a<w.heap.size) (htl:t<w.heap.size):
   Calls Tryz.prog 69 #[er,.iface 96 (.pointer (some ⟨t,0,none⟩)),.agg #[.pointer (some ⟨6,96,none⟩),.pointer (some ⟨a,0,none⟩),.int .u64 150],.iface 148 (.agg #[.pointer (some ⟨6,71,none⟩)])] w fun e w'=>e = .returned (.bool true)∧w'=asW w a t c:=by
 rcases h with rfl|⟨gs,x,rfl,hgs⟩
 . exact zip c a t old w ha ht hf hal htl
 . exact zio gs x c a t old w hgs ha ht hf hal htl
set_option maxHeartbeats 4000000 in
theorem ea_As (er:Value) (c:Int) (t:Nat) (old:Value) (w:World) (h:ErrV w er c) (hE:ErrT w) (ht:w.cell? ⟨t,0,none⟩=some old) (hf:w.frozen? ⟨t,0,none⟩=false) (htl:t<w.heap.size):
   Calls Tryz.prog 40 #[er,.iface 96 (.pointer (some ⟨t,0,none⟩))] w fun e w'=>e = .returned (.bool true)∧w'=asW ((w.alloc (.cells #[.pointer (some ⟨t,0,none⟩)] 96)).alloc (.cells #[.pointer (some ⟨6,96,none⟩),.pointer (some ⟨w.heap.size,0,none⟩),.int .u64 150] 126)) w.heap.size t c:=by
 have h66 := @run_callFunc_extern Tryz.prog 66 _ (fun args=>ReflectliteValue.unpack (args.getD 0 (.tuple #[]))) Tryz.func66 (by kernel_rfl) (by kernel_rfl) (by kernel_rfl) (by kernel_rfl);have h67 := @run_callFunc_extern Tryz.prog 67 _ (ReflectliteValue.methodAny (ReflectliteValue.valueError "reflectlite.Value.Type" 0) (fun t _ _ _ => ReflectliteType.toType t)) Tryz.func67 (by kernel_rfl) (by kernel_rfl) (by kernel_rfl) (by kernel_rfl);have h68 := @run_callFunc_extern Tryz.prog 68 _ (ReflectliteValue.method (ReflectliteValue.valueError "reflectlite.Value.IsNil" 0) ReflectliteValue.isNil) Tryz.func68 (by kernel_rfl) (by kernel_rfl) (by kernel_rfl) (by kernel_rfl);have h160 := @run_callFunc_extern Tryz.prog 160 _ (ReflectliteType.abiMethod fun t=>do pure (.int .u8 (←Rtype.kind t))) Tryz.func160 (by kernel_rfl) (by kernel_rfl) (by kernel_rfl) (by kernel_rfl);have h172 := @run_callFunc_extern Tryz.prog 172 _ (ReflectliteType.method ReflectliteType.elem) Tryz.func172 (by kernel_rfl) (by kernel_rfl) (by kernel_rfl) (by kernel_rfl);have h173 := @run_callFunc_extern Tryz.prog 173 _ (ReflectliteType.relation "Implements" ReflectliteType.implements_) Tryz.func173 (by kernel_rfl) (by kernel_rfl) (by kernel_rfl) (by kernel_rfl);have fP:=zgg;have fT:=zlp;have mK:=zlq;have mE:=zlr;have mI:=zdc;have kP:=zls;have kC:=zlt;have eP:=zlu;have iC:=zdd;have hlt:0<w.heap.size:=World.block_lt_of_cell? w _ hE;have hg2:((w.alloc (.cells #[.pointer (some ⟨t,0,none⟩)] 96)).alloc (.cells #[.pointer (some ⟨6,96,none⟩),.pointer (some ⟨w.heap.size,0,none⟩),.int .u64 150] 126)).cell? ⟨0,0,none⟩=some (.iface 148 (.agg #[.pointer (some ⟨6,28,none⟩)])):=by
   rw[World.cell?_alloc_lt _ _ ⟨_,0,none⟩ (by simp <;> omega),World.cell?_alloc_lt _ _ ⟨_,0,none⟩ hlt];exact hE
 have n8:=zkh ⟨w.heap.size,0,none⟩ ⟨t,0,none⟩ ((w.alloc (.cells #[.pointer (some ⟨t,0,none⟩)] 96)).alloc (.cells #[.pointer (some ⟨6,96,none⟩),.pointer (some ⟨w.heap.size,0,none⟩),.int .u64 150] 126)) (by simp);have HA:=Zh (ea_as er c w.heap.size t old ((w.alloc (.cells #[.pointer (some ⟨t,0,none⟩)] 96)).alloc (.cells #[.pointer (some ⟨6,96,none⟩),.pointer (some ⟨w.heap.size,0,none⟩),.int .u64 150] 126))
   ((h.stays ((Below.refl _ _).alloc (Nat.le_refl _) _)).stays ((Below.refl _ _).alloc (Nat.le_refl _) _)) (by simp)
   (by rw[World.cell?_alloc_lt _ _ ⟨t,0,none⟩ (by simp <;> omega),World.cell?_alloc_lt _ _ ⟨t,0,none⟩ htl];exact ht)
   (by rw[World.frozen?_alloc_old _ _ ⟨t,0,none⟩ (by simp <;> omega),World.frozen?_alloc_old _ _ ⟨t,0,none⟩ (Nat.ne_of_lt htl)];exact hf) (by simp <;> omega) (by simp <;> omega))
 have hz:=h.some;have hty:∃ ty v,er = .iface ty v:=by rcases h with rfl|⟨gs,x,rfl,_⟩ <;> exact⟨_,_,rfl⟩
 obtain⟨ty,v,rfl⟩:=hty;clear h hE hz;go_enter Tryz.func40,Tryz.ntmps40;go_wp2_with (go_at_call 69;(with_reducible refine HA.out.mono ?_);rintro e w' ⟨rfl,rfl⟩);go_ret;exact⟨rfl,rfl⟩
theorem zlb (k:Int) (er:Value) (c:Int) (w:World) (h:ErrV w er c) (hE:ErrT w):
   Calls Tryz.prog 19 #[.int .i64 k,er] w fun e w'=>∃ gs,e = .returned (.iface 69 (.pointer (some ⟨gs,0,none⟩)))∧w'.heap[gs]?=some (.cells #[.int .i64 k,.int .i64 c] 73 (0,0))∧w.heap.size<=gs∧Below w.heap.size w w':=by
 have hb1:Below w.heap.size w (w.alloc (.cells #[.int .i64 0] 71)):=(Below.refl _ _).alloc (Nat.le_refl _) _;have HA:=Zh ((ea_As er c w.heap.size (.int .i64 0) (w.alloc (.cells #[.int .i64 0] 71)) (h.stays hb1) (hE.stays hb1) (by simp) (by simp) (by simp)).mono fun e w' q=>(show e = .returned (.bool true)∧w'.cell? ⟨w.heap.size,0,none⟩=some (.int .i64 c)∧Below w.heap.size w w' from⟨q.1,by
   rw[q.2];unfold asW;rw[World.cell?_alloc_lt _ _ ⟨_,0,none⟩ (by simp <;> omega),World.cell?_alloc_lt _ _ ⟨_,0,none⟩ (by simp <;> omega),World.cell?_setCell_same' _ _ _ (by rw[World.cell?_alloc_lt _ _ ⟨_,0,none⟩ (by simp <;> omega),World.cell?_alloc_lt _ _ ⟨_,0,none⟩ (by simp <;> omega)];simp)],by
   rw[q.2];unfold asW;exact (((((hb1.alloc (by simp) _).alloc (by simp <;> omega) _).setCell (Nat.le_refl _) _).alloc (by simp <;> omega) _).alloc (by simp <;> omega) _)⟩))
 have hty:∃ ty v,er = .iface ty v:=by rcases h with rfl|⟨gs,x,rfl,_⟩ <;> exact⟨_,_,rfl⟩
 obtain⟨ty,v,rfl⟩:=hty;clear h hE;go_enter Tryz.func19,Tryz.ntmps19;go_wp2_with (go_at_call 40;(with_reducible refine HA.out.mono ?_);rintro e w1 ⟨rfl,hc,hb⟩;have HB:=Zh hb;clear hb);go_ret;have hs:=HB.out.size;exact⟨_,rfl,heap_alloc_new _ _,hs,HB.out.alloc hs _⟩
section
open Go Go.RowKit
theorem zli (a b:Nat) (ha:a<18446744073709551616) (hb:b<18446744073709551616):(Ieee.double.order a b==some .gt||Ieee.double.order a b==some .eq)=(someN a&&someN b&&decide (rankN b<=rankN a)):=by
 rw[zlh a b ha hb,zh1 a b ha hb,lessB,sameB,Bool.and_comm (someN b),←Bool.and_or_distrib_left]
 congr 1
 by_cases h:rankN b<=rankN a
 . by_cases h2:rankN a=rankN b
   . rw[decide_eq_true h2,decide_eq_true h];simp
   . rw[decide_eq_true h,decide_eq_true (by omega)];rfl
 . rw[decide_eq_false h,decide_eq_false (by omega),decide_eq_false (by omega)];rfl
theorem zlg (a b:Nat) (ha:a<18446744073709551616) (hb:b<18446744073709551616):(Ieee.double.order a b==some .lt||Ieee.double.order a b==some .eq)=(someN a&&someN b&&decide (rankN a<=rankN b)):=by
 rw[zlf a b ha hb,zh1 a b ha hb,lessB,sameB,←Bool.and_or_distrib_left]
 congr 1
 by_cases h:rankN a<=rankN b
 . by_cases h2:rankN a=rankN b
   . rw[decide_eq_true h2,decide_eq_true h];simp
   . rw[decide_eq_true h,decide_eq_true (by omega)];rfl
 . rw[decide_eq_false h,decide_eq_false (by omega),decide_eq_false (by omega)];rfl
theorem zf0 (x:Nat) (w:World):
   (callFunc 56 #[.int .u64 (x:Int)]).run Tryz.prog w = .ok (.value (.float .f64 x)) w:=by
 rw[run_callFunc_extern Tryz.func56 (by kernel_rfl) (by kernel_rfl) (by kernel_rfl) (e:=Extern.MathFloatBits.float64frombits) (by kernel_rfl)];rfl
def rateV (x:Nat):Value := .tuple #[.int .i64 (if rateOk x=true then (rateN x:Int) else 0),if rateOk x=true then .nilIface else .iface 71 (.int .i64 1)]
theorem zl7 (x:Nat) (hx:x<18446744073709551616) (w:World):
   Calls Tryz.prog 33 #[.int .u64 (x:Int)] w fun e w'=>e = .returned (rateV x)∧w=w':=by
 have hr:=zf0 x;have hrk:=zjr x hx;have o1:=zli x 4607182418800017408 hx (by omega);have o2:=zlg x 4652218415073722368 hx (by omega);have s1:someN 4607182418800017408=true:=(by decide +kernel);have s2:someN 4652218415073722368=true:=(by decide +kernel);have r1:rankN 4607182418800017408=4607182418800017408:=(by decide +kernel);have r2:rankN 4652218415073722368=4652218415073722368:=(by decide +kernel);rw[s1,r1,Bool.and_true] at o1;rw[s2,r2,Bool.and_true] at o2;unfold rateV;cases hk:rateOk x
 . rw[hk] at hrk;simp only[Bool.false_eq_true,if_false];cases ha:(someN x&&decide (4607182418800017408<=rankN x))
   . rw[ha] at o1;have o1':(FloatKind.f64.format.order x 4607182418800017408==some .gt||FloatKind.f64.format.order x 4607182418800017408==some .eq)=false:=o1;clear o1 o2 s1 s2 r1 r2 hrk hk ha;go_enter Tryz.func33,Tryz.ntmps33;go_wp2_with (first | simp only[hr] | simp only[o1']);go_ret2;exact⟨rfl,rfl⟩
   . have hb:(someN x&&decide (rankN x<=4652218415073722368))=false:=by
       cases h1:someN x
       . rfl
       . rw[h1] at ha hrk;simp only[Bool.true_and] at ha hrk ⊢;rw[ha,Bool.true_and] at hrk;exact hrk.symm
     rw[ha] at o1;rw[hb] at o2;have o1':(FloatKind.f64.format.order x 4607182418800017408==some .gt||FloatKind.f64.format.order x 4607182418800017408==some .eq)=true:=o1;have o2':(FloatKind.f64.format.order x 4652218415073722368==some .lt||FloatKind.f64.format.order x 4652218415073722368==some .eq)=false:=o2;clear o1 o2 s1 s2 r1 r2 hrk hk ha hb;go_enter Tryz.func33,Tryz.ntmps33;go_wp2_with (first | simp only[hr] | simp only[o1'] | simp only[o2']);go_ret2;exact⟨rfl,rfl⟩
 . rw[hk] at hrk;simp only[if_true];have ht:=zhu x hk;have ha:(someN x&&decide (4607182418800017408<=rankN x))=true:=(by simp at hrk;simp[hrk]);have hb:(someN x&&decide (rankN x<=4652218415073722368))=true:=(by simp at hrk;simp[hrk]);rw[ha] at o1;rw[hb] at o2;have o1':(FloatKind.f64.format.order x 4607182418800017408==some .gt||FloatKind.f64.format.order x 4607182418800017408==some .eq)=true:=o1;have o2':(FloatKind.f64.format.order x 4652218415073722368==some .lt||FloatKind.f64.format.order x 4652218415073722368==some .eq)=true:=o2;have hcv:∀ w:World,(convert 113 3 (.float .f64 x)).run Tryz.prog w = .ok (.int .i64 (rateN x)) w:=fun w=>run_convert_float_int w _ _ _ _ _ _ (by kernel_rfl) Tryz.underlying3 ht
   clear o1 o2 s1 s2 r1 r2 hrk hk ha hb;go_enter Tryz.func33,Tryz.ntmps33;go_wp2_with (first | simp only[hr] | simp only[o1'] | simp only[o2'] | simp only[hcv]);go_ret2;exact⟨rfl,rfl⟩
end
section
open Go Go.RowKit
set_option maxHeartbeats 400000 in
theorem not_p (p:Nat->Bool) (w:World):
   Calls Tryz.prog 130 #[.agg #[.int .u64 (word p 0),.int .u64 (word p 1),.int .u64 (word p 2),.int .u64 (word p 3)]] w fun e w'=>e = .returned (setV (notP p))∧Below w.heap.size w w':=by
 generalize ha0:word p 0=a0;generalize ha1:word p 1=a1;generalize ha2:word p 2=a2;generalize ha3:word p 3=a3;have hv:setV (notP p) = .agg #[.int .u64 (bits .xor .u64 18446744073709551615 a0),.int .u64 (bits .xor .u64 18446744073709551615 a1),.int .u64 (bits .xor .u64 18446744073709551615 a2),.int .u64 (bits .xor .u64 18446744073709551615 a3)]:=by
   unfold setV;rw[←zc6,←zc6,←zc6,←zc6,ha0,ha1,ha2,ha3]
 rw[hv];clear hv ha0 ha1 ha2 ha3;have i0:∀ w:World,(Instr.index 38 (.agg #[.int .u64 a0,.int .u64 a1,.int .u64 a2,.int .u64 a3]) (.int .i64 0)).run Tryz.prog w = .ok (.int .u64 a0) w:=fun _=>by kernel_rfl
 have i1:∀ w:World,(Instr.index 38 (.agg #[.int .u64 a0,.int .u64 a1,.int .u64 a2,.int .u64 a3]) (.int .i64 1)).run Tryz.prog w = .ok (.int .u64 a1) w:=fun _=>by kernel_rfl
 have i2:∀ w:World,(Instr.index 38 (.agg #[.int .u64 a0,.int .u64 a1,.int .u64 a2,.int .u64 a3]) (.int .i64 2)).run Tryz.prog w = .ok (.int .u64 a2) w:=fun _=>by kernel_rfl
 have i3:∀ w:World,(Instr.index 38 (.agg #[.int .u64 a0,.int .u64 a1,.int .u64 a2,.int .u64 a3]) (.int .i64 3)).run Tryz.prog w = .ok (.int .u64 a3) w:=fun _=>by kernel_rfl
 have sg:IntKind.u64.signed=false:=rfl;have mx:IntKind.u64.max=18446744073709551615:=rfl;go_enter Tryz.func130,Tryz.ntmps130;go_wp2;refine wp_loop_rounds 5 ?_
 iterate 5 (rw[rounds_succ];go_wp2)
 refine bodyPost_ret (v := .agg #[.int .u64 (bits .xor .u64 18446744073709551615 a0),.int .u64 (bits .xor .u64 18446744073709551615 a1),.int .u64 (bits .xor .u64 18446744073709551615 a2),.int .u64 (bits .xor .u64 18446744073709551615 a3)]) ?_ rfl ⟨rfl,?_⟩
 . simp[results,Tryz.results130,go_sem]
 . exact ((((Below.refl _ _).alloc (Nat.le_refl _) _).alloc (by simp) _))
end
end Go.Proofs.YtgbdanddbgomhaaGreatDoor
