import Derived.Test.YtgbdanddbgomhaaGreatDoorMs38
import Derived.Test.YtgbdanddbgomhaaGreatDoorMs33
import Derived.Defers
import Derived.Recover
set_option linter.unusedVariables false
set_option linter.unusedSimpArgs false
namespace Go.Proofs.YtgbdanddbgomhaaGreatDoor
open Go Go.RowKit
section
attribute [local go_sem ↓] Go.wp_at_zero Go.wp_at_succ
theorem zbo {P:Program} {fn:Func} {tmps:Array Value} {Q:Ending->World->Prop} {w:World} {v:Value} (hr:(results fn tmps).run P w = .ok v w) (hR:Q (.returned v) w):Leaves P fn tmps Q [] .returning w:=⟨v,hr,hR⟩
def BoxE (w:World) (g:Nat) (v:Value):Prop:=w.heap[g]?=some (.cells #[v] 28 (0,0))
section
variable {w w':World} {g:Nat} {v:Value}
theorem BoxE.cell (h:BoxE w g v):w.cell? ⟨g,0,none⟩=some v:=by
 unfold BoxE at h;exact cell_of_row w g _ _ 28 (0,0) h
theorem BoxE.frozen (h:BoxE w g v):w.frozen? ⟨g,0,none⟩=false:=by
 unfold BoxE at h;simp[World.frozen?,h]
theorem BoxE.lt (h:BoxE w g v):g<w.heap.size:=za0 h
theorem BoxE.block (h:BoxE w g v) (hb:w'.heap[g]?=w.heap[g]?):BoxE w' g v:=hb.trans h
theorem BoxE.set (h:BoxE w g v) (v':Value):BoxE (w.setCell ⟨g,0,none⟩ v') g v':=by
 unfold BoxE at *;simp[World.setCell,Array.getElem?_modify,h]
end
theorem Tryz.assertSpot (x:TypeId) (p:Value) (w:World):(Instr.typeAssert (.iface 69 p) x 69 false).run Tryz.prog w = .ok p w:=by
 unfold Instr.typeAssert;simp[run_underlying Tryz.underlying69,Sem.run_bind,Result.andThen]
theorem BoxE.drewN {w:World} {g:Nat} {v:Value} (h:BoxE w g v) (n:Nat):BoxE (w.drewN n) g v:=h
theorem BoxE.alloc {w:World} {g:Nat} {v:Value} (h:BoxE w g v) (o:Obj):BoxE (w.alloc o) g v:=(Below.heap_alloc w o g h.lt).trans h
theorem BoxE.put8 {w:World} {g g':Nat} {v:Value} (h:BoxE w g v) (hg:g≠g') (t:T) (k:Value):BoxE (put8 w g' t k) g v:=(zad w g' t k g hg).trans h
theorem below_drewN {B:Nat} {a w:World} (h:Below B a w) (n:Nat):Below B a (w.drewN n):=⟨h.os,h.tape,h.output,h.size,h.block⟩
def Caught (w:World) (B gn ge gs:Nat) (w':World):Prop:=
 Box8 w' gn T.zero (.slice none 0 0)∧BoxE w' ge (.iface 69 (.pointer (some ⟨gs,0,none⟩)))∧Below B w w'∧∀ b,b≠gn->b≠ge->w'.heap[b]?=w.heap[b]?
set_option maxRecDepth 20000 in
set_option maxHeartbeats 1000000 in
theorem zgn (w:World) (B gn ge gs:Nat) (t:T) (k v:Value) (bn:Box8 w gn t k) (be:BoxE w ge v) (hne:gn≠ge) (hB:B<=gn) (hB':B<=ge):
   CallsD Tryz.prog 62 #[.pointer (some ⟨gn,0,none⟩),.pointer (some ⟨ge,0,none⟩)] (.panicking [{v := .iface 69 (.pointer (some ⟨gs,0,none⟩)),recovered:=false}]) w fun e u' w' =>
     e = .returned (.tuple #[])∧u' = .panicking [{v := .iface 69 (.pointer (some ⟨gs,0,none⟩)),recovered:=true}]∧Caught w B gn ge gs w':=by
 obtain⟨c0,c1,c2,c3,c4,c5,c6,c7⟩:=bn.cell;obtain⟨f0,f1,f2,f3,f4,f5,f6,f7⟩:=bn.frozen;have d0:=be.cell;have e0:=be.frozen;have hne':ge≠gn:=Ne.symm hne;have hta:=Tryz.assertSpot;refine callsD_of_wpS Tryz.func62 rfl fun c₀ cs hu=>?_
 apply wpS_seq;apply wpS_region;simp[wpOpsS,go_sem,recoverD,hu,Tryz.ntmps62,Exit.thenS];refine wpS_of_wp ?_;change Code.wp _ _ _ {tmps:=#[.pointer (some ⟨gn,0,none⟩),.pointer (some ⟨ge,0,none⟩),.iface 69 (.pointer (some ⟨gs,0,none⟩)),.iface 69 (.pointer (some ⟨gs,0,none⟩)),undef,undef,undef,undef,undef,undef],defers:=[]} w;go_wp2;go_region;refine⟨rfl,_,rfl,.tuple #[],?_,rfl,rfl,?_⟩
 . simp[results,Tryz.results62,go_sem]
 . have b1:=bn.put (t':=t) (k':=k) T.zero (.slice none 0 0);have hblk:=fun b hb=>zad w gn T.zero (.slice none 0 0) b hb
   have hbw:=zae (Below.refl B w) hB T.zero (.slice none 0 0);rw[←zau] at b1 hblk hbw;have be1:BoxE (put80 w gn) ge v:=be.block (hblk ge hne');change Caught w B gn ge gs (World.drew ((put80 w gn).setCell ⟨ge,0,none⟩ (.iface 69 (.pointer (some ⟨gs,0,none⟩)))));generalize put80 w gn=w1 at *;exact⟨b1.far (a:=⟨ge,0,none⟩) hne (.iface 69 (.pointer (some ⟨gs,0,none⟩))),be1.set (.iface 69 (.pointer (some ⟨gs,0,none⟩))),(hbw.setCell (p:=⟨ge,0,none⟩) hB' _).drew,fun b h1 h2=>(Below.heap_setCell w1 ⟨ge,0,none⟩ (.iface 69 (.pointer (some ⟨gs,0,none⟩))) b h2).trans (hblk b h1)⟩
set_option maxRecDepth 20000 in
set_option maxHeartbeats 1000000 in
theorem zmg (w:World) (gn ge:Nat):
   CallsD Tryz.prog 62 #[.pointer (some ⟨gn,0,none⟩),.pointer (some ⟨ge,0,none⟩)] .returning w fun e u' w' =>
     e = .returned (.tuple #[])∧u' = .returning∧w=w':=by
 refine callsD_of_wpS Tryz.func62 rfl fun c₀ cs hu=>?_
 apply wpS_seq;apply wpS_region;simp[wpOpsS,go_sem,recoverD,hu,Tryz.ntmps62,Exit.thenS];refine wpS_of_wp ?_;change Code.wp _ _ _ {tmps:=#[.pointer (some ⟨gn,0,none⟩),.pointer (some ⟨ge,0,none⟩),.nilIface,.nilIface,undef,undef,undef,undef,undef,undef],defers:=[]} w;go_wp2;refine⟨rfl,.returning,?_,.tuple #[],?_,rfl,rfl,rfl⟩
 . rw[←hu]
 . simp[results,Tryz.results62,go_sem]
def xparse (s:ByteArray):Except (Int×Int) T:=
 if 200<s.size then .error (4,0) else match pat s 20 false 0 with
 | .error e => .error e
 | .ok (t,p)=>if p=s.size then .ok t else .error (2,(p:Int))
def XParse (w:World) (s:ByteArray) (e:Ending) (w':World):Prop:=match xparse s with
 | .ok t=>∃ k,e = .returned (.tuple #[nodeV t k,.nilIface])∧Tree w' (fun b=>w.heap.size<=b) t k∧Below w.heap.size w w'
 | .error (c,a)=>∃ gs,e = .returned (.tuple #[nodeV T.zero (.slice none 0 0),.iface 69 (.pointer (some ⟨gs,0,none⟩))])∧w'.heap[gs]?=some (.cells #[.int .i64 a,.int .i64 c] 73 (0,0))∧w.heap.size<=gs∧Below w.heap.size w w'
set_option maxRecDepth 20000 in
set_option maxHeartbeats 1000000 in
theorem zfo (w:World) (s:ByteArray) (hl:200<s.size) (hm:s.size<=9223372036854775807):Calls Tryz.prog 38 #[.string s] w (XParse w s):=by
 have HE:Hid (xparse s = .error (4,0)):=by show xparse s=_;unfold xparse;rw[if_pos hl]
 go_enter_defers Tryz.func38,Tryz.ntmps38;go_wp2;have hx:XParse w s (.returned (.tuple #[nodeV T.zero (.slice none 0 0),.iface 69 (.pointer (some ⟨w.heap.size+1+1,0,none⟩))])) (((w.alloc (.cells #[.int .i64 0,.int .u64 0,.int .u64 0,.int .u64 0,.int .u64 0,.int .i64 0,.int .i64 0,.slice none 0 0] 41)).alloc (.cells #[.iface 69 (.pointer (some ⟨w.heap.size+1+1,0,none⟩))] 28)).alloc (.cells #[.int .i64 0,.int .i64 4] 73)):=by
   unfold XParse;rw[HE.out];refine⟨_,rfl,?_,by omega,(((Below.refl _ _).alloc (Nat.le_refl _) _).alloc (by simp) _).alloc (by simp;omega) _⟩;have h:=heap_alloc_new ((w.alloc (.cells #[.int .i64 0,.int .u64 0,.int .u64 0,.int .u64 0,.int .u64 0,.int .i64 0,.int .i64 0,.slice none 0 0] 41)).alloc (.cells #[.iface 69 (.pointer (some ⟨w.heap.size+1+1,0,none⟩))] 28)) (.cells #[.int .i64 0,.int .i64 4] 73)
   simpa only [World.size_alloc] using h
 refine zbo ?_ hx;simp[nodeV,T.zero,T.op,T.set,T.lo,T.hi,za6,results,Tryz.results38,go_sem]
set_option maxRecDepth 20000 in
set_option maxHeartbeats 2000000 in
theorem zhj (w:World) (s:ByteArray) (hl:¬ 200<s.size) (c q:Int) (hp:pat s 20 false 0 = .error (c,q)):Calls Tryz.prog 38 #[.string s] w (XParse w s):=by
 have HE:Hid (xparse s = .error (c,q)):=by show xparse s=_;unfold xparse;rw[if_neg hl,hp]
 have hmf:∀ (fn:Fn) (first cap:Array Value) (w:World),(Instr.makeFunc fn first cap).run Tryz.prog w = .ok (.func fn first cap) w:=fun _ _ _ _=>rfl
 have hnot:∀ (x:Bool) (w:World),(Op.unary .not (.bool x)).run Tryz.prog w = .ok (.bool (!x)) w:=fun _ _=>rfl
 have HP:=Zh (fun w g h=>zgm 20 (by omega) w g s 0 0 h (by omega) (by omega) (by omega));simp only[hp] at HP;clear hp;go_enter_defers Tryz.func38,Tryz.ntmps38;go_upto_region 5 with fail
 have bn:=((Box8.new0 w).alloc (.cells #[.nilIface] 28)).alloc (.cells #[.string s,.int .i64 0,.int .i64 0] 121);have be:BoxE (((w.alloc (.cells #[.int .i64 0,.int .u64 0,.int .u64 0,.int .u64 0,.int .u64 0,.int .i64 0,.int .i64 0,.slice none 0 0] 41)).alloc (.cells #[.nilIface] 28)).alloc (.cells #[.string s,.int .i64 0,.int .i64 0] 121)) (w.heap.size+1) .nilIface:=by
   have h:=heap_alloc_new (w.alloc (.cells #[.int .i64 0,.int .u64 0,.int .u64 0,.int .u64 0,.int .u64 0,.int .i64 0,.int .i64 0,.slice none 0 0] 41)) (.cells #[.nilIface] 28);rw[World.size_alloc] at h;exact (Below.heap_alloc _ _ _ (by simp)).trans h
 have rx:Rx (((w.alloc (.cells #[.int .i64 0,.int .u64 0,.int .u64 0,.int .u64 0,.int .u64 0,.int .i64 0,.int .i64 0,.slice none 0 0] 41)).alloc (.cells #[.nilIface] 28)).alloc (.cells #[.string s,.int .i64 0,.int .i64 0] 121)) (w.heap.size+1+1) s 0 0:=by
   have h:=heap_alloc_new ((w.alloc (.cells #[.int .i64 0,.int .u64 0,.int .u64 0,.int .u64 0,.int .u64 0,.int .i64 0,.int .i64 0,.slice none 0 0] 41)).alloc (.cells #[.nilIface] 28)) (.cells #[.string s,.int .i64 0,.int .i64 0] 121);rw[World.size_alloc,World.size_alloc] at h;exact h
 have hB:Below w.heap.size w (((w.alloc (.cells #[.int .i64 0,.int .u64 0,.int .u64 0,.int .u64 0,.int .u64 0,.int .i64 0,.int .i64 0,.slice none 0 0] 41)).alloc (.cells #[.nilIface] 28)).alloc (.cells #[.string s,.int .i64 0,.int .i64 0] 121)):=(((Below.refl _ _).alloc (Nat.le_refl _) _).alloc (by simp) _).alloc (by simp;omega) _;generalize ((w.alloc (.cells #[.int .i64 0,.int .u64 0,.int .u64 0,.int .u64 0,.int .u64 0,.int .i64 0,.int .i64 0,.slice none 0 0] 41)).alloc (.cells #[.nilIface] 28)).alloc (.cells #[.string s,.int .i64 0,.int .i64 0] 121)=w2 at *;go_wp2_with (go_at_call 63;(refine (HP.out _ _ rx).mono ?_);rintro e w3 ⟨⟨gs,hgB0,rfl,hgs⟩,o3⟩);have hgn:gs≠w.heap.size:=(by have:=bn.lt;omega);have hge:gs≠w.heap.size+1:=(by have:=be.lt;omega);have hgB:w.heap.size<=gs:=(by have:=bn.lt;omega);have bF:=bn.grown o3 (by simp;omega);have eF:=be.block (o3.block (w.heap.size+1) be.lt (by simp));have hBF:Below w.heap.size w w3:=hB.grown o3 hB.size (fun j e=>by injection e with e;omega);refine leaves_cons (f:=62) (args:=#[.pointer (some ⟨w.heap.size,0,none⟩),.pointer (some ⟨w.heap.size+1,0,none⟩)]) (by simp) (by simp[go_sem]) ?_;refine (zgn _ w.heap.size w.heap.size (w.heap.size+1) gs _ _ _ bF eF (by omega) (Nat.le_refl _) (by omega)).mono ?_;rintro e u' wF ⟨rfl,rfl,b9,e9,h9,k9⟩;obtain⟨F0,F1,F2,F3,F4,F5,F6,F7⟩:=b9.cell;have G0:=e9.cell;have hx:XParse w s (.returned (.tuple #[nodeV T.zero (.slice none 0 0),.iface 69 (.pointer (some ⟨gs,0,none⟩))])) wF:=by
   unfold XParse;rw[HE.out];exact⟨gs,rfl,(k9 gs hgn hge).trans hgs,hgB,hBF.trans h9⟩
 refine zbo ?_ hx;simp[nodeV,results,Tryz.results38,go_sem,F0,F1,F2,F3,F4,F5,F6,F7,G0]
set_option maxRecDepth 20000 in
set_option maxHeartbeats 400000 in
theorem zfn (w:World) (s:ByteArray) (hl:¬ 200<s.size) (t:T) (p:Nat) (hp:pat s 20 false 0 = .ok (t,p)) (hne:p≠s.size):Calls Tryz.prog 38 #[.string s] w (XParse w s):=by
 have HE:Hid (xparse s = .error (2,(p:Int))):=by show xparse s=_;unfold xparse;rw[if_neg hl,hp];simp[hne]
 have HD:=Zh (fun w g h=>zb0 w g s p 0 h (by omega));rw[show (p==s.size)=false by simpa using hne] at HD;have hmf:∀ (fn:Fn) (first cap:Array Value) (w:World),(Instr.makeFunc fn first cap).run Tryz.prog w = .ok (.func fn first cap) w:=fun _ _ _ _=>rfl
 have hnot:∀ (x:Bool) (w:World),(Op.unary .not (.bool x)).run Tryz.prog w = .ok (.bool (!x)) w:=fun _ _=>rfl
 have HP:=Zh (fun w g h=>zgm 20 (by omega) w g s 0 0 h (by omega) (by omega) (by omega));simp only[hp] at HP;clear hp;go_enter_defers Tryz.func38,Tryz.ntmps38;go_upto_region 5 with fail
 have bn:=((Box8.new0 w).alloc (.cells #[.nilIface] 28)).alloc (.cells #[.string s,.int .i64 0,.int .i64 0] 121);have be:BoxE (((w.alloc (.cells #[.int .i64 0,.int .u64 0,.int .u64 0,.int .u64 0,.int .u64 0,.int .i64 0,.int .i64 0,.slice none 0 0] 41)).alloc (.cells #[.nilIface] 28)).alloc (.cells #[.string s,.int .i64 0,.int .i64 0] 121)) (w.heap.size+1) .nilIface:=by
   have h:=heap_alloc_new (w.alloc (.cells #[.int .i64 0,.int .u64 0,.int .u64 0,.int .u64 0,.int .u64 0,.int .i64 0,.int .i64 0,.slice none 0 0] 41)) (.cells #[.nilIface] 28);rw[World.size_alloc] at h;exact (Below.heap_alloc _ _ _ (by simp)).trans h
 have rx:Rx (((w.alloc (.cells #[.int .i64 0,.int .u64 0,.int .u64 0,.int .u64 0,.int .u64 0,.int .i64 0,.int .i64 0,.slice none 0 0] 41)).alloc (.cells #[.nilIface] 28)).alloc (.cells #[.string s,.int .i64 0,.int .i64 0] 121)) (w.heap.size+1+1) s 0 0:=by
   have h:=heap_alloc_new ((w.alloc (.cells #[.int .i64 0,.int .u64 0,.int .u64 0,.int .u64 0,.int .u64 0,.int .i64 0,.int .i64 0,.slice none 0 0] 41)).alloc (.cells #[.nilIface] 28)) (.cells #[.string s,.int .i64 0,.int .i64 0] 121);rw[World.size_alloc,World.size_alloc] at h;exact h
 have hB:Below w.heap.size w (((w.alloc (.cells #[.int .i64 0,.int .u64 0,.int .u64 0,.int .u64 0,.int .u64 0,.int .i64 0,.int .i64 0,.slice none 0 0] 41)).alloc (.cells #[.nilIface] 28)).alloc (.cells #[.string s,.int .i64 0,.int .i64 0] 121)):=(((Below.refl _ _).alloc (Nat.le_refl _) _).alloc (by simp) _).alloc (by simp;omega) _;generalize ((w.alloc (.cells #[.int .i64 0,.int .u64 0,.int .u64 0,.int .u64 0,.int .u64 0,.int .i64 0,.int .i64 0,.slice none 0 0] 41)).alloc (.cells #[.nilIface] 28)).alloc (.cells #[.string s,.int .i64 0,.int .i64 0] 121)=w2 at *;go_wp2_with (first
   | (go_at_call 63;(refine (HP.out _ _ rx).mono ?_);rintro e w3 ⟨⟨v,rfl,k,rfl,ht⟩,r3,o3⟩;obtain⟨A,tn,tc,rfl⟩:=ht.form;unfold nodeV;have b3:=bn.grown o3 (by simp;omega);have e3:=be.block (o3.block (w.heap.size+1) be.lt (by simp));have hB3:Below w.heap.size w w3:=hB.grown o3 hB.size (fun j e=>by injection e with e;omega);have hbl:=b3.lt;have hel:=e3.lt;obtain⟨m0,m1,m2,m3,m4,m5,m6,m7⟩:=b3.cell;obtain⟨y0,y1,y2,y3,y4,y5,y6,y7⟩:=b3.frozen;have d0:=e3.cell;have d1:=e3.frozen;have r4:Rx (put8 w3 w.heap.size t (.slice A tn tc)) (w.heap.size+1+1) s p 0:=r3.block (zad w3 _ t _ _ (by omega)))
   | (go_at_call 64;(refine (HD.out _ _ r4).mono ?_);rintro e w5 ⟨rfl,n,rfl⟩;have b5:=(b3.put (t':=t) (k' := .slice A tn tc) t (.slice A tn tc)).drewN n;have e5:=(e3.put8 (g':=w.heap.size) (by omega) t (.slice A tn tc)).drewN n;have hB5:=below_drewN (zae hB3 (Nat.le_refl _) t (.slice A tn tc)) n;have ht5:=((ht.weak (ok':=fun b=>w.heap.size+1<b) (fun b hb _=>by have:=rx.lt;omega)).put8 (g':=w.heap.size) (t':=t) (k' := .slice A tn tc) fun b hb=>by omega).drewN n;have r5:=r4.drewN n;generalize (put8 w3 w.heap.size t (.slice A tn tc)).drewN n=w6 at *;obtain⟨n0,n1,n2,n3,n4,n5,n6,n7⟩:=b5.cell;obtain⟨z0,z1,z2,z3,z4,z5,z6,z7⟩:=b5.frozen;have l0:=e5.cell;have l1:=e5.frozen)
   | (go_at_call 65;(with_reducible refine (zag _ _ s p 0 _ r5).mono ?_);rintro e w7 ⟨rfl,rfl⟩))
 have hgs:=heap_alloc_new w6 (.cells #[.int .i64 (p:Int),.int .i64 2] 73);have bF:=b5.alloc (.cells #[.int .i64 (p:Int),.int .i64 2] 73);have eF:=e5.alloc (.cells #[.int .i64 (p:Int),.int .i64 2] 73);have hBF:=hB5.alloc hB5.size (.cells #[.int .i64 (p:Int),.int .i64 2] 73);have hgn:w6.heap.size≠w.heap.size:=(by have:=b5.lt;omega);have hge:w6.heap.size≠w.heap.size+1:=(by have:=e5.lt;omega);have hgB:w.heap.size<=w6.heap.size:=hB5.size;generalize w6.alloc (.cells #[.int .i64 (p:Int),.int .i64 2] 73)=w9 at *;generalize w6.heap.size=gs at *;refine leaves_cons (f:=62) (args:=#[.pointer (some ⟨w.heap.size,0,none⟩),.pointer (some ⟨w.heap.size+1,0,none⟩)]) (by simp) (by simp[go_sem]) ?_;refine (zgn _ w.heap.size w.heap.size (w.heap.size+1) gs _ _ _ bF eF (by omega) (Nat.le_refl _) (by omega)).mono ?_;rintro e u' wF ⟨rfl,rfl,b9,e9,h9,k9⟩;obtain⟨F0,F1,F2,F3,F4,F5,F6,F7⟩:=b9.cell;have G0:=e9.cell;have hx:XParse w s (.returned (.tuple #[nodeV T.zero (.slice none 0 0),.iface 69 (.pointer (some ⟨gs,0,none⟩))])) wF:=by
   unfold XParse;rw[HE.out];exact⟨gs,rfl,(k9 gs hgn hge).trans hgs,hgB,hBF.trans h9⟩
 refine zbo ?_ hx;simp[nodeV,results,Tryz.results38,go_sem,F0,F1,F2,F3,F4,F5,F6,F7,G0]
set_option maxRecDepth 20000 in
set_option maxHeartbeats 400000 in
theorem ziz (w:World) (s:ByteArray) (hl:¬ 200<s.size) (t:T) (p:Nat) (hp:pat s 20 false 0 = .ok (t,p)) (hne:p=s.size):Calls Tryz.prog 38 #[.string s] w (XParse w s):=by
 have HE:Hid (xparse s = .ok t):=by show xparse s=_;unfold xparse;rw[if_neg hl,hp];simp[hne]
 have HD:=Zh (fun w g h=>zb0 w g s p 0 h (by omega));rw[show (p==s.size)=true by simpa using hne] at HD;clear hne;have hmf:∀ (fn:Fn) (first cap:Array Value) (w:World),(Instr.makeFunc fn first cap).run Tryz.prog w = .ok (.func fn first cap) w:=fun _ _ _ _=>rfl
 have hnot:∀ (x:Bool) (w:World),(Op.unary .not (.bool x)).run Tryz.prog w = .ok (.bool (!x)) w:=fun _ _=>rfl
 have HP:=Zh (fun w g h=>zgm 20 (by omega) w g s 0 0 h (by omega) (by omega) (by omega));simp only[hp] at HP;clear hp;go_enter_defers Tryz.func38,Tryz.ntmps38;go_upto_region 5 with fail
 have bn:=((Box8.new0 w).alloc (.cells #[.nilIface] 28)).alloc (.cells #[.string s,.int .i64 0,.int .i64 0] 121);have be:BoxE (((w.alloc (.cells #[.int .i64 0,.int .u64 0,.int .u64 0,.int .u64 0,.int .u64 0,.int .i64 0,.int .i64 0,.slice none 0 0] 41)).alloc (.cells #[.nilIface] 28)).alloc (.cells #[.string s,.int .i64 0,.int .i64 0] 121)) (w.heap.size+1) .nilIface:=by
   have h:=heap_alloc_new (w.alloc (.cells #[.int .i64 0,.int .u64 0,.int .u64 0,.int .u64 0,.int .u64 0,.int .i64 0,.int .i64 0,.slice none 0 0] 41)) (.cells #[.nilIface] 28);rw[World.size_alloc] at h;exact (Below.heap_alloc _ _ _ (by simp)).trans h
 have rx:Rx (((w.alloc (.cells #[.int .i64 0,.int .u64 0,.int .u64 0,.int .u64 0,.int .u64 0,.int .i64 0,.int .i64 0,.slice none 0 0] 41)).alloc (.cells #[.nilIface] 28)).alloc (.cells #[.string s,.int .i64 0,.int .i64 0] 121)) (w.heap.size+1+1) s 0 0:=by
   have h:=heap_alloc_new ((w.alloc (.cells #[.int .i64 0,.int .u64 0,.int .u64 0,.int .u64 0,.int .u64 0,.int .i64 0,.int .i64 0,.slice none 0 0] 41)).alloc (.cells #[.nilIface] 28)) (.cells #[.string s,.int .i64 0,.int .i64 0] 121);rw[World.size_alloc,World.size_alloc] at h;exact h
 have hB:Below w.heap.size w (((w.alloc (.cells #[.int .i64 0,.int .u64 0,.int .u64 0,.int .u64 0,.int .u64 0,.int .i64 0,.int .i64 0,.slice none 0 0] 41)).alloc (.cells #[.nilIface] 28)).alloc (.cells #[.string s,.int .i64 0,.int .i64 0] 121)):=(((Below.refl _ _).alloc (Nat.le_refl _) _).alloc (by simp) _).alloc (by simp;omega) _;generalize ((w.alloc (.cells #[.int .i64 0,.int .u64 0,.int .u64 0,.int .u64 0,.int .u64 0,.int .i64 0,.int .i64 0,.slice none 0 0] 41)).alloc (.cells #[.nilIface] 28)).alloc (.cells #[.string s,.int .i64 0,.int .i64 0] 121)=w2 at *;go_wp2_with (first
   | (go_at_call 63;(refine (HP.out _ _ rx).mono ?_);rintro e w3 ⟨⟨v,rfl,k,rfl,ht⟩,r3,o3⟩;obtain⟨A,tn,tc,rfl⟩:=ht.form;unfold nodeV;have b3:=bn.grown o3 (by simp;omega);have e3:=be.block (o3.block (w.heap.size+1) be.lt (by simp));have hB3:Below w.heap.size w w3:=hB.grown o3 hB.size (fun j e=>by injection e with e;omega);have hbl:=b3.lt;have hel:=e3.lt;obtain⟨m0,m1,m2,m3,m4,m5,m6,m7⟩:=b3.cell;obtain⟨y0,y1,y2,y3,y4,y5,y6,y7⟩:=b3.frozen;have d0:=e3.cell;have d1:=e3.frozen;have r4:Rx (put8 w3 w.heap.size t (.slice A tn tc)) (w.heap.size+1+1) s p 0:=r3.block (zad w3 _ t _ _ (by omega)))
   | (go_at_call 64;(refine (HD.out _ _ r4).mono ?_);rintro e w5 ⟨rfl,n,rfl⟩;have b5:=(b3.put (t':=t) (k' := .slice A tn tc) t (.slice A tn tc)).drewN n;have e5:=(e3.put8 (g':=w.heap.size) (by omega) t (.slice A tn tc)).drewN n;have hB5:=below_drewN (zae hB3 (Nat.le_refl _) t (.slice A tn tc)) n;have ht5:=((ht.weak (ok':=fun b=>w.heap.size+1<b) (fun b hb _=>by have:=rx.lt;omega)).put8 (g':=w.heap.size) (t':=t) (k' := .slice A tn tc) fun b hb=>by omega).drewN n;have r5:=r4.drewN n;generalize (put8 w3 w.heap.size t (.slice A tn tc)).drewN n=w6 at *;obtain⟨n0,n1,n2,n3,n4,n5,n6,n7⟩:=b5.cell;obtain⟨z0,z1,z2,z3,z4,z5,z6,z7⟩:=b5.frozen;have l0:=e5.cell;have l1:=e5.frozen))
 have bF:=(b5.put (t':=t) (k' := .slice A tn tc) t (.slice A tn tc)).far (a:=⟨w.heap.size+1,0,none⟩) (by show w.heap.size≠w.heap.size+1;omega) .nilIface;have eF:=(e5.put8 (g':=w.heap.size) (by omega) t (.slice A tn tc)).set .nilIface;have tF:=(((ht5.put8 (g':=w.heap.size) (t':=t) (k' := .slice A tn tc) fun b hb=>by omega).far (a:=⟨w.heap.size+1,0,none⟩) (fun b hb=>by show b≠w.heap.size+1;omega) .nilIface)).weak (ok':=fun b=>w.heap.size<=b) fun b hb _=>by omega
 have hF:=(zae hB5 (Nat.le_refl _) t (.slice A tn tc)).setCell (p:=⟨w.heap.size+1,0,none⟩) (by show w.heap.size<=w.heap.size+1;omega) .nilIface;change bodyPostD _ _ _ _ _ ((put8 w6 w.heap.size t (.slice A tn tc)).setCell ⟨w.heap.size+1,0,none⟩ .nilIface);generalize (put8 w6 w.heap.size t (.slice A tn tc)).setCell ⟨w.heap.size+1,0,none⟩ .nilIface=w9 at *;refine leaves_cons (f:=62) (args:=#[.pointer (some ⟨w.heap.size,0,none⟩),.pointer (some ⟨w.heap.size+1,0,none⟩)]) (by simp) (by simp[go_sem]) ?_;refine (zmg _ w.heap.size (w.heap.size+1)).mono ?_;rintro e u' wF ⟨rfl,rfl,rfl⟩;obtain⟨F0,F1,F2,F3,F4,F5,F6,F7⟩:=bF.cell;have G0:=eF.cell;have hx:XParse w s (.returned (.tuple #[nodeV t (.slice A tn tc),.nilIface])) w9:=by
   unfold XParse;rw[HE.out];exact⟨_,rfl,tF,hF⟩
 refine zbo ?_ hx;simp[nodeV,results,Tryz.results38,go_sem,F0,F1,F2,F3,F4,F5,F6,F7,G0]
theorem zkw (w:World) (s:ByteArray) (hm:s.size<=9223372036854775807):Calls Tryz.prog 38 #[.string s] w (XParse w s):=by
 by_cases hl:200<s.size
 . exact zfo w s hl hm
 . cases hp:pat s 20 false 0 with
   | error x=>exact zhj w s hl x.1 x.2 hp
   | ok x =>
     by_cases hne:x.2=s.size
     . exact ziz w s hl x.1 x.2 hp hne
     . exact zfn w s hl x.1 x.2 hp hne
end
end Go.Proofs.YtgbdanddbgomhaaGreatDoor
