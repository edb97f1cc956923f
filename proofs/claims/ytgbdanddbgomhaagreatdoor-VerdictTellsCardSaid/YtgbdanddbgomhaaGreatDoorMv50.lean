import Derived.Test.YtgbdanddbgomhaaGreatDoorMv49
import Derived.Test.YtgbdanddbgomhaaGreatDoorMv43
import Derived.Test.YtgbdanddbgomhaaGreatDoorMv42
set_option linter.unusedVariables false
set_option linter.unusedSimpArgs false
namespace Go.Proofs.YtgbdanddbgomhaaGreatDoor
open Go Go.RowKit
section
attribute [local go_sem ↓] Go.wp_at_zero Go.wp_at_succ
theorem zqg (p:Value) (x:TypeId) (w:World):(Instr.typeAssert (.iface 71 p) x 69 true).run Tryz.prog w = .ok (.tuple #[.pointer none,.bool false]) w:=by
 unfold Instr.typeAssert;simp[run_underlying Tryz.underlying69,Sem.run_bind,Result.andThen]
theorem zif (w:World):Calls Tryz.prog 8 #[.iface 71 (.int .i64 1)] w fun e w'=>e = .returned (.tuple #[.int .i64 1,.int .i64 (-1)])∧∃ n,w'=w.drewN n:=by
 have hta:=zqg;have HC:Hid (∀ W,Calls Tryz.prog 27 #[.iface 71 (.int .i64 1)] W fun e w'=>e = .returned (.int .i64 1)∧W=w'):=Zh fun W=>zs1 W 1 (by omega) (by omega)
 go_enter Tryz.func8,Tryz.ntmps8;go_wp2_with (go_at_call 27;(with_reducible refine (HC.out _).mono ?_);rintro e w1 ⟨rfl,rfl⟩);go_ret2;exact⟨rfl,0,rfl⟩
theorem zmj {w:World} {er:Value} {n k:Int} (h:SpotV w er n k):Calls Tryz.prog 8 #[er] w fun e w'=>e = .returned (.tuple #[.int .i64 n,.int .i64 k])∧∃ m,w'=w.drewN m:=by
 rcases h with ⟨rfl,rfl,rfl⟩|⟨gs,rfl,hgs⟩
 . exact zif w
 . exact spot_p w gs k n hgs
def cf15:Cf:=⟨4,8,9,4607182418800017408,42⟩
theorem zo6:CfW cf15:=⟨by decide,by decide,by decide,by decide,by decide⟩
theorem rate15:rateN 4607182418800017408=1:=by decide +kernel
def ab15:ByteArray:=⟨#[97,32,97,98,32,108,117,104,110]⟩
def em15:ByteArray:=⟨#[97,32,97,63,32,112,108,97,105,110]⟩
theorem none15:checkR ⟨#[]⟩ cf15 = .ok []:=by kernel_rfl
theorem two15:checkR ab15 cf15 = .ok [(.mk 2 noneP 0 0 [.one (rangeP 97 97),.one (rangeP 98 98)],true)]:=by kernel_rfl
theorem bad15:checkR em15 cf15 = .error (5,0):=by kernel_rfl
theorem zmv:(rateN cf15.rate:Int)=1:=by unfold cf15;rw[rate15];rfl
set_option maxRecDepth 20000 in
theorem zpe (w:World) (hd:Dor w) (hm:MaxL w):Calls Tryz.prog 6 #[.string ⟨#[]⟩,.agg #[.int .i64 4,.int .i64 8,.int .i64 9,.int .u64 4607182418800017408,.int .u8 42]] w fun e w'=>∃ A c,e = .returned (.tuple #[.slice A 0 c,.int .i64 1,.nilIface])∧Below w.heap.size w w':=by
 refine (ze6 cf15 zo6 ⟨#[]⟩ (by decide) w hd hm).mono fun e w' h=>?_
 rw[none15,zmv] at h;obtain⟨⟨A,c,h1,_⟩,h2⟩:=h;exact⟨A,c,h1,h2⟩
set_option maxRecDepth 20000 in
theorem zr5 (w:World) (hd:Dor w) (hm:MaxL w):Calls Tryz.prog 6 #[.string ⟨#[97,32,97,98,32,108,117,104,110]⟩,.agg #[.int .i64 4,.int .i64 8,.int .i64 9,.int .u64 4607182418800017408,.int .u8 42]] w fun e w'=>∃ A c,e = .returned (.tuple #[.slice A 1 c,.int .i64 1,.nilIface])∧Below w.heap.size w w':=by
 refine (ze6 cf15 zo6 ab15 (by decide) w hd hm).mono fun e w' h=>?_
 rw[two15,zmv] at h;obtain⟨⟨A,c,h1,_⟩,h2⟩:=h;exact⟨A,c,h1,h2⟩
set_option maxRecDepth 20000 in
theorem zs8 (w:World) (hd:Dor w) (hm:MaxL w):Calls Tryz.prog 6 #[.string ⟨#[97,32,97,63,32,112,108,97,105,110]⟩,.agg #[.int .i64 4,.int .i64 8,.int .i64 9,.int .u64 4607182418800017408,.int .u8 42]] w fun e w'=>∃ er,e = .returned (.tuple #[.slice none 0 0,.int .i64 0,er])∧SpotV w' er 5 0∧Below w.heap.size w w':=by
 refine (ze6 cf15 zo6 em15 (by decide) w hd hm).mono fun e w' h=>?_
 rw[bad15] at h;obtain⟨⟨er,h1,h2⟩,h3⟩:=h;exact⟨er,h1,h2,h3⟩
set_option maxRecDepth 20000 in
set_option maxHeartbeats 2000000 in
theorem up15_p (w:World) (hd:Dor w) (hm:MaxL w):Calls Tryz.prog 5 #[] w fun e w'=>e = .returned (.bool true)∧Below w.heap.size w w':=by
 obtain⟨w1,hw1⟩:∃ w1,w.alloc (.cells #[.int .i64 4,.int .i64 8,.int .i64 9,.int .u64 4607182418800017408,.int .u8 42] 24)=w1:=⟨_,rfl⟩;have hb1:Below w.heap.size w w1:=(by rw[←hw1];exact (Below.refl _ _).alloc (Nat.le_refl _) _);have hx1:w1.heap[w.heap.size]?=some (.cells #[.int .i64 4,.int .i64 8,.int .i64 9,.int .u64 4607182418800017408,.int .u8 42] 24 (0,0)):=(by rw[←hw1];exact heap_alloc_new w _);have H1:=Zh (zpe w1 (hd.stays hb1) (hm.stays hb1));have H2:=Zh (fun W (hb:Below w1.heap.size w1 W)=>zr5 W ((hd.stays hb1).stays hb) ((hm.stays hb1).stays hb));have H3:=Zh (fun W (hb:Below w1.heap.size w1 W)=>zs8 W ((hd.stays hb1).stays hb) ((hm.stays hb1).stays hb));have HX:=Zh (fun W (hb:Below w1.heap.size w1 W)=>(show W.heap[w.heap.size]?=some (.cells #[.int .i64 4,.int .i64 8,.int .i64 9,.int .u64 4607182418800017408,.int .u8 42] 24 (0,0)) from (hb.block w.heap.size (za0 hx1)).trans hx1));have HB1:=Zh hb1;clear hb1 hx1 hd hm;go_enter Tryz.func5,Tryz.ntmps5;go_upto_region 2 with fail
 try rw[hw1]
 have HW:=Zh hw1;clear hw1;have y0:w1.cell? ⟨w.heap.size,0,none⟩=some (.int .i64 4):=cell_of_row w1 _ 0 _ 24 (0,0) (HX.out _ (Below.refl _ _));have y1:w1.cell? ⟨w.heap.size,1,none⟩=some (.int .i64 8):=cell_of_row w1 _ 1 _ 24 (0,0) (HX.out _ (Below.refl _ _));have y2:w1.cell? ⟨w.heap.size,2,none⟩=some (.int .i64 9):=cell_of_row w1 _ 2 _ 24 (0,0) (HX.out _ (Below.refl _ _));have y3:w1.cell? ⟨w.heap.size,3,none⟩=some (.int .u64 4607182418800017408):=cell_of_row w1 _ 3 _ 24 (0,0) (HX.out _ (Below.refl _ _));have y4:w1.cell? ⟨w.heap.size,4,none⟩=some (.int .u8 42):=cell_of_row w1 _ 4 _ 24 (0,0) (HX.out _ (Below.refl _ _));go_wp2_with (first
   | (go_at_call 6;(with_reducible refine H1.out.mono ?_);rintro e w2 ⟨A2,c2,rfl,hb2⟩;have HB2:=Zh hb2;have hx2:=HX.out _ hb2;have y0:w2.cell? ⟨w.heap.size,0,none⟩=some (.int .i64 4):=cell_of_row w2 _ 0 _ 24 (0,0) hx2;have y1:w2.cell? ⟨w.heap.size,1,none⟩=some (.int .i64 8):=cell_of_row w2 _ 1 _ 24 (0,0) hx2;have y2:w2.cell? ⟨w.heap.size,2,none⟩=some (.int .i64 9):=cell_of_row w2 _ 2 _ 24 (0,0) hx2;have y3:w2.cell? ⟨w.heap.size,3,none⟩=some (.int .u64 4607182418800017408):=cell_of_row w2 _ 3 _ 24 (0,0) hx2;have y4:w2.cell? ⟨w.heap.size,4,none⟩=some (.int .u8 42):=cell_of_row w2 _ 4 _ 24 (0,0) hx2;clear hb2 hx2)
   | (go_at_call 6;(with_reducible refine (H2.out _ HB2.out).mono ?_);rintro e w3 ⟨A3,c3,rfl,hb3⟩;have HB3:=Zh (gro HB2.out hb3);have hx3:=HX.out _ HB3.out;have y0:w3.cell? ⟨w.heap.size,0,none⟩=some (.int .i64 4):=cell_of_row w3 _ 0 _ 24 (0,0) hx3;have y1:w3.cell? ⟨w.heap.size,1,none⟩=some (.int .i64 8):=cell_of_row w3 _ 1 _ 24 (0,0) hx3;have y2:w3.cell? ⟨w.heap.size,2,none⟩=some (.int .i64 9):=cell_of_row w3 _ 2 _ 24 (0,0) hx3;have y3:w3.cell? ⟨w.heap.size,3,none⟩=some (.int .u64 4607182418800017408):=cell_of_row w3 _ 3 _ 24 (0,0) hx3;have y4:w3.cell? ⟨w.heap.size,4,none⟩=some (.int .u8 42):=cell_of_row w3 _ 4 _ 24 (0,0) hx3;clear hb3 hx3)
   | (go_at_call 6;(with_reducible refine (H3.out _ HB3.out).mono ?_);rintro e w4 ⟨er,rfl,her,hb4⟩;have HB4:=Zh (gro HB3.out hb4);have HER:=Zh her;clear hb4 her)
   | (go_at_call 8;(with_reducible refine (zmj HER.out).mono ?_);rintro e w5 ⟨rfl,m5,rfl⟩))
 go_ret;exact⟨rfl,zai (gro HB1.out HB4.out) _⟩
end
section
attribute [local go_sem ↓] Go.wp_at_zero Go.wp_at_succ
set_option maxRecDepth 20000 in
set_option maxHeartbeats 4000000 in
theorem zfe (w:World) (s:ByteArray) (c:Cf) (hs:s.size<=9223372036854775807) (hc:CfW c) (hd:Dor w) (hm:MaxL w):
   Calls Tryz.prog 3 #[.string s,.agg #[.int .i64 c.lam,.int .i64 c.q,.int .i64 c.cap,.int .u64 (c.rate:Int),.int .u8 (c.mask:Int)]] w fun e w'=>e = .returned (.bool true)∧Below w.heap.size w w':=by
 have hb1:Below w.heap.size w (w.alloc (.cells #[.int .i64 c.lam,.int .i64 c.q,.int .i64 c.cap,.int .u64 (c.rate:Int),.int .u8 (c.mask:Int)] 24)):=(Below.refl _ _).alloc (Nat.le_refl _) _;have HU:=Zh (up15_p (w.alloc (.cells #[.int .i64 c.lam,.int .i64 c.q,.int .i64 c.cap,.int .u64 (c.rate:Int),.int .u8 (c.mask:Int)] 24)) (hd.stays hb1) (hm.stays hb1));have HB1:=Zh hb1;have HBX:=Zh (heap_alloc_new w (.cells #[.int .i64 c.lam,.int .i64 c.q,.int .i64 c.cap,.int .u64 (c.rate:Int),.int .u8 (c.mask:Int)] 24))
 by_cases hl:5000<s.size
 . have hl':(5000:Int)<(s.size:Int):=(by omega);clear hl;go_enter Tryz.func3,Tryz.ntmps3;go_wp2_with (go_at_call 5;(with_reducible refine HU.out.mono ?_);rintro e w1 ⟨rfl,hb2⟩);go_ret;exact⟨rfl,gro HB1.out hb2⟩
 have hl':¬ (5000:Int)<(s.size:Int):=(by omega);have HC:=Zh (fun (W:World) (hb:Below w.heap.size w W)=>ze6 c hc s (by omega) W (hd.stays hb) (hm.stays hb));have HDC:=Zh (fun W=>zq3 c hc.rate hc.mask s (by omega) W);clear hl hs hc hd hm hb1;generalize (rateN c.rate:Int)=K at *;cases hr:checkR s c with
 | error x =>
   obtain⟨n,k⟩:=x;rw[hr] at HDC;have HCE:Hid (∀ W,Below w.heap.size w W->Calls Tryz.prog 6 #[.string s,.agg #[.int .i64 c.lam,.int .i64 c.q,.int .i64 c.cap,.int .u64 (c.rate:Int),.int .u8 (c.mask:Int)]] W fun e w'=>∃ er,e = .returned (.tuple #[.slice none 0 0,.int .i64 0,er])∧SpotV w' er n k∧Below W.heap.size W w'):=Zh fun W hb=>(HC.out W hb).mono fun e w' h=>by
     rw[hr] at h;obtain⟨⟨er,h1,h2⟩,h3⟩:=h;exact⟨er,h1,h2,h3⟩
   have HDE:Hid (∀ W,Calls Tryz.prog 7 #[.string s,.agg #[.int .i64 c.lam,.int .i64 c.q,.int .i64 c.cap,.int .u64 (c.rate:Int),.int .u8 (c.mask:Int)]] W fun e w'=>e = .returned (.tuple #[.slice none 0 0,.int .i64 0,.int .i64 n,.int .i64 k])∧Below W.heap.size W w'):=Zh fun W=>(HDC.out W).mono fun e w' h=>h
   clear HC HDC hr;go_enter Tryz.func3,Tryz.ntmps3;go_upto_region 4 with (go_at_call 5;(with_reducible refine HU.out.mono ?_);rintro e w1 ⟨rfl,hb2⟩;have HB2:=Zh (gro HB1.out hb2);have HX2:=Zh ((hb2.block w.heap.size (za0 HBX.out)).trans HBX.out);clear hb2)
   have y0:w1.cell? ⟨w.heap.size,0,none⟩=some (.int .i64 c.lam):=cell_of_row w1 _ 0 _ 24 (0,0) HX2.out;have y1:w1.cell? ⟨w.heap.size,1,none⟩=some (.int .i64 c.q):=cell_of_row w1 _ 1 _ 24 (0,0) HX2.out;have y2:w1.cell? ⟨w.heap.size,2,none⟩=some (.int .i64 c.cap):=cell_of_row w1 _ 2 _ 24 (0,0) HX2.out;have y3:w1.cell? ⟨w.heap.size,3,none⟩=some (.int .u64 (c.rate:Int)):=cell_of_row w1 _ 3 _ 24 (0,0) HX2.out;have y4:w1.cell? ⟨w.heap.size,4,none⟩=some (.int .u8 (c.mask:Int)):=cell_of_row w1 _ 4 _ 24 (0,0) HX2.out;go_wp2_with (first
     | (go_at_call 6;(with_reducible refine (HCE.out _ HB2.out).mono ?_);rintro e w3 ⟨er,rfl,her,hb3⟩;have HX3:=Zh ((hb3.block w.heap.size (za0 HX2.out)).trans HX2.out);have HB3:=Zh (gro HB2.out hb3);have y0:w3.cell? ⟨w.heap.size,0,none⟩=some (.int .i64 c.lam):=cell_of_row w3 _ 0 _ 24 (0,0) HX3.out;have y1:w3.cell? ⟨w.heap.size,1,none⟩=some (.int .i64 c.q):=cell_of_row w3 _ 1 _ 24 (0,0) HX3.out;have y2:w3.cell? ⟨w.heap.size,2,none⟩=some (.int .i64 c.cap):=cell_of_row w3 _ 2 _ 24 (0,0) HX3.out;have y3:w3.cell? ⟨w.heap.size,3,none⟩=some (.int .u64 (c.rate:Int)):=cell_of_row w3 _ 3 _ 24 (0,0) HX3.out;have y4:w3.cell? ⟨w.heap.size,4,none⟩=some (.int .u8 (c.mask:Int)):=cell_of_row w3 _ 4 _ 24 (0,0) HX3.out;have HER:=Zh her;clear hb3 her)
     | (go_at_call 7;(with_reducible refine (HDE.out _).mono ?_);rintro e w4 ⟨rfl,hb4⟩;have HB4:=Zh (gro HB3.out hb4);have HER4:=Zh (HER.out.stays hb4);clear hb4)
     | (go_at_call 8;(with_reducible refine (zmj HER4.out).mono ?_);rintro e w5 ⟨rfl,m5,rfl⟩))
   refine wp_loop_rounds 1 ?_;rw[rounds_succ];go_wp2;go_ret;exact⟨rfl,zai HB4.out _⟩
 | ok L =>
   obtain⟨h1,h8,_⟩:=zo5 hr;obtain⟨M,hM⟩:∃ M,L.length=M:=⟨_,rfl⟩;rw[hr] at HDC;have HCE:Hid (∀ W,Below w.heap.size w W->Calls Tryz.prog 6 #[.string s,.agg #[.int .i64 c.lam,.int .i64 c.q,.int .i64 c.cap,.int .u64 (c.rate:Int),.int .u8 (c.mask:Int)]] W fun e w'=>∃ A cp,e = .returned (.tuple #[.slice A M cp,.int .i64 K,.nilIface])∧RdRules w' A L∧Below W.heap.size W w'):=Zh fun W hb=>(HC.out W hb).mono fun e w' h=>by
     rw[hr] at h;obtain⟨⟨A,cp,h1,h2⟩,h3⟩:=h;rw[hM] at h1;exact⟨A,cp,h1,h2,h3⟩
   have HDE:Hid (∀ W,Calls Tryz.prog 7 #[.string s,.agg #[.int .i64 c.lam,.int .i64 c.q,.int .i64 c.cap,.int .u64 (c.rate:Int),.int .u8 (c.mask:Int)]] W fun e w'=>∃ A cp,e = .returned (.tuple #[.slice A M cp,.int .i64 K,.int .i64 0,.int .i64 0])∧RdRules w' A L∧Below W.heap.size W w'):=Zh fun W=>(HDC.out W).mono fun e w' h=>by
     obtain⟨⟨A,cp,h1,h2⟩,h3⟩:=h;rw[hM] at h1;exact⟨A,cp,h1,h2,h3⟩
   have HM:=Zh hM;rw[hM] at h8;clear HC HDC hr h1 hM;go_enter Tryz.func3,Tryz.ntmps3;go_upto_region 4 with (go_at_call 5;(with_reducible refine HU.out.mono ?_);rintro e w1 ⟨rfl,hb2⟩;have HB2:=Zh (gro HB1.out hb2);have HX2:=Zh ((hb2.block w.heap.size (za0 HBX.out)).trans HBX.out);clear hb2)
   have y0:w1.cell? ⟨w.heap.size,0,none⟩=some (.int .i64 c.lam):=cell_of_row w1 _ 0 _ 24 (0,0) HX2.out;have y1:w1.cell? ⟨w.heap.size,1,none⟩=some (.int .i64 c.q):=cell_of_row w1 _ 1 _ 24 (0,0) HX2.out;have y2:w1.cell? ⟨w.heap.size,2,none⟩=some (.int .i64 c.cap):=cell_of_row w1 _ 2 _ 24 (0,0) HX2.out;have y3:w1.cell? ⟨w.heap.size,3,none⟩=some (.int .u64 (c.rate:Int)):=cell_of_row w1 _ 3 _ 24 (0,0) HX2.out;have y4:w1.cell? ⟨w.heap.size,4,none⟩=some (.int .u8 (c.mask:Int)):=cell_of_row w1 _ 4 _ 24 (0,0) HX2.out;go_wp2_with (first
     | (go_at_call 6;(with_reducible refine (HCE.out _ HB2.out).mono ?_);rintro e w3 ⟨A,cp,rfl,hra,hb3⟩;have HX3:=Zh ((hb3.block w.heap.size (za0 HX2.out)).trans HX2.out);have HB3:=Zh (gro HB2.out hb3);have y0:w3.cell? ⟨w.heap.size,0,none⟩=some (.int .i64 c.lam):=cell_of_row w3 _ 0 _ 24 (0,0) HX3.out;have y1:w3.cell? ⟨w.heap.size,1,none⟩=some (.int .i64 c.q):=cell_of_row w3 _ 1 _ 24 (0,0) HX3.out;have y2:w3.cell? ⟨w.heap.size,2,none⟩=some (.int .i64 c.cap):=cell_of_row w3 _ 2 _ 24 (0,0) HX3.out;have y3:w3.cell? ⟨w.heap.size,3,none⟩=some (.int .u64 (c.rate:Int)):=cell_of_row w3 _ 3 _ 24 (0,0) HX3.out;have y4:w3.cell? ⟨w.heap.size,4,none⟩=some (.int .u8 (c.mask:Int)):=cell_of_row w3 _ 4 _ 24 (0,0) HX3.out;have HRA:=Zh hra;clear hb3 hra)
     | (go_at_call 7;(with_reducible refine (HDE.out _).mono ?_);rintro e w4 ⟨B,cq,rfl,hrb,hb4⟩;have HB4:=Zh (gro HB3.out hb4);have HRA4:=Zh (HRA.out.stays hb4);have HRB4:=Zh hrb;clear hb4 hrb)
     | (go_at_call 8;(with_reducible refine (zow _).mono ?_);rintro e w5 ⟨rfl,rfl⟩))
   go_loopg [15] M (fun mm i wr=>∃ k:Nat,i = .int .i64 (k:Int)∧k<=M∧mm=M-k∧Below w4.heap.size w4 wr)
   case atStart=>exact⟨0,rfl,Nat.zero_le _,rfl,Below.refl _ _⟩
   case round =>
     obtain⟨k,rfl,hk,hmk,hbw⟩:=hrel;have HMK:=Zh hmk;have HBW:=Zh hbw;clear hmk hbw
     by_cases hkM:k<M
     . have hkM':(k:Int)<(M:Int):=(by omega);have hk0:(0:Int)<=(k:Int):=(by omega);obtain⟨r,hr⟩:∃ r,L[k]?=some r:=⟨_,List.getElem?_eq_getElem (by rw[HM.out];exact hkM)⟩;obtain⟨g,off,kk,e1,hg,hcg,htg⟩:=(HRA4.out.stays HBW.out) k r hr;obtain⟨g',off',kk',e1',hg',hcg',htg'⟩:=(HRB4.out.stays HBW.out) k r hr;subst e1 e1';obtain⟨A1,n1,c1,rfl⟩:=htg.form;obtain⟨A2,n2,c2,rfl⟩:=htg'.form;have x0:wr.cell? ⟨g,off+k*9,none⟩=some (.int .i64 r.1.op):=hcg 0 _ rfl;have x1:=hcg 1 _ rfl;have x2:=hcg 2 _ rfl;have x3:=hcg 3 _ rfl;have x4:=hcg 4 _ rfl;have x5:=hcg 5 _ rfl;have x6:=hcg 6 _ rfl;have x7:=hcg 7 _ rfl;have z0:wr.cell? ⟨g',off'+k*9,none⟩=some (.int .i64 r.1.op):=hcg' 0 _ rfl;have z1:=hcg' 1 _ rfl;have z2:=hcg' 2 _ rfl;have z3:=hcg' 3 _ rfl;have z4:=hcg' 4 _ rfl;have z5:=hcg' 5 _ rfl;have z6:=hcg' 6 _ rfl;have z7:=hcg' 7 _ rfl;have HX8:=Zh (hcg 8 _ rfl);have HZ8:=Zh (hcg' 8 _ rfl);have HSM:=Zh (same_p r.1 wr.drew _ _ _ _ (htg.stays (Below.refl _ _).drew) (htg'.stays (Below.refl _ _).drew));clear hcg hcg' htg htg' hr;go_wp2_with fail;go_still_tail 10,(by kernel_rfl);change wpList _ _ _ _ _ wr.drew;go_wp2_with (go_at_call 9;(with_reducible refine HSM.out.mono ?_);rintro e w5 ⟨rfl,hb5⟩;have HB5:=Zh (zaf hb5);clear hb5);have x8:=za4 HX8.out HB5.out;have z8:=za4 HZ8.out HB5.out;go_quiet (fail);go_wp2;go_roundg (M-(k+1))
       case measure=>have:=HMK.out;omega
       case rel=>exact⟨k+1,by go_num,by omega,rfl,zai (gro HBW.out HB5.out) _⟩
     . have hkM':¬ (k:Int)<(M:Int):=(by omega);go_wp2;go_ret;exact⟨rfl,gro HB4.out HBW.out⟩
end
end Go.Proofs.YtgbdanddbgomhaaGreatDoor
