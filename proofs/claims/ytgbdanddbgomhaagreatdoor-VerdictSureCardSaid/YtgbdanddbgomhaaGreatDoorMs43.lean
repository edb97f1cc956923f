import Derived.Test.YtgbdanddbgomhaaGreatDoorMs41
import Derived.Test.YtgbdanddbgomhaaGreatDoorMs35
set_option linter.unusedVariables false
set_option linter.unusedSimpArgs false
namespace Go.Proofs.YtgbdanddbgomhaaGreatDoor
open Go Go.RowKit
section
attribute [local go_sem ↓] Go.wp_at_zero Go.wp_at_succ
theorem zm4 (p:Value) (x:TypeId) (w:World):(Instr.typeAssert (.iface 71 p) x 69 true).run Tryz.prog w = .ok (.tuple #[.pointer none,.bool false]) w:=by
 unfold Instr.typeAssert;simp[run_underlying Tryz.underlying69,Sem.run_bind,Result.andThen]
theorem zg0 (w:World):Calls Tryz.prog 8 #[.iface 71 (.int .i64 1)] w fun e w'=>e = .returned (.tuple #[.int .i64 1,.int .i64 (-1)])∧∃ n,w'=w.drewN n:=by
 have hta:=zm4;have HC:Hid (∀ W,Calls Tryz.prog 27 #[.iface 71 (.int .i64 1)] W fun e w'=>e = .returned (.int .i64 1)∧W=w'):=Zh fun W=>zn7 W 1 (by omega) (by omega)
 go_enter Tryz.func8,Tryz.ntmps8;go_wp2_with (go_at_call 27;(with_reducible refine (HC.out _).mono ?_);rintro e w1 ⟨rfl,rfl⟩);go_ret2;exact⟨rfl,0,rfl⟩
theorem zmq {w:World} {er:Value} {n k:Int} (h:SpotV w er n k):Calls Tryz.prog 8 #[er] w fun e w'=>e = .returned (.tuple #[.int .i64 n,.int .i64 k])∧∃ m,w'=w.drewN m:=by
 rcases h with ⟨rfl,rfl,rfl⟩|⟨gs,rfl,hgs⟩
 . exact zg0 w
 . exact spot_p w gs k n hgs
def cf15:Cf:=⟨4,8,9,4607182418800017408,42⟩
theorem zkn:CfW cf15:=⟨by decide,by decide,by decide,by decide,by decide⟩
theorem rate15:rateN 4607182418800017408=1:=by decide +kernel
def ab15:ByteArray:=⟨#[97,32,97,98,32,108,117,104,110]⟩
def em15:ByteArray:=⟨#[97,32,97,63,32,112,108,97,105,110]⟩
theorem none15:checkR ⟨#[]⟩ cf15 = .ok []:=by kernel_rfl
theorem two15:checkR ab15 cf15 = .ok [(.mk 2 noneP 0 0 [.one (rangeP 97 97),.one (rangeP 98 98)],true)]:=by kernel_rfl
theorem bad15:checkR em15 cf15 = .error (5,0):=by kernel_rfl
theorem zjt:(rateN cf15.rate:Int)=1:=by unfold cf15;rw[rate15];rfl
set_option maxRecDepth 20000 in
theorem zlj (w:World) (hd:Dor w) (hm:MaxL w):Calls Tryz.prog 6 #[.string ⟨#[]⟩,.agg #[.int .i64 4,.int .i64 8,.int .i64 9,.int .u64 4607182418800017408,.int .u8 42]] w fun e w'=>∃ A c,e = .returned (.tuple #[.slice A 0 c,.int .i64 1,.nilIface])∧Below w.heap.size w w':=by
 refine (zcm cf15 zkn ⟨#[]⟩ (by decide) w hd hm).mono fun e w' h=>?_
 rw[none15,zjt] at h;obtain⟨⟨A,c,h1,_⟩,h2⟩:=h;exact⟨A,c,h1,h2⟩
set_option maxRecDepth 20000 in
theorem zmn (w:World) (hd:Dor w) (hm:MaxL w):Calls Tryz.prog 6 #[.string ⟨#[97,32,97,98,32,108,117,104,110]⟩,.agg #[.int .i64 4,.int .i64 8,.int .i64 9,.int .u64 4607182418800017408,.int .u8 42]] w fun e w'=>∃ A c,e = .returned (.tuple #[.slice A 1 c,.int .i64 1,.nilIface])∧Below w.heap.size w w':=by
 refine (zcm cf15 zkn ab15 (by decide) w hd hm).mono fun e w' h=>?_
 rw[two15,zjt] at h;obtain⟨⟨A,c,h1,_⟩,h2⟩:=h;exact⟨A,c,h1,h2⟩
set_option maxRecDepth 20000 in
theorem znc (w:World) (hd:Dor w) (hm:MaxL w):Calls Tryz.prog 6 #[.string ⟨#[97,32,97,63,32,112,108,97,105,110]⟩,.agg #[.int .i64 4,.int .i64 8,.int .i64 9,.int .u64 4607182418800017408,.int .u8 42]] w fun e w'=>∃ er,e = .returned (.tuple #[.slice none 0 0,.int .i64 0,er])∧SpotV w' er 5 0∧Below w.heap.size w w':=by
 refine (zcm cf15 zkn em15 (by decide) w hd hm).mono fun e w' h=>?_
 rw[bad15] at h;obtain⟨⟨er,h1,h2⟩,h3⟩:=h;exact⟨er,h1,h2,h3⟩
set_option maxRecDepth 20000 in
set_option maxHeartbeats 2000000 in
theorem up15_p (w:World) (hd:Dor w) (hm:MaxL w):Calls Tryz.prog 5 #[] w fun e w'=>e = .returned (.bool true)∧Below w.heap.size w w':=by
 obtain⟨w1,hw1⟩:∃ w1,w.alloc (.cells #[.int .i64 4,.int .i64 8,.int .i64 9,.int .u64 4607182418800017408,.int .u8 42] 24)=w1:=⟨_,rfl⟩;have hb1:Below w.heap.size w w1:=(by rw[←hw1];exact (Below.refl _ _).alloc (Nat.le_refl _) _);have hx1:w1.heap[w.heap.size]?=some (.cells #[.int .i64 4,.int .i64 8,.int .i64 9,.int .u64 4607182418800017408,.int .u8 42] 24 (0,0)):=(by rw[←hw1];exact heap_alloc_new w _);have H1:=Zh (zlj w1 (hd.stays hb1) (hm.stays hb1));have H2:=Zh (fun W (hb:Below w1.heap.size w1 W)=>zmn W ((hd.stays hb1).stays hb) ((hm.stays hb1).stays hb));have H3:=Zh (fun W (hb:Below w1.heap.size w1 W)=>znc W ((hd.stays hb1).stays hb) ((hm.stays hb1).stays hb));have HX:=Zh (fun W (hb:Below w1.heap.size w1 W)=>(show W.heap[w.heap.size]?=some (.cells #[.int .i64 4,.int .i64 8,.int .i64 9,.int .u64 4607182418800017408,.int .u8 42] 24 (0,0)) from (hb.block w.heap.size (za0 hx1)).trans hx1));have HB1:=Zh hb1;clear hb1 hx1 hd hm;go_enter Tryz.func5,Tryz.ntmps5;go_upto_region 2 with fail
 try rw[hw1]
 have HW:=Zh hw1;clear hw1;have y0:w1.cell? ⟨w.heap.size,0,none⟩=some (.int .i64 4):=cell_of_row w1 _ 0 _ 24 (0,0) (HX.out _ (Below.refl _ _));have y1:w1.cell? ⟨w.heap.size,1,none⟩=some (.int .i64 8):=cell_of_row w1 _ 1 _ 24 (0,0) (HX.out _ (Below.refl _ _));have y2:w1.cell? ⟨w.heap.size,2,none⟩=some (.int .i64 9):=cell_of_row w1 _ 2 _ 24 (0,0) (HX.out _ (Below.refl _ _));have y3:w1.cell? ⟨w.heap.size,3,none⟩=some (.int .u64 4607182418800017408):=cell_of_row w1 _ 3 _ 24 (0,0) (HX.out _ (Below.refl _ _));have y4:w1.cell? ⟨w.heap.size,4,none⟩=some (.int .u8 42):=cell_of_row w1 _ 4 _ 24 (0,0) (HX.out _ (Below.refl _ _));go_wp2_with (first
   | (go_at_call 6;(with_reducible refine H1.out.mono ?_);rintro e w2 ⟨A2,c2,rfl,hb2⟩;have HB2:=Zh hb2;have hx2:=HX.out _ hb2;have y0:w2.cell? ⟨w.heap.size,0,none⟩=some (.int .i64 4):=cell_of_row w2 _ 0 _ 24 (0,0) hx2;have y1:w2.cell? ⟨w.heap.size,1,none⟩=some (.int .i64 8):=cell_of_row w2 _ 1 _ 24 (0,0) hx2;have y2:w2.cell? ⟨w.heap.size,2,none⟩=some (.int .i64 9):=cell_of_row w2 _ 2 _ 24 (0,0) hx2;have y3:w2.cell? ⟨w.heap.size,3,none⟩=some (.int .u64 4607182418800017408):=cell_of_row w2 _ 3 _ 24 (0,0) hx2;have y4:w2.cell? ⟨w.heap.size,4,none⟩=some (.int .u8 42):=cell_of_row w2 _ 4 _ 24 (0,0) hx2;clear hb2 hx2)
   | (go_at_call 6;(with_reducible refine (H2.out _ HB2.out).mono ?_);rintro e w3 ⟨A3,c3,rfl,hb3⟩;have HB3:=Zh (gro HB2.out hb3);have hx3:=HX.out _ HB3.out;have y0:w3.cell? ⟨w.heap.size,0,none⟩=some (.int .i64 4):=cell_of_row w3 _ 0 _ 24 (0,0) hx3;have y1:w3.cell? ⟨w.heap.size,1,none⟩=some (.int .i64 8):=cell_of_row w3 _ 1 _ 24 (0,0) hx3;have y2:w3.cell? ⟨w.heap.size,2,none⟩=some (.int .i64 9):=cell_of_row w3 _ 2 _ 24 (0,0) hx3;have y3:w3.cell? ⟨w.heap.size,3,none⟩=some (.int .u64 4607182418800017408):=cell_of_row w3 _ 3 _ 24 (0,0) hx3;have y4:w3.cell? ⟨w.heap.size,4,none⟩=some (.int .u8 42):=cell_of_row w3 _ 4 _ 24 (0,0) hx3;clear hb3 hx3)
   | (go_at_call 6;(with_reducible refine (H3.out _ HB3.out).mono ?_);rintro e w4 ⟨er,rfl,her,hb4⟩;have HB4:=Zh (gro HB3.out hb4);have HER:=Zh her;clear hb4 her)
   | (go_at_call 8;(with_reducible refine (zmq HER.out).mono ?_);rintro e w5 ⟨rfl,m5,rfl⟩))
 go_ret;exact⟨rfl,zbc (gro HB1.out HB4.out) _⟩
end
section
attribute [local go_sem ↓] Go.wp_at_zero Go.wp_at_succ
def CV (g o:Nat) (t:T) (k:Value) (b:Nat) (c:Cf) (W:World):Prop:=
 W.cell? ⟨g,o,none⟩=some (.int .i64 t.op)∧W.cell? ⟨g,o+1,none⟩=some (.int .u64 (word t.set 0))∧W.cell? ⟨g,o+2,none⟩=some (.int .u64 (word t.set 1))∧W.cell? ⟨g,o+3,none⟩=some (.int .u64 (word t.set 2))∧W.cell? ⟨g,o+4,none⟩=some (.int .u64 (word t.set 3))∧
 W.cell? ⟨g,o+5,none⟩=some (.int .i64 t.lo)∧W.cell? ⟨g,o+6,none⟩=some (.int .i64 t.hi)∧W.cell? ⟨g,o+7,none⟩=some k∧W.cell? ⟨b,0,none⟩=some (.int .i64 c.lam)∧W.cell? ⟨b,4,none⟩=some (.int .u8 (c.mask:Int))
theorem CV.stays {g o:Nat} {t:T} {k:Value} {b:Nat} {c:Cf} {w W:World} (h:CV g o t k b c w) (hb:Below w.heap.size w W):CV g o t k b c W:=by
 obtain⟨x0,x1,x2,x3,x4,x5,x6,x7,x8,x9⟩:=h;exact⟨za2 x0 hb,za2 x1 hb,za2 x2 hb,za2 x3 hb,za2 x4 hb,za2 x5 hb,za2 x6 hb,za2 x7 hb,za2 x8 hb,za2 x9 hb⟩
theorem zjb {xs:List Int} {t:T} {lam:Int} {m:Nat} (hwf:WF t) (hby:∀ k,k<xs.length->0<=xs.getD k 0∧xs.getD k 0<=255) (hl:(lenN true t:Int)<=lam) (h32:lam<=32) (hm:anyP t m=false) (hE:E xs t 0 xs.length):(xs.length:Int)<=lam∧∀ k,k<xs.length->xs.getD k 0≠(m:Int):=by
 have h1:=zni hwf 0 xs.length (Nat.zero_le _) hE;rw[zee true hwf] at hl;refine⟨by omega,fun k hk e=>?_⟩;have h2:=E_any hwf 0 xs.length (Nat.zero_le _) hE k (Nat.zero_le _) hk;rw[e,Int.toNat_natCast,hm] at h2;cases h2
set_option maxRecDepth 20000 in
set_option maxHeartbeats 4000000 in
theorem ze2 (w:World) (s:ByteArray) (c:Cf) (A:Option Addr) (cw:Nat) (xs:List Int) (hs:s.size<=9223372036854775807) (hc:CfW c) (hrd:RdB w w.heap.size A xs) (hby:∀ k,k<xs.length->0<=xs.getD k 0∧xs.getD k 0<=255) (hx:xs.length<=9223372036854775807) (hd:Dor w) (hm:MaxL w):
   Calls Tryz.prog 4 #[.string s,.agg #[.int .i64 c.lam,.int .i64 c.q,.int .i64 c.cap,.int .u64 (c.rate:Int),.int .u8 (c.mask:Int)],.slice A xs.length cw] w fun e w'=>e = .returned (.bool true)∧Below w.heap.size w w':=by
 have hb1:Below w.heap.size w (w.alloc (.cells #[.int .i64 c.lam,.int .i64 c.q,.int .i64 c.cap,.int .u64 (c.rate:Int),.int .u8 (c.mask:Int)] 24)):=(Below.refl _ _).alloc (Nat.le_refl _) _;have HU:=Zh (up15_p (w.alloc (.cells #[.int .i64 c.lam,.int .i64 c.q,.int .i64 c.cap,.int .u64 (c.rate:Int),.int .u8 (c.mask:Int)] 24)) (hd.stays hb1) (hm.stays hb1));have HB1:=Zh hb1;have HBX:=Zh (heap_alloc_new w (.cells #[.int .i64 c.lam,.int .i64 c.q,.int .i64 c.cap,.int .u64 (c.rate:Int),.int .u8 (c.mask:Int)] 24));obtain⟨N,hN⟩:∃ N,xs.length=N:=⟨_,rfl⟩;have HNN:=Zh hN;rw[hN] at hx ⊢
 by_cases hl:5000<s.size
 . have hl':(5000:Int)<(s.size:Int):=(by omega);clear hl hs hc hrd hby hx hd hm hb1 hN;go_enter Tryz.func4,Tryz.ntmps4;go_wp2_with (go_at_call 5;(with_reducible refine HU.out.mono ?_);rintro e w1 ⟨rfl,hb2⟩);go_ret;exact⟨rfl,gro HB1.out hb2⟩
 have hl':¬ (5000:Int)<(s.size:Int):=by omega
 by_cases hl2:40<N
 . have hl3:(40:Int)<(N:Int):=(by omega);clear hl hl2 hs hc hrd hby hx hd hm hb1 hN;go_enter Tryz.func4,Tryz.ntmps4;go_wp2_with (go_at_call 5;(with_reducible refine HU.out.mono ?_);rintro e w1 ⟨rfl,hb2⟩);go_ret;exact⟨rfl,gro HB1.out hb2⟩
 have hl3:¬ (40:Int)<(N:Int):=(by omega);have HC:=Zh (fun (W:World) (hb:Below w.heap.size w W)=>zcm c hc s (by omega) W (hd.stays hb) (hm.stays hb));have HRD:=Zh hrd;have HBY:=Zh hby;have HDD:=Zh hd;have hm0:(0:Int)<=(c.mask:Int):=(by omega);have hm1:(c.mask:Int)<=255:=(by have:=hc.mask;omega);have HN40:Hid (N<=40):=Zh (by omega);obtain⟨K,hK⟩:∃ K:Int,(rateN c.rate:Int)=K:=⟨_,rfl⟩;rw[hK] at HC;have HK:=Zh hK;clear hl hl2 hs hc hrd hby hx hd hm hb1 hK hN;cases hr:checkR s c with
 | error x =>
   obtain⟨n,k⟩:=x;have HCE:Hid (∀ W,Below w.heap.size w W->Calls Tryz.prog 6 #[.string s,.agg #[.int .i64 c.lam,.int .i64 c.q,.int .i64 c.cap,.int .u64 (c.rate:Int),.int .u8 (c.mask:Int)]] W fun e w'=>∃ ty v,e = .returned (.tuple #[.slice none 0 0,.int .i64 0,.iface ty v])∧Below W.heap.size W w'):=Zh fun W hb=>(HC.out W hb).mono fun e w' h=>by
     rw[hr] at h;obtain⟨⟨er,h1,h2⟩,h3⟩:=h;rcases h2 with ⟨rfl,_⟩|⟨gs,rfl,_⟩ <;> exact⟨_,_,h1,h3⟩
   clear HC hr;go_enter Tryz.func4,Tryz.ntmps4;go_upto_region 4 with (go_at_call 5;(with_reducible refine HU.out.mono ?_);rintro e w1 ⟨rfl,hb2⟩;have HB2:=Zh (gro HB1.out hb2);have HX2:=Zh ((hb2.block w.heap.size (za0 HBX.out)).trans HBX.out);clear hb2)
   have y0:w1.cell? ⟨w.heap.size,0,none⟩=some (.int .i64 c.lam):=cell_of_row w1 _ 0 _ 24 (0,0) HX2.out;have y1:w1.cell? ⟨w.heap.size,1,none⟩=some (.int .i64 c.q):=cell_of_row w1 _ 1 _ 24 (0,0) HX2.out;have y2:w1.cell? ⟨w.heap.size,2,none⟩=some (.int .i64 c.cap):=cell_of_row w1 _ 2 _ 24 (0,0) HX2.out;have y3:w1.cell? ⟨w.heap.size,3,none⟩=some (.int .u64 (c.rate:Int)):=cell_of_row w1 _ 3 _ 24 (0,0) HX2.out;have y4:w1.cell? ⟨w.heap.size,4,none⟩=some (.int .u8 (c.mask:Int)):=cell_of_row w1 _ 4 _ 24 (0,0) HX2.out;go_wp2_with (go_at_call 6;(with_reducible refine (HCE.out _ HB2.out).mono ?_);rintro e w3 ⟨ty,v,rfl,hb3⟩;have HB3:=Zh (gro HB2.out hb3);clear hb3);go_ret;exact⟨rfl,HB3.out⟩
 | ok L =>
   obtain⟨hcf,h8,hok⟩:=zkm hr;obtain⟨M,hM⟩:∃ M,L.length=M:=⟨_,rfl⟩;have HCE:Hid (∀ W,Below w.heap.size w W->Calls Tryz.prog 6 #[.string s,.agg #[.int .i64 c.lam,.int .i64 c.q,.int .i64 c.cap,.int .u64 (c.rate:Int),.int .u8 (c.mask:Int)]] W fun e w'=>∃ A cp,e = .returned (.tuple #[.slice A M cp,.int .i64 K,.nilIface])∧RdRules w' A L∧Below W.heap.size W w'):=Zh fun W hb=>(HC.out W hb).mono fun e w' h=>by
     rw[hr] at h;obtain⟨⟨A,cp,h1,h2⟩,h3⟩:=h;rw[hM] at h1;exact⟨A,cp,h1,h2,h3⟩
   have HM:=Zh hM;have HOK:=Zh hok;rw[hM] at h8;have h32:c.lam<=32∧1<=K∧K<=c.q:=by
     obtain⟨a1,a2,a3,a4,_⟩:=zlz hcf;have:=zjs c.rate a3;have:=HK.out;omega
   obtain⟨h32,hK1,hKq⟩:=h32;have H32:=Zh h32;clear HC hr hM hcf hok h32;go_enter Tryz.func4,Tryz.ntmps4;go_upto_region 4 with (go_at_call 5;(with_reducible refine HU.out.mono ?_);rintro e w1 ⟨rfl,hb2⟩;have HB2:=Zh (gro HB1.out hb2);have HX2:=Zh ((hb2.block w.heap.size (za0 HBX.out)).trans HBX.out);clear hb2)
   have y0:w1.cell? ⟨w.heap.size,0,none⟩=some (.int .i64 c.lam):=cell_of_row w1 _ 0 _ 24 (0,0) HX2.out;have y1:w1.cell? ⟨w.heap.size,1,none⟩=some (.int .i64 c.q):=cell_of_row w1 _ 1 _ 24 (0,0) HX2.out;have y2:w1.cell? ⟨w.heap.size,2,none⟩=some (.int .i64 c.cap):=cell_of_row w1 _ 2 _ 24 (0,0) HX2.out;have y3:w1.cell? ⟨w.heap.size,3,none⟩=some (.int .u64 (c.rate:Int)):=cell_of_row w1 _ 3 _ 24 (0,0) HX2.out;have y4:w1.cell? ⟨w.heap.size,4,none⟩=some (.int .u8 (c.mask:Int)):=cell_of_row w1 _ 4 _ 24 (0,0) HX2.out;go_wp2_with (go_at_call 6;(with_reducible refine (HCE.out _ HB2.out).mono ?_);rintro e w3 ⟨B,cp,rfl,hra,hb3⟩;have HX3:=Zh ((hb3.block w.heap.size (za0 HX2.out)).trans HX2.out);have HB3:=Zh (gro HB2.out hb3);have HRA:=Zh hra;clear hb3 hra);go_loopg [11] M (fun mm i wr=>∃ k:Nat,i = .int .i64 (k:Int)∧k<=M∧mm=M-k∧Below w3.heap.size w3 wr)
   case atStart=>exact⟨0,rfl,Nat.zero_le _,rfl,Below.refl _ _⟩
   case round =>
     obtain⟨k,rfl,hk,hmk,hbw⟩:=hrel;have HMK:=Zh hmk;have HBW:=Zh hbw;have HXR:=Zh ((hbw.block w.heap.size (za0 HX3.out)).trans HX3.out);clear hmk hbw
     by_cases hkM:k<M
     . have hkM':(k:Int)<(M:Int):=(by omega);have hk0:(0:Int)<=(k:Int):=(by omega);obtain⟨r,hr⟩:∃ r,L[k]?=some r:=⟨_,List.getElem?_eq_getElem (by rw[HM.out];exact hkM)⟩;obtain⟨hwf,hlo,hhi,hma⟩:=HOK.out r (List.mem_of_getElem? hr);obtain⟨g,off,kk,e1,hg,hcg,htg⟩:=(HRA.out.stays HBW.out) k r hr;subst e1;obtain⟨A1,n1,c1,rfl⟩:=htg.form;have hcv:CV g (off+k*9) r.1 (.slice A1 n1 c1) w.heap.size c wr:=⟨hcg 0 _ rfl,hcg 1 _ rfl,hcg 2 _ rfl,hcg 3 _ rfl,hcg 4 _ rfl,hcg 5 _ rfl,hcg 6 _ rfl,hcg 7 _ rfl,cell_of_row wr _ 0 _ 24 (0,0) HXR.out,cell_of_row wr _ 4 _ 24 (0,0) HXR.out⟩;have HCV:=Zh (fun W (hb:Below wr.heap.size wr W)=>(hcv.stays hb:CV _ _ _ _ _ _ W));unfold CV at HCV;have HT:=Zh htg;have HDR:=Zh (HDD.out.stays (gro HB3.out HBW.out));have HRR:=Zh ((HRD.out.below (gro HB3.out HBW.out)).more (gro HB3.out HBW.out).size);have HSU:=Zh (fun (hE:E xs r.1 0 xs.length)=>zjb hwf HBY.out hhi H32.out hma hE);obtain⟨P,hP⟩:∃ P:Int,(lenN true r.1:Int)=P:=⟨_,rfl⟩;obtain⟨Q,hQ⟩:∃ Q:Int,(lenN false r.1:Int)=Q:=⟨_,rfl⟩;have HHN:=Zh (fun W (hb:Below wr.heap.size wr W)=>(zb8 (w:=W) (c:=0) (xs:=[]) (A:=none) hwf (HT.out.stays hb) (fun k hk=>absurd hk (Nat.not_lt_zero _)) (fun k hk=>absurd hk (Nat.not_lt_zero _)) (Nat.zero_le _) (HDR.out.stays hb).tab).mono fun e w' h=>(show e = .returned (.bool false)∧Below W.heap.size W w' from by
         obtain⟨b,rfl,hb,h2⟩:=h;refine⟨?_,h2⟩;cases b
         . rfl
         . have:=(zc5 hwf 0 (Nat.zero_le _)).1 (hb.1 rfl);omega))
       have HMO:=Zh (fun W (hb:Below wr.heap.size wr W)=>(zf9 W hwf (HT.out.stays hb)).mono fun e w' h=>(show e = .returned (.int .i64 (lenN true r.1))∧Below W.heap.size W w' from h));have HLE:=Zh (fun W (hb:Below wr.heap.size wr W)=>(zmz W hwf (HT.out.stays hb)).mono fun e w' h=>(show e = .returned (.int .i64 (lenN false r.1))∧Below W.heap.size W w' from h));have HAN:=Zh (fun W (hb:Below wr.heap.size wr W)=>(zbl W hwf (HT.out.stays hb)).mono fun e w' h=>(show e = .returned (setV (anyP r.1))∧Below W.heap.size W w' from h));have HPL:=Zh (fun W (hb:Below wr.heap.size wr W)=>(zl9 W hwf (HT.out.stays hb)).mono fun e w' h=>(show e = .returned (.int .i64 (plN r.1))∧Below W.heap.size W w' from h));have HHX:=Zh (fun W (hb:Below wr.heap.size wr W)=>zb8 (w:=W) (c:=cw) (xs:=xs) (A:=A) hwf (HT.out.stays hb) ((HRR.out.below hb).more hb.size) HBY.out (by have:=HNN.out;have:=HN40.out;omega) (HDR.out.stays hb).tab);have HSH:=Zh (fun W (hb:Below wr.heap.size wr W)=>has_p (anyP r.1) (c.mask:Int) W hm0 hm1);unfold RetHas at HHX;unfold nodeP at HHN HMO HLE HAN HPL HHX;simp only[List.length_nil] at HHN;unfold setV at HAN;rw[Int.toNat_natCast,hma] at HSH;rw[HNN.out] at HHX HSU;rw[hP] at HMO;rw[hQ] at HLE;have hP':¬ c.lam<P:=(by omega);have hQ':¬ Q<1:=(by omega);have hPd:decide (c.lam<P)=false:=decide_eq_false hP';have hQd:decide (Q<1)=false:=decide_eq_false hQ';have HZ:=Zh (Below.refl wr.heap.size wr);obtain⟨x0,x1,x2,x3,x4,x5,x6,x7,x8,x9⟩:=HCV.out _ (Below.refl _ _);clear hcg hcv htg hr hwf hlo hhi hma hP hQ;generalize hpl:(plN r.1:Int)=Z at *;clear hpl;go_wp2_with fail;go_region_held3 (fun w'=>w'.cell? ⟨g,off+k*9,none⟩=some (.int .i64 r.1.op)∧w'.cell? ⟨g,off+k*9+1,none⟩=some (.int .u64 (word r.1.set 0))∧w'.cell? ⟨g,off+k*9+2,none⟩=some (.int .u64 (word r.1.set 1))∧w'.cell? ⟨g,off+k*9+3,none⟩=some (.int .u64 (word r.1.set 2))∧w'.cell? ⟨g,off+k*9+4,none⟩=some (.int .u64 (word r.1.set 3))∧w'.cell? ⟨g,off+k*9+5,none⟩=some (.int .i64 r.1.lo)∧w'.cell? ⟨g,off+k*9+6,none⟩=some (.int .i64 r.1.hi)∧w'.cell? ⟨g,off+k*9+7,none⟩=some (.slice A1 n1 c1)∧w'.cell? ⟨w.heap.size,0,none⟩=some (.int .i64 c.lam)∧w'.cell? ⟨w.heap.size,4,none⟩=some (.int .u8 (c.mask:Int)))
         (refine⟨?_,?_,?_,?_,?_,?_,?_,?_,?_,?_⟩ <;> (repeat (first | with_reducible assumption | with_reducible refine zna ?_))) (first
         | (go_simp;go_at_call 10;(with_reducible refine (HHN.out _ (by first | with_reducible exact HZ.out | with_reducible exact Below.drew HZ.out)).mono ?_);rintro e w5 ⟨rfl,hb⟩;have hb':=(by first | exact zar hb | exact hb:Below wr.heap.size wr w5);have HB5:=Zh (gro HZ.out hb');clear hb hb';obtain⟨x0,x1,x2,x3,x4,x5,x6,x7,x8,x9⟩:=HCV.out _ HB5.out)
         | (go_simp;go_at_call 11;(with_reducible refine (HMO.out _ (by first | with_reducible exact HB5.out | with_reducible exact Below.drew HB5.out)).mono ?_);rintro e w6 ⟨rfl,hb⟩;have hb':=(by first | exact zar hb | exact hb:Below w5.heap.size w5 w6);have HB6:=Zh (gro HB5.out hb');clear hb hb';obtain⟨x0,x1,x2,x3,x4,x5,x6,x7,x8,x9⟩:=HCV.out _ HB6.out)
         | (go_simp;go_at_call 12;(with_reducible refine (HLE.out _ (by first | with_reducible exact HB6.out | with_reducible exact Below.drew HB6.out)).mono ?_);rintro e w7 ⟨rfl,hb⟩;have hb':=(by first | exact zar hb | exact hb:Below w6.heap.size w6 w7);have HB7:=Zh (gro HB6.out hb');clear hb hb';obtain⟨x0,x1,x2,x3,x4,x5,x6,x7,x8,x9⟩:=HCV.out _ HB7.out)
         | (go_simp;go_at_call 14;(with_reducible refine (HAN.out _ (by first | with_reducible exact HB7.out | with_reducible exact Below.drew HB7.out)).mono ?_);rintro e w8 ⟨rfl,hb⟩;have hb':=(by first | exact zar hb | exact hb:Below w7.heap.size w7 w8);have HB8:=Zh (gro HB7.out hb');clear hb hb';obtain⟨x0,x1,x2,x3,x4,x5,x6,x7,x8,x9⟩:=HCV.out _ HB8.out)
         | (go_simp;go_at_call 13;(with_reducible refine (HSH.out _ (by first | with_reducible exact HB8.out | with_reducible exact Below.drew HB8.out)).mono ?_);rintro e w9 ⟨rfl,hb⟩;have hb':=(by first | exact zar hb | exact hb:Below w8.heap.size w8 w9);have HB9:=Zh (gro HB8.out hb');clear hb hb';obtain⟨x0,x1,x2,x3,x4,x5,x6,x7,x8,x9⟩:=HCV.out _ HB9.out)
         | fail)
       clear HHN HMO HLE HAN HSH HZ HB5 HB6 HB7 HB8 hPd hQd hP' hQ';have HX9:=Zh ((HB9.out.block w.heap.size (za0 HXR.out)).trans HXR.out)
       by_cases hZ:Z<=60
       . by_cases hE:E xs r.1 0 N
         . have HHT:=Zh (fun W hb=>(HHX.out W hb).mono fun e w' h=>(show e = .returned (.bool true)∧Below W.heap.size W w' from by
             obtain⟨b,rfl,h1,h2⟩:=h;rw[h1.2 hE];exact⟨rfl,h2⟩))
           have HS2:=Zh (HSU.out hE);clear HHX HSU hE;go_wp2_with (first
             | (go_at_call 15;(with_reducible refine (HPL.out _ HB9.out).mono ?_);rintro e w10 ⟨rfl,hb⟩;have HB10:=Zh (gro HB9.out hb);clear hb;obtain⟨x0,x1,x2,x3,x4,x5,x6,x7,x8,x9⟩:=HCV.out _ HB10.out)
             | (go_at_call 10;(with_reducible refine (HHT.out _ HB10.out).mono ?_);rintro e w11 ⟨rfl,hb⟩;have HB11:=Zh (gro HB10.out hb);clear hb))
           have HX11:=Zh ((HB11.out.block w.heap.size (za0 HXR.out)).trans HXR.out);have HW11:=Zh (gro HB3.out (gro HBW.out HB11.out));have HV11:=Zh (gro HBW.out HB11.out);clear HCV HPL HHT x0 x1 x2 x3 x4 x5 x6 x7 x8 x9;go_loopg [12] N (fun m2 j wr2=>∃ i:Nat,j = .int .i64 (i:Int)∧i<=N∧m2=N-i∧Below w11.heap.size w11 wr2)
           case atStart=>exact⟨0,by first | rfl | trivial,Nat.zero_le _,by first | rfl | trivial,Below.refl _ _⟩
           case round =>
             obtain⟨i,rfl,hi,hmi,hbi⟩:=hrel;have HMI:=Zh hmi;have HBI:=Zh hbi;clear hmi hbi
             by_cases hiN:i<N
             . have hiN':(i:Int)<(N:Int):=(by omega);have hi0:(0:Int)<=(i:Int):=(by omega);have hix:i<xs.length:=(by rw[HNN.out];exact hiN);obtain⟨b,o2,rfl,hbl,hcc⟩:=HRD.out.at hix;have hci:=hcc i hix;have hz:wr.cell? ⟨b,o2+i,none⟩=some (.int .u8 (xs.getD i 0)):=za2 (za2 hci HW11.out) HBI.out;have hne:((xs.getD i 0)==(c.mask:Int))=false:=by
                 have:=HS2.out.2 i hiN
                 simpa using this
               have hln:decide (c.lam<(N:Int))=false:=decide_eq_false (by have:=HS2.out.1;omega);have hm4:wr.cell? ⟨w.heap.size,4,none⟩=some (.int .u8 (c.mask:Int)):=cell_of_row wr _ 4 _ 24 (0,0) ((HBI.out.block w.heap.size (za0 HX11.out)).trans HX11.out);have hl0:wr.cell? ⟨w.heap.size,0,none⟩=some (.int .i64 c.lam):=cell_of_row wr _ 0 _ 24 (0,0) ((HBI.out.block w.heap.size (za0 HX11.out)).trans HX11.out);clear hcc hci hix;generalize xs.getD i 0=V at *;go_wp2_with fail;go_quiet (fail);go_wp2;go_roundg (N-(i+1))
               case measure=>have:=HMI.out;omega
               case rel=>exact⟨i+1,by go_num,by omega,rfl,zbc HBI.out _⟩
             . have hiN':¬ (i:Int)<(N:Int):=(by omega);go_wp2;go_roundg (M-(k+1))
               case measure=>have:=HMK.out;omega
               case rel=>exact⟨k+1,by go_num,by omega,rfl,gro HV11.out HBI.out⟩
         . have HHT:=Zh (fun W hb=>(HHX.out W hb).mono fun e w' h=>(show e = .returned (.bool false)∧Below W.heap.size W w' from by
             obtain⟨b,rfl,h1,h2⟩:=h;cases b
             . exact⟨rfl,h2⟩
             . exact absurd (h1.1 rfl) hE))
           clear HHX HSU hE;go_wp2_with (first
             | (go_at_call 15;(with_reducible refine (HPL.out _ HB9.out).mono ?_);rintro e w10 ⟨rfl,hb⟩;have HB10:=Zh (gro HB9.out hb);clear hb;obtain⟨x0,x1,x2,x3,x4,x5,x6,x7,x8,x9⟩:=HCV.out _ HB10.out)
             | (go_at_call 10;(with_reducible refine (HHT.out _ HB10.out).mono ?_);rintro e w11 ⟨rfl,hb⟩;have HB11:=Zh (gro HB10.out hb);clear hb))
           go_roundg (M-(k+1))
           case measure=>have:=HMK.out;omega
           case rel=>exact⟨k+1,by go_num,by omega,rfl,gro HBW.out HB11.out⟩
       . clear HHX HSU;go_wp2_with (go_at_call 15;(with_reducible refine (HPL.out _ HB9.out).mono ?_);rintro e w10 ⟨rfl,hb⟩;have HB10:=Zh (gro HB9.out hb);clear hb);go_roundg (M-(k+1))
         case measure=>have:=HMK.out;omega
         case rel=>exact⟨k+1,by go_num,by omega,rfl,gro HBW.out HB10.out⟩
     . have hkM':¬ (k:Int)<(M:Int):=(by omega);have y1:wr.cell? ⟨w.heap.size,1,none⟩=some (.int .i64 c.q):=cell_of_row wr _ 1 _ 24 (0,0) HXR.out;go_wp2;go_ret;exact⟨rfl,gro HB3.out HBW.out⟩
end
end Go.Proofs.YtgbdanddbgomhaaGreatDoor
