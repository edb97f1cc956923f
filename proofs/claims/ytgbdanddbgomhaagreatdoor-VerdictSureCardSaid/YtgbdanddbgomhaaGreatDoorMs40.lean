import Derived.Test.YtgbdanddbgomhaaGreatDoorMs18
import Derived.Test.YtgbdanddbgomhaaGreatDoorMs39
import Derived.Test.YtgbdanddbgomhaaGreatDoorMs27
set_option linter.unusedVariables false
set_option linter.unusedSimpArgs false
namespace Go.Proofs.YtgbdanddbgomhaaGreatDoor
open Go Go.RowKit
section
attribute [local go_sem ↓] Go.wp_at_zero Go.wp_at_succ
def cfA (c:Cf):Array Value:=#[.int .i64 c.lam,.int .i64 c.q,.int .i64 c.cap,.int .u64 (c.rate:Int),.int .u8 (c.mask:Int)]
def cfV (c:Cf):Value := .agg (cfA c)
structure CfW (c:Cf):Prop where
 rate:c.rate<18446744073709551616
 mask:c.mask<=255
 lam : -9223372036854775808<=c.lam∧c.lam<=9223372036854775807
 q : -9223372036854775808<=c.q∧c.q<=9223372036854775807
 cap : -9223372036854775808<=c.cap∧c.cap<=9223372036854775807
def wI (n a b:Int):Bool:=decide (a<=n)&&decide (n<=b)
theorem ze0 (n a b:Int) (w:World):Calls Tryz.prog 34 #[.int .i64 n,.int .i64 a,.int .i64 b] w fun e w'=>e = .returned (.bool (wI n a b))∧w=w':=by
 unfold wI
 by_cases h:a<=n
 . rw[decide_eq_true h,Bool.true_and];go_enter Tryz.func34,Tryz.ntmps34;go_wp2;go_ret;exact⟨rfl,rfl⟩
 . rw[decide_eq_false h,Bool.false_and];go_enter Tryz.func34,Tryz.ntmps34;go_wp2;go_ret;exact⟨rfl,rfl⟩
set_option maxHeartbeats 400000 in
theorem zgq (p:Nat->Bool) (b:Int) (w:World) (hb:0<=b) (hb':b<=255):
   Calls Tryz.prog 39 #[.agg #[.int .u64 (word p 0),.int .u64 (word p 1),.int .u64 (word p 2),.int .u64 (word p 3)],.int .u8 b] w fun e w'=>e = .returned (.bool (p b.toNat))∧Below w.heap.size w w':=by
 have hv:=zgo p b hb hb';have H:=zei p b hb hb';rw[←H];clear H;go_enter Tryz.func39,Tryz.ntmps39;go_wp2;go_ret;exact⟨rfl,(Below.refl _ _).alloc (Nat.le_refl _) _⟩
def confV (c:Cf):Value := .tuple #[.int .i64 (if cfOk c=true then (rateN c.rate:Int) else 0),if cfOk c=true then .nilIface else .iface 71 (.int .i64 1)]
theorem cfOk_w (c:Cf):cfOk c=(wI c.lam 1 32&&(rateOk c.rate&&(wI c.q (rateN c.rate:Int) 1024&&wI c.cap 1 1000))):=by
 unfold cfOk wI;simp only[Bool.decide_and]
set_option maxRecDepth 20000 in
set_option maxHeartbeats 2000000 in
theorem zfg (c:Cf) (hc:CfW c) (w:World):Calls Tryz.prog 16 #[.agg #[.int .i64 c.lam,.int .i64 c.q,.int .i64 c.cap,.int .u64 (c.rate:Int),.int .u8 (c.mask:Int)]] w fun e w'=>e = .returned (confV c)∧Below w.heap.size w w':=by
 have HR:=Zh (fun W=>zl7 c.rate hc.rate W);have HW1:=Zh (fun W=>ze0 c.lam 1 32 W);have HW2:=Zh (fun W=>ze0 c.q (rateN c.rate:Int) 1024 W);have HW3:=Zh (fun W=>ze0 c.cap 1 1000 W);have e:=cfOk_w c;unfold confV;unfold rateV at HR;rw[e];clear hc e;generalize wI c.lam 1 32=b1 at *;generalize wI c.q (rateN c.rate:Int) 1024=b2 at *;generalize wI c.cap 1 1000=b3 at *;generalize (rateN c.rate:Int)=K at *;cases hk:rateOk c.rate
 . rw[hk] at HR;simp only[Bool.false_eq_true,if_false,Bool.false_and,Bool.and_false] at HR ⊢;clear hk HW1 HW2 HW3;go_enter Tryz.func16,Tryz.ntmps16;go_wp2_with (go_at_call 33;(with_reducible refine (HR.out _).mono ?_);rintro e w1 ⟨rfl,rfl⟩);go_ret2;exact⟨rfl,(Below.refl _ _).alloc (Nat.le_refl _) _⟩
 . rw[hk] at HR;simp only[if_true,Bool.true_and] at HR ⊢;clear hk;cases b1 <;> cases b2 <;> cases b3
   all_goals
     simp only[Bool.false_eq_true,if_false,Bool.false_and,Bool.and_false,Bool.and_self,if_true];go_enter Tryz.func16,Tryz.ntmps16;go_wp2_with (first
       | (go_at_call 33;(with_reducible refine (HR.out _).mono ?_);rintro e w1 ⟨rfl,rfl⟩)
       | (go_at_call 34;(with_reducible refine (HW1.out _).mono ?_);rintro e w1 ⟨rfl,rfl⟩)
       | (go_at_call 34;(with_reducible refine (HW2.out _).mono ?_);rintro e w1 ⟨rfl,rfl⟩)
       | (go_at_call 34;(with_reducible refine (HW3.out _).mono ?_);rintro e w1 ⟨rfl,rfl⟩))
     go_ret2;exact⟨rfl,(Below.refl _ _).alloc (Nat.le_refl _) _⟩
end
section
attribute [local go_sem ↓] Go.wp_at_zero Go.wp_at_succ
section
variable {w w':World} {g:Nat} {t:T} {k:Value}
theorem zez (h:Box8 w g t k):(loadVar 41 ⟨g,0,none⟩).run Tryz.prog w = .ok (nodeV t k) w:=by
 have:=run_loadVar_mid (P:=Tryz.prog) w g 0 41 (nodeC t k) _ (fun j v hv=>by
   rw[Nat.zero_add,cell_of_row w g j _ 41 (0,0) h]
   simpa [nodeC] using hv) Tryz.underlying41 rfl (by kernel_rfl)
 simpa [nodeC,nodeV] using this
theorem zat {fn:Func} {tmps:Array Value} {y z:Nat} {v:Value} (hr:fn.results=#[.cell y 41,.tmp z]) (hy:tmps.getD y undef = .pointer (some ⟨g,0,none⟩)) (hz:tmps.getD z undef=v) (h:Box8 w g t k):
   (results fn tmps).run Tryz.prog w = .ok (.tuple #[nodeV t k,v]) w:=by
 have e:(#[ResultVar.cell y 41,.tmp z]:Array ResultVar)=[ResultVar.cell y 41,.tmp z].toArray:=rfl;rw[Array.getD_eq_getD_getElem?] at hy hz;unfold results;rw[hr,e];simp[Sem.run_bind,hy,hz,zez h,asAddr]
end
structure Dor (w:World):Prop where
 tab:Tab w
 err:ErrT w
theorem zjj {w w':World} (h:Tab w) (hb:Below w.heap.size w w'):Tab w':=⟨Nat.lt_of_lt_of_le h.1 hb.size,fun k hk=>za2 (h.2 k hk) hb⟩
theorem Dor.stays {w w':World} (h:Dor w) (hb:Below w.heap.size w w'):Dor w':=⟨zjj h.tab hb,h.err.stays hb⟩
def RetRead (w:World) (r:Except Int T) (e:Ending) (w':World):Prop:=match r with
 | .ok t=>(∃ k,e = .returned (.tuple #[nodeV t k,.nilIface])∧Tree w' (fun b=>w.heap.size<=b) t k)∧Below w.heap.size w w'
 | .error c=>(∃ er,e = .returned (.tuple #[nodeV T.zero (.slice none 0 0),er])∧ErrV w' er c)∧Below w.heap.size w w'
theorem zhi (w:World):Box8 (w.alloc (.cells #[.int .i64 0,.int .u64 0,.int .u64 0,.int .u64 0,.int .u64 0,.int .i64 0,.int .i64 0,.slice none 0 0] 41)) w.heap.size T.zero (.slice none 0 0):=Box8.new0 w
set_option maxRecDepth 20000 in
set_option maxHeartbeats 4000000 in
theorem zmk (c:Cf) (hc:CfW c) (s:ByteArray) (hs:s.size<=9223372036854775807) (w:World) (hd:Dor w):
   Calls Tryz.prog 18 #[.string s,.agg #[.int .i64 c.lam,.int .i64 c.q,.int .i64 c.cap,.int .u64 (c.rate:Int),.int .u8 (c.mask:Int)]] w (RetRead w (readP c.lam c.mask s)):=by
 obtain⟨w1,hw1⟩:∃ w1,w.alloc (.cells #[.int .i64 c.lam,.int .i64 c.q,.int .i64 c.cap,.int .u64 (c.rate:Int),.int .u8 (c.mask:Int)] 24)=w1:=⟨_,rfl⟩;obtain⟨w2,hw2⟩:∃ w2,w1.alloc (.cells #[.int .i64 0,.int .u64 0,.int .u64 0,.int .u64 0,.int .u64 0,.int .i64 0,.int .i64 0,.slice none 0 0] 41)=w2:=⟨_,rfl⟩;have hs1:w1.heap.size=w.heap.size+1:=(by rw[←hw1];simp);have hs2:w2.heap.size=w.heap.size+2:=(by rw[←hw2];simp[hs1]);have hb1:Below w.heap.size w w1:=(by rw[←hw1];exact (Below.refl _ _).alloc (Nat.le_refl _) _);have hb2:Below w.heap.size w w2:=(by rw[←hw2];exact hb1.alloc (by omega) _);have hbx:w2.heap[w.heap.size]?=some (.cells #[.int .i64 c.lam,.int .i64 c.q,.int .i64 c.cap,.int .u64 (c.rate:Int),.int .u8 (c.mask:Int)] 24 (0,0)):=by
   rw[←hw2,Below.heap_alloc _ _ _ (by omega),←hw1];exact heap_alloc_new w _
 have hz2:Box8 w2 (w.heap.size+1) T.zero (.slice none 0 0):=(by rw[←hw2,←hs1];exact zhi w1);have hp:=zkw w2 s hs;have hpx:xparse s=parse s:=(zi7 s).symm;unfold XParse at hp;rw[hpx] at hp;have hd2:=hd.stays (gro hb1 (show Below w1.heap.size w1 w2 from by rw[←hw2];exact (Below.refl _ _).alloc (Nat.le_refl _) _));have HS2:=Zh hs2;have HB2:=Zh hb2;have HBX:=Zh hbx;have HZ2:=Zh hz2;have HD:=Zh hd2;have HC:=Zh hc;have hcl:=hc.lam;have hmk:=hc.mask;have hm0:(0:Int)<=(c.mask:Int):=(by omega);have hm1:(c.mask:Int)<=255:=(by omega);clear hs1 hs2 hb1 hb2 hbx hz2 hd hd2 hpx hc hmk;subst hw2 hw1;cases hr:parse s with
 | error x =>
   obtain⟨code,a⟩:=x;have e:readP c.lam c.mask s = .error code:=(by unfold readP;rw[hr]);rw[e];simp only[hr] at hp;have HP:=Zh hp;clear hp hr e;go_enter Tryz.func18,Tryz.ntmps18;go_upto_region 2 with (go_at_call 38;(with_reducible refine HP.out.mono ?_);rintro e w3 ⟨gs,rfl,hgs,hgl,hb3⟩;have HGS:=Zh hgs;have HGL:=Zh hgl;have HB3:=Zh hb3;unfold nodeV;clear hgs hgl hb3)
   generalize hw4:w3.alloc (.cells #[.int .i64 T.zero.op,.int .u64 (word T.zero.set 0),.int .u64 (word T.zero.set 1),.int .u64 (word T.zero.set 2),.int .u64 (word T.zero.set 3),.int .i64 T.zero.lo,.int .i64 T.zero.hi,.slice none 0 0] 41)=w4 at *;have hb4:Below w3.heap.size w3 w4:=(by rw[←hw4];exact (Below.refl _ _).alloc (Nat.le_refl _) _);have hz4:=(HZ2.out.stays HB3.out).stays hb4;obtain⟨z0,z1,z2,z3,z4,z5,z6,z7⟩:=hz4.cell;obtain⟨y0,y1,y2,y3,y4,y5,y6,y7⟩:=hz4.frozen;have HZ4:=Zh hz4;have HB4:=Zh hb4;clear hz4 hb4 hw4;go_wp2;refine bodyPost_ret (zat (t:=T.zero) (k := .slice none 0 0) rfl (by rfl) (by rfl) ?_) rfl ?_
   . show Box8 (put80 w4 (w.heap.size+1)) _ _ _
     rw[zau];exact Box8.put (t':=T.zero) (k' := .slice none 0 0) HZ4.out _ _
   . have hzl:=HS2.out;have hne:gs≠w.heap.size+1:=(by have:=HGL.out;omega);change RetRead w (.error code) _ (put80 w4 (w.heap.size+1));rw[zau];have h9:Below w.heap.size w w4:=gro (gro HB2.out HB3.out) HB4.out;exact⟨⟨_,rfl,.inr ⟨gs,a,rfl,(zad _ _ _ _ gs hne).trans ((HB4.out.block gs (za0 HGS.out)).trans HGS.out)⟩⟩,zae h9 (by omega) _ _⟩
 | ok t =>
   simp only[hr] at hp;have hwf:=zgp hr;have HP:=Zh hp;have HPR:=Zh hr;clear hp hr;have hcase:lenN false t=0∨(¬ lenN false t=0∧c.lam<(lenN true t:Int))∨(¬ lenN false t=0∧¬ c.lam<(lenN true t:Int)∧anyP t c.mask=true)∨(¬ lenN false t=0∧¬ c.lam<(lenN true t:Int)∧anyP t c.mask=false):=by
     by_cases h0:lenN false t=0
     . exact .inl h0
     . by_cases h1:c.lam<(lenN true t:Int)
       . exact .inr (.inl ⟨h0,h1⟩)
       . cases h2:anyP t c.mask
         . exact .inr (.inr (.inr ⟨h0,h1,rfl⟩))
         . exact .inr (.inr (.inl ⟨h0,h1,rfl⟩))
   rcases hcase with h0|⟨h0,h1⟩|⟨h0,h1,h2⟩|⟨h0,h1,h2⟩
   . have e:readP c.lam c.mask s = .error 5:=(by unfold readP;rw[HPR.out];simp only[h0,if_true]);rw[e];clear e;go_enter Tryz.func18,Tryz.ntmps18;go_upto_region 2 with (go_at_call 38;(with_reducible refine HP.out.mono ?_);rintro e w3 ⟨k,rfl,ht,hb3⟩;obtain⟨A,tn,tc,rfl⟩:=ht.form;have HT3:=Zh ht;have HB3:=Zh hb3;unfold nodeV;clear ht hb3)
     generalize hw4:w3.alloc (.cells #[.int .i64 t.op,.int .u64 (word t.set 0),.int .u64 (word t.set 1),.int .u64 (word t.set 2),.int .u64 (word t.set 3),.int .i64 t.lo,.int .i64 t.hi,.slice A tn tc] 41)=w4 at *;have hb4:Below w3.heap.size w3 w4:=(by rw[←hw4];exact (Below.refl _ _).alloc (Nat.le_refl _) _);have hn4:Box8 w4 w3.heap.size t (.slice A tn tc):=(by rw[←hw4];exact Box8.new _ _ _);have hB4:Below w.heap.size w w4:=gro (gro HB2.out HB3.out) hb4;have hBC4:=(HB3.out.block w.heap.size (za0 HBX.out)).trans HBX.out;have hBX4:=(hb4.block w.heap.size (za0 hBC4)).trans hBC4;have HD4:=Zh ((HD.out.stays HB3.out).stays hb4);have HT4:=Zh (HT3.out.stays hb4);have HZ4:=Zh ((HZ2.out.stays HB3.out).stays hb4);have HN4:=Zh hn4;have HB4:=Zh hB4;have HX4:=Zh hBX4;have h3s:w.heap.size+2<=w3.heap.size:=(by have:=HB3.out.size;have:=HS2.out;simp only[World.size_alloc] at *;omega);have H3S:=Zh h3s;have HHAS:=Zh (fun W (hb:Below w4.heap.size w4 W)=>(zb8 (w:=W) (c:=0) (xs:=[]) (A:=none) hwf (HT4.out.stays hb) (fun k hk=>absurd hk (Nat.not_lt_zero _)) (fun k hk=>absurd hk (Nat.not_lt_zero _)) (Nat.zero_le _) (HD4.out.stays hb).tab).mono fun e w' h=>(show e = .returned (.bool (decide (lenN false t=0)))∧Below W.heap.size W w' from by
       obtain⟨b,rfl,hb,h2⟩:=h;refine⟨?_,h2⟩;have hb':b=true↔lenN false t=0:=hb.trans (zc5 hwf 0 (Nat.zero_le _))
       by_cases hz:lenN false t=0
       . rw[decide_eq_true hz,hb'.2 hz]
       . rw[decide_eq_false hz];cases b
         . rfl
         . exact absurd (hb'.1 rfl) hz))
     have HMOST:=Zh (fun W (hb:Below w4.heap.size w4 W)=>(zf9 W hwf (HT4.out.stays hb)).mono fun e w' h=>(show e = .returned (.int .i64 (lenN true t))∧Below W.heap.size W w' from h));have HANY:=Zh (fun W (hb:Below w4.heap.size w4 W)=>(zbl W hwf (HT4.out.stays hb)).mono fun e w' h=>(show e = .returned (setV (anyP t))∧Below W.heap.size W w' from h));have HMSK:=Zh (fun W=>zgq (anyP t) (c.mask:Int) W hm0 hm1);unfold nodeP at HHAS HMOST HANY;simp only[List.length_nil] at HHAS;unfold setV at HANY;rw[Int.toNat_natCast] at HMSK;obtain⟨n0,n1,n2,n3,n4,n5,n6,n7⟩:=hn4.cell;clear hw4 hb4 hn4 hB4 hBC4 hBX4 h3s;rw[decide_eq_true h0] at HHAS;clear h0;go_upto_region 5 with (go_at_call 10;(with_reducible refine (HHAS.out _ (Below.refl _ _)).mono ?_);rintro e w5 ⟨rfl,hb5⟩;have HB5:=Zh hb5;have HN5:=Zh (HN4.out.stays hb5);have HZ5:=Zh (HZ4.out.stays hb5);have HX5:=Zh ((hb5.block w.heap.size (za0 HX4.out)).trans HX4.out);clear hb5)
     obtain⟨n0,n1,n2,n3,n4,n5,n6,n7⟩:=HN5.out.cell;obtain⟨z0,z1,z2,z3,z4,z5,z6,z7⟩:=HZ5.out.cell;obtain⟨y0,y1,y2,y3,y4,y5,y6,y7⟩:=HZ5.out.frozen;have x0:w5.cell? ⟨w.heap.size,0,none⟩=some (.int .i64 c.lam):=cell_of_row w5 _ 0 _ 24 (0,0) HX5.out;go_wp2;refine bodyPost_ret (zat (t:=T.zero) (k := .slice none 0 0) rfl (by rfl) (by rfl) ?_) rfl ?_
     . show Box8 (put80 w5 (w.heap.size+1)) _ _ _
       rw[zau];exact Box8.put (t':=T.zero) (k' := .slice none 0 0) HZ5.out _ _
     . change RetRead w (.error 5) _ (put80 w5 (w.heap.size+1));rw[zau];exact⟨⟨_,rfl,.inl rfl⟩,zae (gro HB4.out HB5.out) (by omega) _ _⟩
   . have e:readP c.lam c.mask s = .error 6:=(by unfold readP;rw[HPR.out];simp only[h0,h1,if_true,if_false]);rw[e];clear e;go_enter Tryz.func18,Tryz.ntmps18;go_upto_region 2 with (go_at_call 38;(with_reducible refine HP.out.mono ?_);rintro e w3 ⟨k,rfl,ht,hb3⟩;obtain⟨A,tn,tc,rfl⟩:=ht.form;have HT3:=Zh ht;have HB3:=Zh hb3;unfold nodeV;clear ht hb3)
     generalize hw4:w3.alloc (.cells #[.int .i64 t.op,.int .u64 (word t.set 0),.int .u64 (word t.set 1),.int .u64 (word t.set 2),.int .u64 (word t.set 3),.int .i64 t.lo,.int .i64 t.hi,.slice A tn tc] 41)=w4 at *;have hb4:Below w3.heap.size w3 w4:=(by rw[←hw4];exact (Below.refl _ _).alloc (Nat.le_refl _) _);have hn4:Box8 w4 w3.heap.size t (.slice A tn tc):=(by rw[←hw4];exact Box8.new _ _ _);have hB4:Below w.heap.size w w4:=gro (gro HB2.out HB3.out) hb4;have hBC4:=(HB3.out.block w.heap.size (za0 HBX.out)).trans HBX.out;have hBX4:=(hb4.block w.heap.size (za0 hBC4)).trans hBC4;have HD4:=Zh ((HD.out.stays HB3.out).stays hb4);have HT4:=Zh (HT3.out.stays hb4);have HZ4:=Zh ((HZ2.out.stays HB3.out).stays hb4);have HN4:=Zh hn4;have HB4:=Zh hB4;have HX4:=Zh hBX4;have h3s:w.heap.size+2<=w3.heap.size:=(by have:=HB3.out.size;have:=HS2.out;simp only[World.size_alloc] at *;omega);have H3S:=Zh h3s;have HHAS:=Zh (fun W (hb:Below w4.heap.size w4 W)=>(zb8 (w:=W) (c:=0) (xs:=[]) (A:=none) hwf (HT4.out.stays hb) (fun k hk=>absurd hk (Nat.not_lt_zero _)) (fun k hk=>absurd hk (Nat.not_lt_zero _)) (Nat.zero_le _) (HD4.out.stays hb).tab).mono fun e w' h=>(show e = .returned (.bool (decide (lenN false t=0)))∧Below W.heap.size W w' from by
       obtain⟨b,rfl,hb,h2⟩:=h;refine⟨?_,h2⟩;have hb':b=true↔lenN false t=0:=hb.trans (zc5 hwf 0 (Nat.zero_le _))
       by_cases hz:lenN false t=0
       . rw[decide_eq_true hz,hb'.2 hz]
       . rw[decide_eq_false hz];cases b
         . rfl
         . exact absurd (hb'.1 rfl) hz))
     have HMOST:=Zh (fun W (hb:Below w4.heap.size w4 W)=>(zf9 W hwf (HT4.out.stays hb)).mono fun e w' h=>(show e = .returned (.int .i64 (lenN true t))∧Below W.heap.size W w' from h));have HANY:=Zh (fun W (hb:Below w4.heap.size w4 W)=>(zbl W hwf (HT4.out.stays hb)).mono fun e w' h=>(show e = .returned (setV (anyP t))∧Below W.heap.size W w' from h));have HMSK:=Zh (fun W=>zgq (anyP t) (c.mask:Int) W hm0 hm1);unfold nodeP at HHAS HMOST HANY;simp only[List.length_nil] at HHAS;unfold setV at HANY;rw[Int.toNat_natCast] at HMSK;obtain⟨n0,n1,n2,n3,n4,n5,n6,n7⟩:=hn4.cell;clear hw4 hb4 hn4 hB4 hBC4 hBX4 h3s;rw[decide_eq_false h0] at HHAS;clear h0;go_upto_region 6 with (go_at_call 10;(with_reducible refine (HHAS.out _ (Below.refl _ _)).mono ?_);rintro e w5 ⟨rfl,hb5⟩;have HB5:=Zh hb5;have HN5:=Zh (HN4.out.stays hb5);have HZ5:=Zh (HZ4.out.stays hb5);have HX5:=Zh ((hb5.block w.heap.size (za0 HX4.out)).trans HX4.out);clear hb5)
     obtain⟨n0,n1,n2,n3,n4,n5,n6,n7⟩:=HN5.out.cell;obtain⟨z0,z1,z2,z3,z4,z5,z6,z7⟩:=HZ5.out.cell;obtain⟨y0,y1,y2,y3,y4,y5,y6,y7⟩:=HZ5.out.frozen;have x0:w5.cell? ⟨w.heap.size,0,none⟩=some (.int .i64 c.lam):=cell_of_row w5 _ 0 _ 24 (0,0) HX5.out;generalize (lenN true t:Int)=M at *;go_region_law (first
       | (go_simp;go_at_call 11;(with_reducible refine (HMOST.out _ (by first | exact HB5.out | exact HB5.out.drew)).mono ?_);rintro e w6 ⟨rfl,hb6⟩;have hb6':Below w5.heap.size w5 w6:=(by first | exact zar hb6 | exact hb6);have HB6:=Zh hb6';have HN6:=Zh (HN5.out.stays hb6');have HZ6:=Zh (HZ5.out.stays hb6');have HX6:=Zh ((hb6'.block w.heap.size (za0 HX5.out)).trans HX5.out);have x6:w6.cell? ⟨w.heap.size,0,none⟩=some (.int .i64 c.lam):=cell_of_row w6 _ 0 _ 24 (0,0) HX6.out;clear hb6 hb6')
       | fail)
     all_goals
       obtain⟨n0,n1,n2,n3,n4,n5,n6,n7⟩:=HN6.out.cell;obtain⟨z0,z1,z2,z3,z4,z5,z6,z7⟩:=HZ6.out.cell;obtain⟨y0,y1,y2,y3,y4,y5,y6,y7⟩:=HZ6.out.frozen;go_wp2;refine bodyPost_ret (zat (t:=T.zero) (k := .slice none 0 0) rfl (by rfl) (by rfl) ?_) rfl ?_
       . show Box8 (put80 w6 (w.heap.size+1)) _ _ _
         rw[zau];exact Box8.put (t':=T.zero) (k' := .slice none 0 0) HZ6.out _ _
       . change RetRead w (.error 6) _ (put80 w6 (w.heap.size+1));rw[zau];exact⟨⟨_,rfl,.inl rfl⟩,zae (gro (gro HB4.out HB5.out) HB6.out) (by omega) _ _⟩
   . have e:readP c.lam c.mask s = .error 7:=(by unfold readP;rw[HPR.out];simp only[h0,h1,h2,if_true,if_false]);rw[e];clear e;go_enter Tryz.func18,Tryz.ntmps18;go_upto_region 2 with (go_at_call 38;(with_reducible refine HP.out.mono ?_);rintro e w3 ⟨k,rfl,ht,hb3⟩;obtain⟨A,tn,tc,rfl⟩:=ht.form;have HT3:=Zh ht;have HB3:=Zh hb3;unfold nodeV;clear ht hb3)
     generalize hw4:w3.alloc (.cells #[.int .i64 t.op,.int .u64 (word t.set 0),.int .u64 (word t.set 1),.int .u64 (word t.set 2),.int .u64 (word t.set 3),.int .i64 t.lo,.int .i64 t.hi,.slice A tn tc] 41)=w4 at *;have hb4:Below w3.heap.size w3 w4:=(by rw[←hw4];exact (Below.refl _ _).alloc (Nat.le_refl _) _);have hn4:Box8 w4 w3.heap.size t (.slice A tn tc):=(by rw[←hw4];exact Box8.new _ _ _);have hB4:Below w.heap.size w w4:=gro (gro HB2.out HB3.out) hb4;have hBC4:=(HB3.out.block w.heap.size (za0 HBX.out)).trans HBX.out;have hBX4:=(hb4.block w.heap.size (za0 hBC4)).trans hBC4;have HD4:=Zh ((HD.out.stays HB3.out).stays hb4);have HT4:=Zh (HT3.out.stays hb4);have HZ4:=Zh ((HZ2.out.stays HB3.out).stays hb4);have HN4:=Zh hn4;have HB4:=Zh hB4;have HX4:=Zh hBX4;have h3s:w.heap.size+2<=w3.heap.size:=(by have:=HB3.out.size;have:=HS2.out;simp only[World.size_alloc] at *;omega);have H3S:=Zh h3s;have HHAS:=Zh (fun W (hb:Below w4.heap.size w4 W)=>(zb8 (w:=W) (c:=0) (xs:=[]) (A:=none) hwf (HT4.out.stays hb) (fun k hk=>absurd hk (Nat.not_lt_zero _)) (fun k hk=>absurd hk (Nat.not_lt_zero _)) (Nat.zero_le _) (HD4.out.stays hb).tab).mono fun e w' h=>(show e = .returned (.bool (decide (lenN false t=0)))∧Below W.heap.size W w' from by
       obtain⟨b,rfl,hb,h2⟩:=h;refine⟨?_,h2⟩;have hb':b=true↔lenN false t=0:=hb.trans (zc5 hwf 0 (Nat.zero_le _))
       by_cases hz:lenN false t=0
       . rw[decide_eq_true hz,hb'.2 hz]
       . rw[decide_eq_false hz];cases b
         . rfl
         . exact absurd (hb'.1 rfl) hz))
     have HMOST:=Zh (fun W (hb:Below w4.heap.size w4 W)=>(zf9 W hwf (HT4.out.stays hb)).mono fun e w' h=>(show e = .returned (.int .i64 (lenN true t))∧Below W.heap.size W w' from h));have HANY:=Zh (fun W (hb:Below w4.heap.size w4 W)=>(zbl W hwf (HT4.out.stays hb)).mono fun e w' h=>(show e = .returned (setV (anyP t))∧Below W.heap.size W w' from h));have HMSK:=Zh (fun W=>zgq (anyP t) (c.mask:Int) W hm0 hm1);unfold nodeP at HHAS HMOST HANY;simp only[List.length_nil] at HHAS;unfold setV at HANY;rw[Int.toNat_natCast] at HMSK;obtain⟨n0,n1,n2,n3,n4,n5,n6,n7⟩:=hn4.cell;clear hw4 hb4 hn4 hB4 hBC4 hBX4 h3s;rw[decide_eq_false h0] at HHAS;rw[h2] at HMSK;clear h0 h2;go_upto_region 6 with (go_at_call 10;(with_reducible refine (HHAS.out _ (Below.refl _ _)).mono ?_);rintro e w5 ⟨rfl,hb5⟩;have HB5:=Zh hb5;have HN5:=Zh (HN4.out.stays hb5);have HZ5:=Zh (HZ4.out.stays hb5);have HX5:=Zh ((hb5.block w.heap.size (za0 HX4.out)).trans HX4.out);clear hb5)
     obtain⟨n0,n1,n2,n3,n4,n5,n6,n7⟩:=HN5.out.cell;obtain⟨z0,z1,z2,z3,z4,z5,z6,z7⟩:=HZ5.out.cell;obtain⟨y0,y1,y2,y3,y4,y5,y6,y7⟩:=HZ5.out.frozen;have x0:w5.cell? ⟨w.heap.size,0,none⟩=some (.int .i64 c.lam):=cell_of_row w5 _ 0 _ 24 (0,0) HX5.out;generalize (lenN true t:Int)=M at *;go_region_law (first
       | (go_simp;go_at_call 11;(with_reducible refine (HMOST.out _ (by first | exact HB5.out | exact HB5.out.drew)).mono ?_);rintro e w6 ⟨rfl,hb6⟩;have hb6':Below w5.heap.size w5 w6:=(by first | exact zar hb6 | exact hb6);have HB6:=Zh hb6';have HN6:=Zh (HN5.out.stays hb6');have HZ6:=Zh (HZ5.out.stays hb6');have HX6:=Zh ((hb6'.block w.heap.size (za0 HX5.out)).trans HX5.out);have x6:w6.cell? ⟨w.heap.size,0,none⟩=some (.int .i64 c.lam):=cell_of_row w6 _ 0 _ 24 (0,0) HX6.out;clear hb6 hb6')
       | fail)
     all_goals
       obtain⟨n0,n1,n2,n3,n4,n5,n6,n7⟩:=HN6.out.cell;obtain⟨z0,z1,z2,z3,z4,z5,z6,z7⟩:=HZ6.out.cell;obtain⟨y0,y1,y2,y3,y4,y5,y6,y7⟩:=HZ6.out.frozen;have x6:w6.cell? ⟨w.heap.size,4,none⟩=some (.int .u8 (c.mask:Int)):=cell_of_row w6 _ 4 _ 24 (0,0) HX6.out;go_upto_region 8 with fail
       go_region_law (first
         | (go_simp;go_at_call 14;(with_reducible refine (HANY.out _ (by first | exact gro HB5.out HB6.out | exact (gro HB5.out HB6.out).drew)).mono ?_);rintro e w7 ⟨rfl,hb7⟩;have hb7':Below w6.heap.size w6 w7:=(by first | exact zar hb7 | exact hb7);have HB7:=Zh hb7';have HN7:=Zh (HN6.out.stays hb7');have HZ7:=Zh (HZ6.out.stays hb7');have HX7:=Zh ((hb7'.block w.heap.size (za0 HX6.out)).trans HX6.out);have x7:w7.cell? ⟨w.heap.size,4,none⟩=some (.int .u8 (c.mask:Int)):=cell_of_row w7 _ 4 _ 24 (0,0) HX7.out;clear hb7 hb7')
         | (go_simp;go_at_call 39;(with_reducible refine (HMSK.out _).mono ?_);rintro e w8 ⟨rfl,hb8⟩;have hb8':Below w7.heap.size w7 w8:=(by first | exact zar hb8 | exact hb8);have HB8:=Zh hb8';have HN8:=Zh (HN7.out.stays hb8');have HZ8:=Zh (HZ7.out.stays hb8');clear hb8 hb8')
         | fail)
       all_goals
         obtain⟨n0,n1,n2,n3,n4,n5,n6,n7⟩:=HN8.out.cell;obtain⟨z0,z1,z2,z3,z4,z5,z6,z7⟩:=HZ8.out.cell;obtain⟨y0,y1,y2,y3,y4,y5,y6,y7⟩:=HZ8.out.frozen;go_wp2;refine bodyPost_ret (zat (t:=T.zero) (k := .slice none 0 0) rfl (by rfl) (by rfl) ?_) rfl ?_
         . show Box8 (put80 w8 (w.heap.size+1)) _ _ _
           rw[zau];exact Box8.put (t':=T.zero) (k' := .slice none 0 0) HZ8.out _ _
         . change RetRead w (.error 7) _ (put80 w8 (w.heap.size+1));rw[zau];exact⟨⟨_,rfl,.inl rfl⟩,zae (gro (gro (gro (gro HB4.out HB5.out) HB6.out) HB7.out) HB8.out) (by omega) _ _⟩
   . have e:readP c.lam c.mask s = .ok t:=(by unfold readP;rw[HPR.out];simp only[h0,h1,h2,if_true,if_false];simp);rw[e];clear e;go_enter Tryz.func18,Tryz.ntmps18;go_upto_region 2 with (go_at_call 38;(with_reducible refine HP.out.mono ?_);rintro e w3 ⟨k,rfl,ht,hb3⟩;obtain⟨A,tn,tc,rfl⟩:=ht.form;have HT3:=Zh ht;have HB3:=Zh hb3;unfold nodeV;clear ht hb3)
     generalize hw4:w3.alloc (.cells #[.int .i64 t.op,.int .u64 (word t.set 0),.int .u64 (word t.set 1),.int .u64 (word t.set 2),.int .u64 (word t.set 3),.int .i64 t.lo,.int .i64 t.hi,.slice A tn tc] 41)=w4 at *;have hb4:Below w3.heap.size w3 w4:=(by rw[←hw4];exact (Below.refl _ _).alloc (Nat.le_refl _) _);have hn4:Box8 w4 w3.heap.size t (.slice A tn tc):=(by rw[←hw4];exact Box8.new _ _ _);have hB4:Below w.heap.size w w4:=gro (gro HB2.out HB3.out) hb4;have hBC4:=(HB3.out.block w.heap.size (za0 HBX.out)).trans HBX.out;have hBX4:=(hb4.block w.heap.size (za0 hBC4)).trans hBC4;have HD4:=Zh ((HD.out.stays HB3.out).stays hb4);have HT4:=Zh (HT3.out.stays hb4);have HZ4:=Zh ((HZ2.out.stays HB3.out).stays hb4);have HN4:=Zh hn4;have HB4:=Zh hB4;have HX4:=Zh hBX4;have h3s:w.heap.size+2<=w3.heap.size:=(by have:=HB3.out.size;have:=HS2.out;simp only[World.size_alloc] at *;omega);have H3S:=Zh h3s;have HHAS:=Zh (fun W (hb:Below w4.heap.size w4 W)=>(zb8 (w:=W) (c:=0) (xs:=[]) (A:=none) hwf (HT4.out.stays hb) (fun k hk=>absurd hk (Nat.not_lt_zero _)) (fun k hk=>absurd hk (Nat.not_lt_zero _)) (Nat.zero_le _) (HD4.out.stays hb).tab).mono fun e w' h=>(show e = .returned (.bool (decide (lenN false t=0)))∧Below W.heap.size W w' from by
       obtain⟨b,rfl,hb,h2⟩:=h;refine⟨?_,h2⟩;have hb':b=true↔lenN false t=0:=hb.trans (zc5 hwf 0 (Nat.zero_le _))
       by_cases hz:lenN false t=0
       . rw[decide_eq_true hz,hb'.2 hz]
       . rw[decide_eq_false hz];cases b
         . rfl
         . exact absurd (hb'.1 rfl) hz))
     have HMOST:=Zh (fun W (hb:Below w4.heap.size w4 W)=>(zf9 W hwf (HT4.out.stays hb)).mono fun e w' h=>(show e = .returned (.int .i64 (lenN true t))∧Below W.heap.size W w' from h));have HANY:=Zh (fun W (hb:Below w4.heap.size w4 W)=>(zbl W hwf (HT4.out.stays hb)).mono fun e w' h=>(show e = .returned (setV (anyP t))∧Below W.heap.size W w' from h));have HMSK:=Zh (fun W=>zgq (anyP t) (c.mask:Int) W hm0 hm1);unfold nodeP at HHAS HMOST HANY;simp only[List.length_nil] at HHAS;unfold setV at HANY;rw[Int.toNat_natCast] at HMSK;obtain⟨n0,n1,n2,n3,n4,n5,n6,n7⟩:=hn4.cell;clear hw4 hb4 hn4 hB4 hBC4 hBX4 h3s;rw[decide_eq_false h0] at HHAS;rw[h2] at HMSK;clear h0 h2;go_upto_region 6 with (go_at_call 10;(with_reducible refine (HHAS.out _ (Below.refl _ _)).mono ?_);rintro e w5 ⟨rfl,hb5⟩;have HB5:=Zh hb5;have HN5:=Zh (HN4.out.stays hb5);have HZ5:=Zh (HZ4.out.stays hb5);have HX5:=Zh ((hb5.block w.heap.size (za0 HX4.out)).trans HX4.out);clear hb5)
     obtain⟨n0,n1,n2,n3,n4,n5,n6,n7⟩:=HN5.out.cell;obtain⟨z0,z1,z2,z3,z4,z5,z6,z7⟩:=HZ5.out.cell;obtain⟨y0,y1,y2,y3,y4,y5,y6,y7⟩:=HZ5.out.frozen;have x0:w5.cell? ⟨w.heap.size,0,none⟩=some (.int .i64 c.lam):=cell_of_row w5 _ 0 _ 24 (0,0) HX5.out;have HW:=Zh hwf;generalize (lenN true t:Int)=M at *;go_region_law (first
       | (go_simp;go_at_call 11;(with_reducible refine (HMOST.out _ (by first | exact HB5.out | exact HB5.out.drew)).mono ?_);rintro e w6 ⟨rfl,hb6⟩;have hb6':Below w5.heap.size w5 w6:=(by first | exact zar hb6 | exact hb6);have HB6:=Zh hb6';have HN6:=Zh (HN5.out.stays hb6');have HZ6:=Zh (HZ5.out.stays hb6');have HX6:=Zh ((hb6'.block w.heap.size (za0 HX5.out)).trans HX5.out);have x6:w6.cell? ⟨w.heap.size,0,none⟩=some (.int .i64 c.lam):=cell_of_row w6 _ 0 _ 24 (0,0) HX6.out;clear hb6 hb6')
       | fail)
     all_goals
       obtain⟨n0,n1,n2,n3,n4,n5,n6,n7⟩:=HN6.out.cell;obtain⟨z0,z1,z2,z3,z4,z5,z6,z7⟩:=HZ6.out.cell;obtain⟨y0,y1,y2,y3,y4,y5,y6,y7⟩:=HZ6.out.frozen;have x6:w6.cell? ⟨w.heap.size,4,none⟩=some (.int .u8 (c.mask:Int)):=cell_of_row w6 _ 4 _ 24 (0,0) HX6.out;go_upto_region 8 with fail
       go_region_law (first
         | (go_simp;go_at_call 14;(with_reducible refine (HANY.out _ (by first | exact gro HB5.out HB6.out | exact (gro HB5.out HB6.out).drew)).mono ?_);rintro e w7 ⟨rfl,hb7⟩;have hb7':Below w6.heap.size w6 w7:=(by first | exact zar hb7 | exact hb7);have HB7:=Zh hb7';have HN7:=Zh (HN6.out.stays hb7');have HZ7:=Zh (HZ6.out.stays hb7');have HX7:=Zh ((hb7'.block w.heap.size (za0 HX6.out)).trans HX6.out);have x7:w7.cell? ⟨w.heap.size,4,none⟩=some (.int .u8 (c.mask:Int)):=cell_of_row w7 _ 4 _ 24 (0,0) HX7.out;clear hb7 hb7')
         | (go_simp;go_at_call 39;(with_reducible refine (HMSK.out _).mono ?_);rintro e w8 ⟨rfl,hb8⟩;have hb8':Below w7.heap.size w7 w8:=(by first | exact zar hb8 | exact hb8);have HB8:=Zh hb8';have HN8:=Zh (HN7.out.stays hb8');have HZ8:=Zh (HZ7.out.stays hb8');clear hb8 hb8')
         | fail)
       all_goals
         obtain⟨n0,n1,n2,n3,n4,n5,n6,n7⟩:=HN8.out.cell;obtain⟨z0,z1,z2,z3,z4,z5,z6,z7⟩:=HZ8.out.cell;obtain⟨y0,y1,y2,y3,y4,y5,y6,y7⟩:=HZ8.out.frozen;go_wp2;refine bodyPost_ret (zat (t:=t) (k := .slice A tn tc) rfl (by rfl) (by rfl) ?_) rfl ?_
         . show Box8 (put8 w8 (w.heap.size+1) t (.slice A tn tc)) _ _ _
           exact Box8.put (t':=T.zero) (k' := .slice none 0 0) HZ8.out _ _
         . change RetRead w (.ok t) _ (put8 w8 (w.heap.size+1) t (.slice A tn tc));have hT8:=(((HT4.out.stays HB5.out).stays HB6.out).stays HB7.out).stays HB8.out;exact⟨⟨_,rfl,(hT8.put8 (fun b hb=>by have:=HS2.out;omega)).weak fun b hb _=>by have:=HS2.out;omega⟩,zae (gro (gro (gro (gro HB4.out HB5.out) HB6.out) HB7.out) HB8.out) (by omega) _ _⟩
end
end Go.Proofs.YtgbdanddbgomhaaGreatDoor
