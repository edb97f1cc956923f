import Derived.Test.YtipfgpfplakhiaaTc7
set_option linter.unusedVariables false
set_option linter.unusedSimpArgs false
set_option maxRecDepth 20000
set_option maxHeartbeats 4000000
namespace Go.Proofs.Ytipfgpfplakhiaa
open Go Go.RowKit
section
section
variable {w:World} {F:Nat->Nat} {a:Act} {d:Option Nat} {ty:TypeId} {pos:String} {aft:Array Edge} {ops:Array Oper} {QE:Exit->Act->World->Prop} {rest:List Oper}
theorem zmb {x y:Operand} (hx:a.eval x = .agg (arrV 256 F)) (hy:a.eval y = .agg (arrV 256 F)) (hK:wpList Try.prog ops QE rest (a.put d (.bool false)) w):
 wpList Try.prog ops QE (⟨d,.binOp .neq 34 x y 34,ty,pos,aft,none⟩::rest) a w:=
 wpList_plain rfl fun K hk=>by
  have h1:(eqGuard .neq 34 x y (.agg (arrV 256 F)) (.agg (arrV 256 F))).run Try.prog w = .ok () w:=yk2;have h2:(binOp .neq 34 (.agg (arrV 256 F)) (.agg (arrV 256 F))).run Try.prog w = .ok (.bool false) w:=by
   show (do pure (.bool (!(←Op.equal 34 (.agg (arrV 256 F)) (.agg (arrV 256 F))))):Sem Value).run Try.prog w=_
   rw[Sem.run_bind,show Op.equal 34 (.agg (arrV 256 F)) (.agg (arrV 256 F))=Op.equalIn 10000 34 (.agg (arrV 256 F)) (.agg (arrV 256 F)) from rfl,ygd F w];rfl
  have e:(execOp a.eval ⟨d,.binOp .neq 34 x y 34,ty,pos,aft,none⟩).run Try.prog w = .ok (.value (.bool false)) w:=by
   simp only[execOp,hx,hy,Sem.run_bind,h1,h2,Result.andThen_ok];rfl
  unfold Oper.wp;rw[e];exact hk _ _ hK
end
theorem yf4 (a0 a1:Int) (w:World):(binOp .neq 51 (.agg #[.int .u64 a0,.int .u64 a1]) (.agg #[.int .u64 a0,.int .u64 a1])).run Try.prog w = .ok (.bool false) w:=by
 have p0:∀ (c0 c1:Int) (w:World),(part 49 #[.int .u64 c0,.int .u64 c1] 0).run Try.prog w = .ok (.int .u64 c0) w:=fun _ _ _=>by kernel_rfl
 have p1:∀ (c0 c1:Int) (w:World),(part 49 #[.int .u64 c0,.int .u64 c1] 1).run Try.prog w = .ok (.int .u64 c1) w:=fun _ _ _=>by kernel_rfl
 have pe:∀ (a b:Int) (w:World),(Op.equalIn 9999 49 (.int .u64 a) (.int .u64 b)).run Try.prog w = .ok (a==b) w:=fun a b w=>run_equalIn_int (P:=Try.prog) w 9998 49 .u64 .u64 a b Try.underlying49
 have key:(Op.equalIn 10000 51 (.agg #[.int .u64 a0,.int .u64 a1]) (.agg #[.int .u64 a0,.int .u64 a1])).run Try.prog w = .ok true w:=by
  rw[show (10000:Nat)=9999+1 from rfl,run_equalIn_struct w 9999 _ _ _ yk2 yk2];simp only[Program.fieldsOf,Try.underlying51];simp[Op.eqFields,p0,p1,pe,go_sem]
 show (do pure (.bool (!(←Op.equal 51 (.agg #[.int .u64 a0,.int .u64 a1]) (.agg #[.int .u64 a0,.int .u64 a1])))):Sem Value).run Try.prog w=_
 rw[Sem.run_bind,show Op.equal 51 (.agg #[.int .u64 a0,.int .u64 a1]) (.agg #[.int .u64 a0,.int .u64 a1])=Op.equalIn 10000 51 (.agg #[.int .u64 a0,.int .u64 a1]) (.agg #[.int .u64 a0,.int .u64 a1]) from rfl,key];rfl
theorem yd7 {w:World} {B B' D D' n:Nat} {O O' U U':Nat->Prop} {F:Nat->Nat} {vN vO uN uO:Value} {rows:List (List Nat)} {outs:List (Nat×Nat)} (hN:Nxt w B O vN rows) (hO:Ots w B' O' vO outs) (kN:Nxt w D U uN rows) (kO:Ots w D' U' uO outs) (hl:outs.length=rows.length) (hf:rows.length<=100000) (hr:∀ r∈rows,r.length<=100000):
 Calls Try.prog 12 #[.agg (zac F n vN vO),.agg (zac F n uN uO)] w fun e w'=>e = .returned (.bool true)∧Below w.heap.size w w':=by
 obtain⟨vs,n1,n2,n3,n4⟩:=hN.mem;obtain⟨us,m1,m2,m3,m4⟩:=kN.mem;obtain⟨An,cn,hfn⟩:=hN.form;obtain⟨Ao,co,hfo⟩:=hO.form;obtain⟨Am,cm,hfm⟩:=kN.form;obtain⟨Ap,cp,hfp⟩:=kO.form;subst hfn hfo hfm hfp;have hor:=hO.row;have kor:=kO.row;obtain⟨S,hS⟩:∃ S,rows.length=S:=⟨_,rfl⟩;rw[hS] at n2 m2 hl hf;rw[hl] at hor kor;rw[hS,hl];obtain⟨w1,hw1⟩:∃ w1,w.alloc (.cells (zac F n (.slice An S cn) (.slice Ao S co)) 38)=w1:=⟨_,rfl⟩;have hb1:Below w.heap.size w w1:=ykk;have hx1:BoxM w1 w.heap.size 38 F n (.slice An S cn) (.slice Ao S co):=ykn;have hs1:w1.heap.size=w.heap.size+1:=ylm;obtain⟨w2,hw2⟩:∃ w2,w1.alloc (.cells (zac F n (.slice Am S cm) (.slice Ap S cp)) 38)=w2:=⟨_,rfl⟩;have hb2:Below w1.heap.size w1 w2:=(by rw[←hw2];exact (ygr _ _).alloc (ygo _) _);have hx2:BoxM w2 (w.heap.size+1) 38 F n (.slice Am S cm) (.slice Ap S cp):=(by rw[←hw2,←hs1];exact BoxM.new w1 _ _ _ _ _);have hx1':=hx1.stays hb2;have HW1:=Zh hw1;have HW2:=Zh hw2;have HX1:=Zh hx1';have HX2:=Zh hx2;have HB2:=Zh (gro hb1 hb2);have c1:=hx1'.num;have c2:=hx2.num;have c3:=hx1'.nxt;have c4:=hx2.nxt;have c5:=hx1'.out;have c6:=hx2.out;have HRL:=Zh hS;have HV1:=Zh n1;have HV2:=Zh n2;have HV3:=Zh n3;have HU1:=Zh m1;have HU2:=Zh m2;have HU3:=Zh m3;have HOR:=Zh hor;have KOR:=Zh kor;have HOL:=Zh hl;have HRR:=Zh hr;clear hw1 hw2 hx1 hx1' hx2 hb1 hb2 hs1 hS n1 n2 n3 n4 m1 m2 m3 m4 hor kor hl hN hO kN kO hr;go_enter Try.func12,Try.ntmps12;go_upto_region 1 with fail
 rw[HW1.o,HW2.o];go_wp2_with (first
  | (refine zck yk5 _ yk5 yk5 HX1.o ?_;go_simp)
  | (refine zck yk5 _ yk5 yk5 HX2.o ?_;go_simp)
  | (refine zmb yk5 yk5 ?_;go_simp)
  | fail)
 have C3:=Zh c3;have C4:=Zh c4;have C5:=Zh c5;have C6:=Zh c6;clear c1 c2 c3 c4 c5 c6 HX1 HX2 HW1 HW2;go_loopg [5] S (fun mm i wr=>∃ k:Nat,i = .int .i64 (k:Int)∧k<=S∧mm=S-k∧Below w2.heap.size w2 wr)
 case atStart=>exact⟨0,by first | rfl | trivial,ygy _,by first | rfl | trivial,ygr _ _⟩
 case round =>
  obtain⟨k,rfl,hk,hmk,hbw⟩:=hrel;generalize wr=wo at *;have HMK:=Zh hmk;have HBW:=Zh hbw;have HB:=Zh (HB2.o.trans (hbw.mono HB2.o.size));have c3:=za3 C3.o hbw;have c4:=za3 C4.o hbw;have c5:=za3 C5.o hbw;have c6:=za3 C6.o hbw;clear hmk hbw
  by_cases hkS:k<S
  .obtain⟨r,hr⟩:∃ r,rows[k]?=some r:=⟨_,ygn (by rw[HRL.o];exact hkS)⟩;obtain⟨u,hu⟩:∃ u,vs[k]?=some u:=⟨_,ygn (by rw[HV1.o,HRL.o];exact hkS)⟩;obtain⟨t,ht⟩:∃ u,us[k]?=some u:=⟨_,ygn (by rw[HU1.o,HRL.o];exact hkS)⟩;obtain⟨o,ho⟩:∃ o,outs[k]?=some o:=⟨_,ygn (by rw[HOL.o];exact hkS)⟩;have r1:=za6 (HV3.o k u r hu hr) HB.o;have r2:=za6 (HU3.o k t r ht hr) HB.o;rw[za9] at r1 r2;have hv2:=za6 HV2.o HB.o;have hu2:=za6 HU2.o HB.o;have ho1:=za6 HOR.o HB.o;have ho2:=za6 KOR.o HB.o;obtain⟨Au,cu,hfu⟩:=zaf r1;obtain⟨At,ct,hft⟩:=zaf r2;subst hfu hft;obtain⟨g1,rfl⟩:∃ g,An=some ⟨g,0,none⟩:=by
    rcases hv2.2 with ⟨_,h0⟩|⟨g,cap,cur,e,_⟩
    .omega
    .injection e with e1;exact⟨g,e1⟩
   obtain⟨g2,rfl⟩:∃ g,Am=some ⟨g,0,none⟩:=by
    rcases hu2.2 with ⟨_,h0⟩|⟨g,cap,cur,e,_⟩
    .omega
    .injection e with e1;exact⟨g,e1⟩
   obtain⟨g3,rfl⟩:∃ g,Ao=some ⟨g,0,none⟩:=by
    rcases ho1.2 with ⟨_,h0⟩|⟨g,cap,cur,e,_⟩
    .omega
    .injection e with e1;exact⟨g,e1⟩
   obtain⟨g4,rfl⟩:∃ g,Ap=some ⟨g,0,none⟩:=by
    rcases ho2.2 with ⟨_,h0⟩|⟨g,cap,cur,e,_⟩
    .omega
    .injection e with e1;exact⟨g,e1⟩
   obtain⟨o0,o1⟩:=zf8 outs k o ho;obtain⟨rl,hrl⟩:∃ n,r.length=n:=⟨_,rfl⟩;rw[hrl] at r1 r2;have d1:wo.cell? ⟨g1,k,none⟩=some (.slice Au rl cu):=(by rw[←hrl];exact (ygt hv2 k yjz).trans hu);have d2:wo.cell? ⟨g2,k,none⟩=some (.slice At rl ct):=(by rw[←hrl];exact (ygt hu2 k yjz).trans ht);have d3:wo.cell? ⟨g3,k*2,none⟩=some (.int .u64 (o.1:Int)):=(ygt ho1 (k*2) yjz).trans o0;have d4:wo.cell? ⟨g3,k*2+1,none⟩=some (.int .u64 (o.2:Int)):=(ygt ho1 (k*2+1) yjz).trans o1;have d5:wo.cell? ⟨g4,k*2,none⟩=some (.int .u64 (o.1:Int)):=(ygt ho2 (k*2) yjz).trans o0;have d6:wo.cell? ⟨g4,k*2+1,none⟩=some (.int .u64 (o.2:Int)):=(ygt ho2 (k*2+1) yjz).trans o1;have hq:=fun W=>yf4 (o.1:Int) (o.2:Int) W
   have hm:Try.prog.eqGuardType Try.prog.depth 51=false:=yk2;have i0:(0:Int)<=(k:Int):=yjz;have i1:(k:Int)<(S:Int):=yjz;have R1:=Zh r1;have R2:=Zh r2;have RL:=Zh hrl;have HRK:=Zh (HRR.o r (yh1 hr));clear hr hu ht ho r1 r2 hv2 hu2 ho1 ho2 o0 o1 hrl;go_wp2;go_quiet (fail);revert nq;intro q1;go_wp2;go_quiet (fail);have HWI:=Zh (show Below wo.heap.size wo ((wo.drewN q1).drewN nq) from zb5 (zb5 (ygr _ _) q1) nq);generalize (wo.drewN q1).drewN nq=wi at *;go_wp2;have hrk:rl<=100000:=(by rw[←RL.o];exact HRK.o);have HBQ:=HBW;have D1:=Zh d1;have D2:=Zh d2;have E3:=Zh c3;have E4:=Zh c4;clear d1 d2 d3 d4 d5 d6 c3 c4 c5 c6 hq hm;go_loopg [6] rl (fun mm i wj=>∃ c:Nat,i = .int .i64 (c:Int)∧c<=rl∧mm=rl-c∧Below wo.heap.size wo wj)
   case atStart=>exact⟨0,by first | rfl | trivial,ygy _,by first | rfl | trivial,HWI.o⟩
   case round =>
    obtain⟨c,rfl,hc,hmc,hbc⟩:=hrel;have HMC:=Zh hmc;have HBC:=Zh hbc;have d1:=za3 D1.o hbc;have d2:=za3 D2.o hbc;have c3:=za3 E3.o hbc;have c4:=za3 E4.o hbc
    by_cases hcr:c<rl
    .have r1:=za6 R1.o hbc;have r2:=za6 R2.o hbc;obtain⟨g5,rfl⟩:∃ g,Au=some ⟨g,0,none⟩:=by
      rcases r1.2 with ⟨_,h0⟩|⟨g,cap,cur,e,_⟩
      .omega
      .injection e with e1;exact⟨g,e1⟩
     obtain⟨g6,rfl⟩:∃ g,At=some ⟨g,0,none⟩:=by
      rcases r2.2 with ⟨_,h0⟩|⟨g,cap,cur,e,_⟩
      .omega
      .injection e with e1;exact⟨g,e1⟩
     obtain⟨y,hy⟩:∃ y,r[c]?=some y:=⟨_,ygn (by rw[RL.o];exact hcr)⟩;have d3:wr.cell? ⟨g5,c,none⟩=some (.int .i64 (y:Int)):=by
      rw[ygt r1 c yjz];simp[ns,hy]
     have d4:wr.cell? ⟨g6,c,none⟩=some (.int .i64 (y:Int)):=by
      rw[ygt r2 c yjz];simp[ns,hy]
     have i2:(0:Int)<=(c:Int):=yjz;have i3:(c:Int)<(rl:Int):=yjz;clear r1 r2 hy hmc hbc;go_wp2;go_quiet (fail);go_wp2;go_roundg (rl-(c+1))
     case measure=>have:=HMC.o;omega
     case rel=>exact⟨c+1,by go_num,by omega,rfl,zb5 HBC.o nq⟩
    .have hcl:c=rl:=yjz;subst hcl;go_wp2;go_roundg (S-(k+1))
     case measure=>have:=HMK.o;omega
     case rel=>exact⟨k+1,by go_num,by omega,rfl,HBQ.o.trans (HBC.o.mono HBQ.o.size)⟩
  .have hkl:k=S:=yjz;subst hkl;go_wp2;go_ret;exact⟨rfl,HB.o⟩
end
end Go.Proofs.Ytipfgpfplakhiaa
