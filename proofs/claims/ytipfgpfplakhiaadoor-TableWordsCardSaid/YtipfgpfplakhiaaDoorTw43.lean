import Derived.Test.YtipfgpfplakhiaaDoorTw41
import Derived.Test.YtipfgpfplakhiaaDoorTw3
set_option linter.unusedVariables false
set_option linter.unusedSimpArgs false
set_option maxRecDepth 20000
set_option maxHeartbeats 4000000
namespace Go.Proofs.YtipfgpfplakhiaaDoor
open Go Go.RowKit
theorem zqh (F:Nat->Nat) (n:Int) (w:World):(Instr.build 38 #[(0,.agg (arrV 256 F)),(1,.int .i64 n)]).run Tryd.prog w = .ok (.agg (zaf F n (.slice none 0 0) (.slice none 0 0))) w:=by
 refine run_build w _ _ _ ?_
 kernel_rfl
theorem zkh {w:World} {ops:Array Oper} {rest:List Oper} {o:Oper} {a:Act} {Q:Exit->Act->World->Prop} {F:Nat->Nat} {n:Int} (hgd:o.guard=none) (x0 x1:Operand) (ho:o.op = .build 38 #[(0,x0),(1,x1)])
 (h0:a.eval x0 = .agg (arrV 256 F)) (h1:a.eval x1 = .int .i64 n)
 (hk:wpList Tryd.prog ops Q rest (a.put o.dst (.agg (zaf F n (.slice none 0 0) (.slice none 0 0)))) w):wpList Tryd.prog ops Q (o::rest) a w:=by
 refine wpList_plain hgd fun _ hK=>?_
 unfold Oper.wp execOp;have e:(#[(0,x0),(1,x1)]:Array (Nat×Operand)).map (fun (i,x)=>(i,a.eval x))=#[(0,.agg (arrV 256 F)),(1,.int .i64 n)]:=(by simp[h0,h1]);simp only[ho,e,Sem.run_bind,Sem.run_pure,Result.andThen_ok,zqh];exact hK _ _ hk
theorem ME.begin {w W:World} {b0 N:Nat} {Av:Option Addr} {cv:Nat} {M:Array Value} {κ:Nat->Nat} (h:NRow w b0 (.slice Av N cv) N κ) (hM:M.toList=lstI N (fun _=>0)) (hN:N<=90000) (hb:b0<=w.heap.size) (hlt:∀ s,s<N->κ s<N)
 (e:(w.alloc (.cells M 3)).alloc (.cells #[.slice Av N cv,.slice (some ⟨w.heap.size,0,none⟩) N N,.slice none 0 0] 137)=W):ME W b0 (w.heap.size+1) (.slice Av N cv) (.slice (some ⟨w.heap.size,0,none⟩) N N) (.slice none 0 0) N κ (fun _=>0) []∧Below w.heap.size w W:=by
 have h1:Below w.heap.size w (w.alloc (.cells M 3)):=(yf6 _ _).alloc (yez _) _;have h2:Below (w.alloc (.cells M 3)).heap.size (w.alloc (.cells M 3)) W:=(by rw[←e];exact (yf6 _ _).alloc (yez _) _);have hx:=heap_alloc_new (w.alloc (.cells M 3)) (.cells #[.slice Av N cv,.slice (some ⟨w.heap.size,0,none⟩) N N,.slice none 0 0] 137);rw[e,yfe] at hx;have hm:=heap_alloc_new w (.cells M 3);have hb12:=h1.trans (h2.mono h1.size);have hr:NRow W b0 (.slice (some ⟨w.heap.size,0,none⟩) N N) N (fun _=>0):=za6 (zcf hM hm hb yie) h2;refine⟨⟨by omega,hx,za6 h hb12,hr,yfx W b0 _ 1,fun x ex e'=>?_,fun x ex e'=>(by cases e'),fun x ex e'=>(by cases e'),fun k hk=>by simp,fun i s hi=>by simp at hi,hlt,⟨fun s hs=>by simp at hs,by simp⟩⟩,hb12⟩;have h1:=(yf5 h x ex).2;have h2:w.heap.size=x:=(by injection e');omega
def yeb (w:World) (F:Nat->Nat) (N C:Nat) (rows:List (List Nat)) (os:List (Nat×Nat)) (e:Ending) (w':World):Prop:=
 ∃ (q:PT) (vN vO:Value) (O:Nat->Prop) (fs:List Nat) (rows':List (List Nat)),e = .returned (.agg (zaf F (C:Int) vN vO))∧(∀ s t,s<N->t<N->(q.grp s=q.grp t↔Alk (dl rows) (fun s=>os[s]?) N C s t))∧zf9 q.grp (dl rows) C (N+1) 0 [0] []=(fs,rows')∧
  Nxt w' w.heap.size O vN rows'∧Ots w' w.heap.size O vO (fs.map fun s=>os.getD s (0,0))∧Below w.heap.size w w'
theorem ybz {w:World} {B B' N C:Nat} {F:Nat->Nat} {vN vO:Value} {O O':Nat->Prop} {rows:List (List Nat)} {os:List (Nat×Nat)} (hn:Nxt w B O vN rows) (ho:Ots w B' O' vO os) (hl:rows.length=N) (hol:os.length=N) (h0:0<N) (hok:∀ o∈os,okO o) (hr:∀ (i:Nat) r,rows[i]?=some r->r.length=C∧∀ x∈r,x<N) (hNC:N*C<=1000000) (hN9:N<=90000) (hC9:C<=90000):
 Calls Tryd.prog 28 #[.agg (zaf F (C:Int) vN vO)] w (yeb w F N C rows os):=by
 obtain⟨An,cn,hv⟩:=hn.form;rw[hl] at hv;subst hv;obtain⟨Ao,co,hvo⟩:=ho.form;rw[hol] at hvo;subst hvo;have hz:∀ w:World,Sem.run Tryd.prog (zeroValue 38) w = .ok (.agg (zaf (fun _=>0) 0 (.slice none 0 0) (.slice none 0 0))) w:=fun _=>by kernel_rfl
 obtain⟨b0,hb0⟩:∃ b0,w.heap.size=b0:=⟨_,rfl⟩;obtain⟨w1,hw1⟩:∃ w1,w.alloc (.cells (zaf F (C:Int) (.slice An N cn) (.slice Ao N co)) 38)=w1:=⟨_,rfl⟩;have hb1:Below w.heap.size w w1:=yjj;have hx1:BoxM w1 w.heap.size 38 F (C:Int) (.slice An N cn) (.slice Ao N co):=(by rw[←hw1];exact BoxM.new w _ _ _ _ _);have hs1:w1.heap.size=w.heap.size+1:=(by rw[←hw1];simp);rw[hb0] at hx1 hs1;have hb2:Below w1.heap.size w1 (w1.alloc (.cells (zaf (fun _=>0) 0 (.slice none 0 0) (.slice none 0 0)) 38)):=(yf6 _ _).alloc (yez _) _;have hx2:=hx1.stays hb2;have hy2:=BoxM.new w1 38 (fun _=>0) 0 (.slice none 0 0) (.slice none 0 0);rw[hs1] at hy2;have hb02:=hb1.trans (hb2.mono hb1.size);have hn2:=hn.kept (Kept.of_below (fun _=>False) hb02) (fun _ _ q=>q);have ho2:=ho.kept (Kept.of_below (fun _=>False) hb02) (fun _ _ q=>q);have hal:=ycw (F:=F) hn2 ho2 hl hol hok hr hNC hN9 hC9;obtain⟨M,hM,hmk⟩:=zdn N yie;have HM:=Zh hM;have hnN:(N:Int)<=90000:=yie;clear hM;have HW1:=Zh hw1;have HAL:=Zh hal;have HX2:=Zh hx2;have HY2:=Zh hy2;have HB02:=Zh hb02;have HN2:=Zh hn2;have HO2:=Zh ho2;have HL:=Zh hl;have HOL:=Zh hol;have HR:=Zh hr;have HB0:=Zh hb0;have HN9:=Zh hN9;have HC9:=Zh hC9;have H00:=Zh h0;clear hw1 hal hx1 hx2 hy2 hb1 hb2 hb02 hn2 ho2 hn ho hl hol hok hr hNC hN9 hC9 hs1;go_enter Tryd.func28,Tryd.ntmps28;go_upto_region 1 with fail
 rw[HW1.o];generalize w1.alloc (.cells (zaf (fun _=>0) 0 (.slice none 0 0) (.slice none 0 0)) 38)=w2 at *;go_upto_region 2 with (first
  | (refine zcs yik _ yik yik Tryd.underlying38 rfl Tryd.sizeMM HX2.o ?_;go_simp)
  | (go_at_call 47;(with_reducible refine HAL.o.mono ?_);rintro e w3 ⟨v3,q,rfl,r3,inv3,eN3,alk3,b3⟩;obtain⟨Av,cv,rfl⟩:=zaa r3;have HR3:=Zh r3;have HI3:=Zh inv3;have HE3:=Zh eN3;have HA3:=Zh alk3;have HB3:=Zh b3;clear r3 inv3 eN3 alk3 b3)
  | fail)
 have HX3:=Zh (HX2.o.stays HB3.o);have c3:=HX3.o.num;go_upto_region 3 with (first
  | (refine zi4 yik _ yik yik HX3.o ?_;go_simp)
  | (refine zkh yik _ _ yik yik yik ?_;go_simp)
  | (refine zag yik _ _ yik yik yik Tryd.sizeMM rfl rfl (BoxM.new _ _ _ _ _ _) ?_;intro hbx;have HBX4:=Zh hbx;clear hbx;go_simp)
  | fail)
 have hb4:Below w3.heap.size w3 ((w3.alloc (.cells (zaf (fun _=>0) 0 (.slice none 0 0) (.slice none 0 0)) 38)).setRow w3.heap.size (zaf F (C:Int) (.slice none 0 0) (.slice none 0 0))):=below_setRow ((yf6 _ _).alloc (yez _) _) (yez _) _;generalize (w3.alloc (.cells (zaf (fun _=>0) 0 (.slice none 0 0) (.slice none 0 0)) 38)).setRow w3.heap.size (zaf F (C:Int) (.slice none 0 0) (.slice none 0 0))=w4 at *;have HB4:=Zh hb4;have hb24:=HB3.o.trans (hb4.mono HB3.o.size);have hlt:∀ s,s<N->q.grp s<N:=fun s hs=>by have h1:=HI3.o.gn s (by rw[HE3.o];exact hs);have h2:=zee HI3.o;have h3:=HE3.o;omega
 have hmeb:=fun W e=>ME.begin (W:=W) (za6 HR3.o hb4) HM.o HN9.o (show w2.heap.size<=w4.heap.size from hb24.size) hlt e
 have HB24:=Zh hb24;have HMEB:=Zh hmeb;have hmk4:=hmk w4;clear hb4 hb24 hlt hmeb hmk hz c3;go_upto_region 4 with fail
 obtain⟨w5,hw5⟩:∃ w5,(w4.alloc (.cells M 3)).alloc (.cells #[.slice Av N cv,.slice (some ⟨w4.heap.size,0,none⟩) N N,.slice none 0 0] 137)=w5:=⟨_,rfl⟩;obtain⟨hme5,hb45⟩:=HMEB.o w5 hw5;rw[hw5];obtain⟨g4,hg4⟩:∃ g4,w4.heap.size=g4:=⟨_,rfl⟩;rw[hg4] at hme5 hb45;rw[hg4];obtain⟨gl,hgl⟩:∃ gl,w3.heap.size=gl:=⟨_,rfl⟩;have HBX5:=Zh (HBX4.o.stays (show Below w4.heap.size w4 w5 by rw[hg4];exact hb45));rw[hgl] at HBX5 ⊢;have HB25:=Zh (HB24.o.trans (hb45.mono (by have:=HB24.o.size;omega)));have HGL:=Zh (show w2.heap.size<=gl by have:=HB3.o.size;omega);have HG4:=Zh (show gl<g4 by have:=HBX4.o.lt;omega);have hmt:=yaj (s:=0) hme5 H00.o HN9.o;rw[show ((0:Nat):Int)=0 from rfl] at hmt;have HMT:=Zh hmt;clear hmt hmk4 hw5 hb45 hme5 HMEB hg4 hgl HBX4 HB4 HB24 HR3;go_upto_region 5 with (first
  | (go_at_call 48;(with_reducible refine HMT.o.mono ?_);rintro e w6 ⟨i6,fs6,num6,vf6,rfl,me6,or6,k6,q6⟩;have HME6:=Zh me6;have HOR6:=Zh or6;have HK6:=Zh k6;have HQ6:=Zh q6;clear me6 or6 k6 q6)
  | fail)
 obtain⟨rfl,rfl⟩:fs6=[0]∧i6=0:=by
  rcases HOR6.o with ⟨_,h⟩|⟨h1,h2,_⟩
  .simp at h
  .exact⟨h1,h2⟩
 have hle:LE w2.heap.size w2 w6 gl (g4+1) (fun _=>False) F (C:Int) (.slice Av N cv) (.slice (some ⟨g4,0,none⟩) N N) vf6 (.slice none 0 0) (.slice none 0 0) N q.grp num6 [0] [] []:=by
  have hg4:w2.heap.size<=g4:=(by have:=HGL.o;have:=HG4.o;omega);have hbw:∀ b,b<w5.heap.size->b≠g4+1->b≠g4->w6.heap[b]?=w5.heap[b]?:=fun b hb h1 h2=>HK6.o.block b hb fun q=>by
   rcases q with q|q|q
   .exact h1 q
   .exact h2 (by injection q with q;exact q.symm)
   .cases q
  have hgl5:=HBX5.o.lt;refine⟨HME6.o,HGL.o,(hbw gl hgl5 (by have:=HG4.o;omega) (by have:=HG4.o;omega)).trans HBX5.o,Nxt.nil _ _ _,Ots.nil _ _ _,fun b hb=>hb.elim,fun v hv x ex q=>q,fun q=>q,fun q=>q,HB25.o.trans (HK6.o.below HB25.o.size fun b q=>?_)⟩;rcases q with q|q|q
  .omega
  .have:g4=b:=by injection q
   omega
  .cases q
 obtain⟨TGT,hTGT⟩:∃ t,zf9 q.grp (dl rows) C (N+1) 0 [0] []=t:=⟨_,rfl⟩;have HLE:=Zh hle;have HTG:=Zh hTGT;clear hle hTGT HMT HME6 HOR6 HK6 HQ6 HBX5 HB25 HAL;go_upto_region 6 with fail
 obtain⟨gm,hgm⟩:∃ gm,g4+1=gm:=⟨_,rfl⟩;rw[hgm] at HLE ⊢;go_loopg [6] N (fun mm s wr=>∃ (k fu:Nat) (vf vN vO:Value) (O:Nat->Prop) (num:Nat->Nat) (fs:List Nat) (rs:List (List Nat)),s = .int .i64 (k:Int)∧k<=fs.length∧mm=N-k∧rs.length=k∧zf9 q.grp (dl rows) C (fu+1) k fs rs=TGT∧fu+k=N∧
  LE w2.heap.size w2 wr gl gm O F (C:Int) (.slice Av N cv) (.slice (some ⟨g4,0,none⟩) N N) vf vN vO N q.grp num fs rs ((fs.take k).map fun s=>os.getD s (0,0)))
 case atStart=>exact⟨0,N,vf6,_,_,_,num6,[0],[],by first | rfl | trivial,yf8 _,by first | rfl | trivial,rfl,HTG.o,rfl,HLE.o⟩
 case round =>
  obtain⟨k,fu,vf,vN,vO,O1,num,fs,rs,rfl,hk,hmm,hrl,hls,hfu,hle⟩:=hrel;have HMM:=Zh hmm;have HLS:=Zh hls;have HFU:=Zh hfu;have HRL:=Zh hrl;have HLW:=Zh hle;have hfew:=hle.me.few;obtain⟨Af,cf,hvf⟩:=zaa hle.me.rf;rw[zaj] at hvf;subst hvf;have m2:=cell_of_row wr gm 2 _ _ (0,0) hle.me.box;obtain⟨L,hL⟩:∃ L,fs.length=L:=⟨_,rfl⟩;have HLL:=Zh hL;have HFEW:=Zh hfew;have hx:=HX2.o.stays (show Below w2.heap.size w2 wr from hle.below);have hy:=HY2.o.stays (show Below w2.heap.size w2 wr from hle.below);have hb:=HB02.o.trans (hle.below.mono HB02.o.size);have HX:=Zh hx;have HY:=Zh hy;have HB:=Zh hb;have i9:(L:Int)<=90000:=yja;clear hmm hls hfu hrl hfew hle hx hy hb
  by_cases hkL:k<fs.length
  .obtain⟨s,hs⟩:∃ s,fs[k]?=some s:=⟨_,yey hkL⟩;have hsN:s<N:=HLW.o.me.met.lt s (yfh hs);obtain⟨bf,rfl⟩:∃ g,Af=some ⟨g,0,none⟩:=by
    rcases HLW.o.me.rf.2 with ⟨_,h0⟩|⟨g,cap,cur,e,_⟩
    .rw[zaj] at h0;omega
    .injection e with e1;exact⟨g,e1⟩
   have d1:wr.cell? ⟨bf,k,none⟩=some (.int .i64 (s:Int)):=by
    have hrf:=HLW.o.me.rf;unfold Ints at hrf;rw[zaj] at hrf;refine (yf7 hrf k yie).trans ?_;simp[ns,hs]
   have x256:=HX.o.num;have x257:=HX.o.nxt;obtain⟨us,n1,n20,n3,n4⟩:=HN2.o.mem;have n2:=za6 n20 HLW.o.below;obtain⟨r,hr⟩:∃ r,rows[s]?=some r:=⟨_,yey (by rw[HL.o];exact hsN)⟩;obtain⟨u,hu⟩:∃ u,us[s]?=some u:=⟨_,yey (by rw[n1,HL.o];exact hsN)⟩;obtain⟨hrC,hrN⟩:=HR.o s r hr;have hur:=n3 s u r hu hr;obtain⟨Au,cu,heu⟩:=zaa hur;rw[zaj,hrC] at heu;subst heu;rw[HL.o] at n2;obtain⟨gn,rfl⟩:∃ g,An=some ⟨g,0,none⟩:=by
    rcases n2.2 with ⟨_,h0⟩|⟨g,cap,cur,e,_⟩
    .omega
    .injection e with e1;exact⟨g,e1⟩
   have d2:wr.cell? ⟨gn,s,none⟩=some (.slice Au C cu):=(yf7 n2 s yie).trans hu;obtain⟨MC,hMC,hmkC⟩:=zdn C yjk;have hmkr:=hmkC wr;have hk0:(0:Int)<=(k:Int):=yie;have hk1:(k:Int)<(L:Int):=yie;have hs0:(0:Int)<=(s:Int):=yie;have hs1:(s:Int)<(N:Int):=yie;have hc9:(C:Int)<=90000:=yjk;have HUR:=Zh hur;have HRR:=Zh hr;have HRC:=Zh hrC;have HRN:=Zh hrN;have HMC:=Zh hMC;have HSK:=Zh hs;have HSN:=Zh hsN;rw[hL] at m2;clear n20 n1 n2 n3 n4 hu hur hr hrC hrN hMC hs hsN hmkC;go_upto_region 10 with fail
   have hbx:Below wr.heap.size wr (wr.alloc (.cells MC 3)):=(yf6 _ _).alloc (yez _) _;have hxm:=heap_alloc_new wr (.cells MC 3);have hle2:=HLW.o.stays hbx;obtain⟨gx,hgx⟩:∃ gx,wr.heap.size=gx:=⟨_,rfl⟩;have hrow:NRow (wr.alloc (.cells MC 3)) w2.heap.size (.slice (some ⟨gx,0,none⟩) C C) C (fun _=>0):=by
    rw[←hgx];exact zcf HMC.o hxm (by have:=HLW.o.box.lt;have:=HLW.o.gB;omega) yjk
   have hlr:LR w2.heap.size w2 (wr.alloc (.cells MC 3)) gl gm gx C O1 F (C:Int) (.slice Av N cv) (.slice (some ⟨g4,0,none⟩) N N) (.slice (some ⟨bf,0,none⟩) fs.length cf) vN vO N q.grp num fs rs ((fs.take k).map fun s=>os.getD s (0,0)) (fun _=>0):=by
    refine⟨hle2,hrow,fun h=>?_,fun v hv e=>?_⟩
    .have:=(HLW.o.olt gx h).2;omega
    .have hm:=HLW.o.me;simp only[yfi,yfk,or_false] at hv;rcases hv with rfl|rfl|rfl
     .have:=(yf5 hm.rg gx e).2;omega
     .have:=(yf5 hm.rn gx e).2;omega
     .have:=(yf5 hm.rf gx e).2;omega
   have y257:=za4 x257 hbx;have dd2:=za4 d2 hbx;have hxb:=HX.o.stays hbx;rw[hgx];generalize wr.alloc (.cells MC 3)=wx at *;have HLR:=Zh hlr;have HXB:=Zh hxb;have HBX:=Zh hbx;clear hle2 hrow hlr hxb hxm x256 x257 d1 d2 m2 hmkr hbx;go_upto_region 11 with fail
   go_loopg [45] C (fun mm sv wj=>∃ (c:Nat) (vf':Value) (num':Nat->Nat) (fs':List Nat) (f:Nat->Nat),sv = .int .i64 (c:Int)∧c<=C∧mm=C-c∧zcw q.grp (dl rows s) (C-c) c fs' ((List.range c).map f)=zcw q.grp (dl rows s) C 0 fs []∧(∃ l,fs'=fs++l)∧
    LR w2.heap.size w2 wj gl gm gx C O1 F (C:Int) (.slice Av N cv) (.slice (some ⟨g4,0,none⟩) N N) vf' vN vO N q.grp num' fs' rs ((fs.take k).map fun s=>os.getD s (0,0)) f)
   case atStart=>exact⟨0,_,_,fs,_,by first | rfl | trivial,yf8 _,by first | rfl | trivial,rfl,⟨[],by simp⟩,HLR.o⟩
   case round =>
    obtain⟨c,vf',num',fs',f,rfl,hc,hmc,hro,hpre,hlr⟩:=hrel;have HMC2:=Zh hmc;have HRO:=Zh hro;have HPRE:=Zh hpre;have HLJ:=Zh hlr;clear hmc hro hpre
    by_cases hcC:c<C
    .have hrC:=HRC.o;obtain⟨t,ht⟩:∃ t,r[c]?=some t:=⟨_,yey yie⟩;have htN:t<N:=HRN.o t (yfh ht);have hdl:dl rows s c=t:=by
      have e1:rows.getD s []=r:=(by rw[yf0,HRR.o];rfl);unfold dl;rw[e1,yf0,ht];rfl
     have hur:=za6 HUR.o hlr.le.below;rw[zaj,hrC] at hur;obtain⟨gu,rfl⟩:∃ g,Au=some ⟨g,0,none⟩:=by
      rcases hur.2 with ⟨_,h0⟩|⟨g,cap,cur,e,_⟩
      .omega
      .injection e with e1;exact⟨g,e1⟩
     have d5:wr.cell? ⟨gu,c,none⟩=some (.int .i64 (t:Int)):=by
      refine (yf7 hur c yie).trans ?_;simp[ns,ht]
     have hmt:=yaj hlr.le.me htN HN9.o;have HMT:=Zh hmt;have j0:(0:Int)<=(c:Int):=yie;have j1:(c:Int)<(C:Int):=yie;have HDL:=Zh hdl;clear hmt hur ht hdl hrC hlr;go_upto_region 14 with (first
      | (go_at_call 48;(with_reducible refine HMT.o.mono ?_);rintro e w12 h12;obtain⟨i,fs2,num2,vf2,rfl,hor,hlr2⟩:=HLJ.o.meet h12;have z1:=(yf7 hlr2.row c yie).trans (zat hcC);have z2:=hlr2.row.frozen c;have HLR2:=Zh hlr2;have HOR:=Zh hor;clear h12 hlr2 hor)
      | fail)
     have hset:=HLR2.o.set c i;have HSET:=Zh hset;generalize w12.setCell ⟨gx,c,none⟩ (.int .i64 (i:Int))=w13 at *;clear hset z1 z2 d5;go_wp2;go_roundg (C-(c+1))
     case measure=>have:=HMC2.o;omega
     case rel =>
      refine⟨c+1,vf2,num2,fs2,_,by go_num,by omega,rfl,?_,?_,HSET.o⟩
      .rw[←HRO.o];exact (ybv HLJ.o.le.me.met.nod hcC (by rw[HDL.o];exact HOR.o)).symm
      .obtain⟨l,hl⟩:=HPRE.o;rcases HOR.o with ⟨e,_⟩|⟨e,_⟩
       .exact⟨l,by rw[e,hl]⟩
       .exact⟨l++[t],by rw[e,hl,yfl]⟩
    .have hcl:c=C:=yie;subst hcl;have hle:=hlr.le;have hrow:=hlr.row;obtain⟨outs,houts⟩:∃ outs,(fs.take k).map (fun s=>os.getD s (0,0))=outs:=⟨_,rfl⟩;rw[houts] at hle hlr;obtain⟨vs,n1,n2,n3,n4⟩:=hle.nxt.mem;have n6:=hle.ots.row;obtain⟨An2,cn2,hvN⟩:=zas n2;obtain⟨Ao2,co2,hvO⟩:=zas n6;obtain⟨rn,hrn⟩:∃ rn,rs.length=rn:=⟨_,rfl⟩;obtain⟨on,hon⟩:∃ on,outs.length=on:=⟨_,rfl⟩;rw[hrn] at n2 hvN;rw[hon] at n6 hvO;subst hvN hvO;have hbel:=hle.below;have hx2:=HX2.o.stays hbel;have c1:=hx2.out;have hor:=za6 HO2.o.row hbel;rw[HOL.o] at hor;obtain⟨p,q',hpq⟩:∃ p q',os[s]?=some (p,q'):=⟨_,_,yey (by rw[HOL.o];exact HSN.o)⟩;obtain⟨go,hgo⟩:∃ g,Ao=some ⟨g,0,none⟩:=by
      rcases hor.2 with ⟨_,h0⟩|⟨g,cap,cur,e,_⟩
      .have:=HSN.o;omega
      .injection e with e1;exact⟨g,e1⟩
     subst hgo;have hgo2:go<w2.heap.size:=(yf5 HO2.o.row go rfl).2;have e1:=(yf7 hor (s*2) (by have:=HSN.o;omega)).trans (zen os s (p,q') hpq).1;have e2:=(yf7 hor (s*2+1) (by have:=HSN.o;omega)).trans (zen os s (p,q') hpq).2;have hb02:b0<w2.heap.size:=HX2.o.lt;have q1:=fun b (e:(Value.slice An2 rn cn2).ownBlock=some b)=>yf5 n2 b e
     have q2:=fun b (e:(Value.slice Ao2 on co2).ownBlock=some b)=>yf5 n6 b e
     have hgB:=hle.gB;have qlow:∀ b,b<w2.heap.size->¬ (((Value.slice An2 rn cn2).ownBlock=some b∨(Value.slice Ao2 on co2).ownBlock=some b)∨b=gl):=fun b hb e=>by
      rcases e with (e|e)|e
      .have:=(q1 b e).1;omega
      .have:=(q2 b e).1;omega
      .omega
     have qgl:¬ ((Value.slice An2 rn cn2).ownBlock=some gl∨(Value.slice Ao2 on co2).ownBlock=some gl):=fun e=>by
      rcases e with e|e
      .exact hle.ogl (hle.nxt.inO gl e)
      .exact hle.ogl (hle.ots.inO gl e)
     have c3:=hle.box.nxt;have c4:=hle.box.out;have hc1:=fun (W:World) (kk:Kept (fun b=>((Value.slice An2 rn cn2).ownBlock=some b∨(Value.slice Ao2 on co2).ownBlock=some b)∨b=gl) wr W)=>kk.cell (a:=⟨b0,258,none⟩) c1 (qlow b0 hb02)
     have hc2:=fun (W:World) (kk:Kept (fun b=>((Value.slice An2 rn cn2).ownBlock=some b∨(Value.slice Ao2 on co2).ownBlock=some b)∨b=gl) wr W)=>kk.cell (a:=⟨go,s*2,none⟩) e1 (qlow go hgo2)
     have hc5:=fun (W:World) (kk:Kept (fun b=>((Value.slice An2 rn cn2).ownBlock=some b∨(Value.slice Ao2 on co2).ownBlock=some b)∨b=gl) wr W)=>kk.cell (a:=⟨go,s*2+1,none⟩) e2 (qlow go hgo2)
     have hc3:=fun (W:World) (kk:Kept (fun b=>(Value.slice An2 rn cn2).ownBlock=some b∨(Value.slice Ao2 on co2).ownBlock=some b) wr W)=>kk.cell (a:=⟨gl,257,none⟩) c3 qgl
     have hc4:=fun (W:World) (kk:Kept (fun b=>(Value.slice An2 rn cn2).ownBlock=some b∨(Value.slice Ao2 on co2).ownBlock=some b) wr W)=>kk.cell (a:=⟨gl,258,none⟩) c4 qgl
     have hfz:=fun (W:World) (kk:Kept (fun b=>(Value.slice An2 rn cn2).ownBlock=some b∨(Value.slice Ao2 on co2).ownBlock=some b) wr W)=>(hle.box.kept kk qgl).frozen
     have HC1:=Zh hc1;have HC2:=Zh hc2;have HC3:=Zh hc3;have HC4:=Zh hc4;have HC5:=Zh hc5;have HFZ:=Zh hfz;have HPN:=Zh n2;have HPO:=Zh n6;have HN1:=Zh n1;have HN3:=Zh n3;have HN4:=Zh n4;have HLQ:=Zh hlr;have HRNN:=Zh hrn;have HONN:=Zh hon;have HOUTS:=Zh houts;have HPQ:=Zh hpq;have hkfu:=HFU.o;have hcn:rn<=100000:=(by have:=HRL.o;have:=HN9.o;omega);have hco:on<=100000:=by
      rw[←hon,←houts,yfr,yg8];have:=HLL.o;have:=HFEW.o;have:=HN9.o;omega
     have hB2:w2.heap.size<=wr.heap.size:=hle.below.size;have hne0:∀ b,(Value.slice An2 rn cn2).ownBlock=some b->(Value.slice Ao2 on co2).ownBlock=some b->False:=fun b e e'=>by
      obtain⟨cu,h1⟩:=za7 n2 e;obtain⟨cv,h2⟩:=za7 n6 e';exact za1 h1 h2 yij rfl
     have HNE:=Zh hne0;have HNE2:=Zh (fun b e e'=>hne0 b e' e);have HLN:=Zh (fun b (e:(Value.slice An2 rn cn2).ownBlock=some b)=>(q1 b e).2);have HLO:=Zh (fun b (e:(Value.slice Ao2 on co2).ownBlock=some b)=>(q2 b e).2);have HQR:=Zh (fun (W:World) (kk:Kept (fun b=>(Value.slice An2 rn cn2).ownBlock=some b∨(Value.slice Ao2 on co2).ownBlock=some b) wr W)=>(kk.mono (fun b e => .inl (.inl e)):Kept (fun b=>((Value.slice An2 rn cn2).ownBlock=some b∨(Value.slice Ao2 on co2).ownBlock=some b)∨b=gl) wr W));have HB2:=Zh hB2;clear hne0 hc1 hc2 hc3 hc4 hc5 hfz n1 n2 n3 n4 n6 hlr hle hrow hbel hx2 c1 hor hpq e1 e2 q1 q2 qlow qgl c3 c4 hrn hon houts hB2 hkfu hgB hgo2 hb02;go_upto_region 15 with fail
     have hmx:Tryd.prog.follows .mixedOrders=true:=yih;have hS0:Kept (fun b=>(Value.slice An2 rn cn2).ownBlock=some b∨(Value.slice Ao2 on co2).ownBlock=some b) wr wr.drew:=(Kept.refl _ wr).drew;have hR0:=HQR.o _ hS0;refine zdb (R:=fun W=>Kept (fun b=>((Value.slice An2 rn cn2).ownBlock=some b∨(Value.slice Ao2 on co2).ownBlock=some b)∨b=gl) wr W) (S:=fun W=>Kept (fun b=>(Value.slice An2 rn cn2).ownBlock=some b∨(Value.slice Ao2 on co2).ownBlock=some b) wr W) (T:=[15,17]) hmx ?_;refine anyR_tk (i:=0) (v := .pointer (some ⟨gl,257,none⟩)) rfl (Or.inl ⟨by rfl,fun w' hS=>by go_simp⟩) hR0 (fun _=>hS0) ?_;refine anyT_tk (i:=1) (v := .slice An2 rn cn2) rfl (Or.inl ⟨by rfl,fun w' hS=>by have t1:=HC3.o w' hS;go_simp⟩) hR0 hS0 ?_;refine anyR_tk (i:=2) (v := .slice (some ⟨gx,0,none⟩) c c) rfl (Or.inl ⟨by rfl,fun w' hS=>by go_simp⟩) hR0 (fun _=>hS0) ?_;refine anyR_tk (i:=5) (v := .pointer (some ⟨gl,258,none⟩)) rfl (Or.inl ⟨by rfl,fun w' hS=>by go_simp⟩) hR0 (fun _=>hS0) ?_;refine anyT_tk (i:=6) (v := .slice Ao2 on co2) rfl (Or.inl ⟨by rfl,fun w' hS=>by have t1:=HC4.o w' hS;go_simp⟩) hR0 hS0 ?_;refine anyR_tk (i:=7) (v := .pointer (some ⟨b0,258,none⟩)) rfl (Or.inl ⟨by rfl,fun w' hS=>by go_simp⟩) hR0 (fun _=>hS0) ?_;refine anyR_tk (i:=8) (v := .slice (some ⟨go,0,none⟩) N co) rfl (Or.inl ⟨by rfl,fun w' hS=>by have t1:=HC1.o w' hS;go_simp⟩) hR0 (fun _=>hS0) ?_;refine anyR_tk (i:=9) (v := .int .i64 (s:Int)) rfl (Or.inl ⟨by rfl,fun w' hS=>by go_simp⟩) hR0 (fun _=>hS0) ?_;refine anyR_tk (i:=10) (v := .pointer (some ⟨go,s*2,none⟩)) rfl (Or.inl ⟨by rfl,fun w' hS=>by go_simp⟩) hR0 (fun _=>hS0) ?_;refine anyR_tk (i:=11) (v := .agg #[.int .u64 (p:Int),.int .u64 (q':Int)]) rfl (Or.inl ⟨by rfl,fun w' hS=>by have t1:=HC2.o w' hS;have t2:=HC5.o w' hS;go_simp⟩) hR0 (fun _=>hS0) ?_;go_simp;refine za2 (rs:=[3,12]) yih yii ?_;refine zc6 ?_ ?_
     all_goals
      refine za3 rfl fun K hK=>?_
      go_simp;refine hK.out _ _ (HQR.o _ yig) (fun _=>yig) ?_;clear hK K
     rotate_left 1
     refine za2 (rs:=[3]) yih yii ?_;refine za5 (za3 rfl fun K hK=>?_);go_simp;refine hK.out _ _ (HQR.o _ yig) (fun _=>yig) ?_;clear hK K;refine za2 (rs:=[4]) yih yii ?_;refine za5 (za3 rfl fun K hK=>?_)
     rotate_left 1
     refine za2 (rs:=[4,12]) yih yii ?_;refine zc6 (za3 rfl fun K hK=>?_) (za3 rfl fun K hK=>?_)
     rotate_left 1
     go_simp;refine hK.out _ _ (HQR.o _ yig) (fun _=>yig) ?_;clear hK K;refine za2 (rs:=[4]) yih yii ?_;refine za5 (za3 rfl fun K hK=>?_)
     all_goals
      have hr4:=fun (W:World) (kk:Kept (fun b=>(Value.slice Ao2 on co2).ownBlock=some b) wr W)=>za8 HPN.o fun b e hb=>kk.block b hb fun q=>HNE.o b e q
      refine zqs yik _ _ yik yik (hr4 _ yiq) yik (by repeat (first | with_reducible exact zav _ _ _ _ rfl | exact zav _ _ _ _ (by simp;done) | with_reducible refine zcg ?_ | with_reducible refine zbq _ ?_ | with_reducible refine G1K.o _ _ ?_)) rfl hcn (yfa HB2.o (show Kept (fun b=>(Value.slice An2 rn cn2).ownBlock=some b∨(Value.slice Ao2 on co2).ownBlock=some b) wr _ from yig).size) ?_;intro v1 W1 r1 g1 o1';have E1:=Zh (zmh HNE.o HLO.o o1' (show Kept (fun b=>(Value.slice An2 rn cn2).ownBlock=some b∨(Value.slice Ao2 on co2).ownBlock=some b) wr _ from yig).size);have G1K:=Zh (fun g o (hg:wr.heap.size<=g) h=>zi1 (g:=g) (o:=o) g1 h fun e=>by have:=HLN.o g e.symm;omega);obtain⟨A1,c1',rfl⟩:=zas r1;have R1:=Zh r1;have G1:=Zh g1;clear r1 g1 o1' hr4;refine hK.out _ _ (HQR.o _ yig) (fun _=>yig) ?_;clear hK K;refine anyR_tk (i:=14) (v := .pointer (some ⟨gl,257,none⟩)) rfl (Or.inl ⟨by rfl,fun w' hS=>by go_simp⟩) (HQR.o _ yig) (fun _=>yig) ?_
     rotate_left 2
     refine za2 (rs:=[12]) yih yii ?_;refine za5 (za3 rfl fun K hK=>?_);go_simp;refine hK.out _ _ (HQR.o _ yig) (fun _=>yig) ?_;clear hK K
     all_goals
      refine za2 (rs:=[13]) yih yii ?_;refine za5 (za3 rfl fun K hK=>?_);have hr4:=fun (W:World) (kk:Kept (fun b=>(Value.slice An2 rn cn2).ownBlock=some b) wr W)=>za8 HPO.o fun b e hb=>kk.block b hb fun q=>HNE.o b q e
      refine zqr yik _ _ yik yik (hr4 _ (by repeat (first | with_reducible exact Kept.refl _ _ | with_reducible refine Kept.drew ?_ | with_reducible refine Kept.alloc ?_ _ | with_reducible refine Kept.grown ?_ G1.o (fun b e => .inl e)))) yik (by repeat (first | with_reducible exact zav _ _ _ _ rfl | exact zav _ _ _ _ (by simp;done) | with_reducible refine zcg ?_ | with_reducible refine zbq _ ?_ | with_reducible refine G1K.o _ _ yii ?_)) hco (yfa HB2.o (show Kept (fun b=>(Value.slice An2 rn cn2).ownBlock=some b∨(Value.slice Ao2 on co2).ownBlock=some b) wr _ from yig).size) ?_;intro v2 W2 r2 g2 o2';have E2:=Zh (zmh HNE2.o HLN.o o2' (show Kept (fun b=>(Value.slice An2 rn cn2).ownBlock=some b∨(Value.slice Ao2 on co2).ownBlock=some b) wr _ from yig).size);obtain⟨A2,c2',rfl⟩:=zas r2;have R2:=Zh r2;have G2:=Zh g2;clear r2 g2 o2' hr4;refine hK.out _ _ (HQR.o _ yig) (fun _=>yig) ?_;clear hK K;have hSe:Kept (fun b=>(Value.slice An2 rn cn2).ownBlock=some b∨(Value.slice Ao2 on co2).ownBlock=some b) wr W2:=yig;have hK1:Kept (fun b=>(Value.slice Ao2 on co2).ownBlock=some b) W1 W2:=yiq;refine za2 (rs:=[15]) yih yii ?_;refine za5 (za3 rfl fun K hK=>?_);have t1:=HC3.o W2 hSe;have t2:=HFZ.o W2 hSe 257;go_simp;have hR16:Kept (fun b=>((Value.slice An2 rn cn2).ownBlock=some b∨(Value.slice Ao2 on co2).ownBlock=some b)∨b=gl) wr (W2.setCell ⟨gl,257,none⟩ (.slice A1 (rn+1) c1')):=(HQR.o _ hSe).setCell (a:=⟨gl,257,none⟩) (.inl (.inr rfl)) _;refine hK.out _ _ hR16 (zai (t:=15) yii yih) ?_;clear hK K;refine anyR_tk (i:=16) (v := .pointer (some ⟨gl,258,none⟩)) rfl (Or.inl ⟨by rfl,fun w' hS=>by go_simp⟩) hR16 (zai (t:=15) yii yih) ?_;refine za2 (rs:=[17]) yih yii ?_;refine za5 (za3 rfl fun K hK=>?_);have t3:=HC4.o W2 hSe;have t4:=HFZ.o W2 hSe 258;go_simp;refine hK.out _ _ (hR16.setCell (a:=⟨gl,258,none⟩) (.inl (.inr rfl)) _) (zai (t:=15) yii yih) ?_;clear hK K;refine zci yih ?_ _;go_wp2;have hr1:=za8 R1.o fun b e hb=>hK1.block b hb (E1.o.1 b e)
      obtain⟨O',hb'⟩:=HLQ.o.push (vs:=vs) (o:=(p,q')) HN1.o HN3.o HN4.o hSe (by rw[HRNN.o];exact hr1) E1.o.2 (by rw[HONN.o];exact R2.o) E2.o.2;have HB':=Zh hb';clear hb' hr1;obtain⟨fu',hfu'⟩:∃ fu',fu=fu'+1:=⟨fu-1,by have:=HFU.o;have:=HLL.o;have:=HFEW.o;omega⟩;have HFU':=Zh hfu';clear hfu';go_roundg (N-(k+1))
      case measure=>have:=HMM.o;have:=HFU.o;have:=HFU'.o;omega
      case rel =>
       obtain⟨lx,hlx⟩:=HPRE.o;have hlen:k<fs.length:=(by have:=HLL.o;omega);refine⟨k+1,fu',vf',.slice A1 (rn+1) c1',.slice A2 (on+1) c2',O',num',fs',rs++[(List.range c).map f],by go_num,by rw[hlx,yfd];omega,rfl,by simp[HRL.o],?_,by have:=HFU.o;have:=HFU'.o;omega,?_⟩
       .rw[←HLS.o,HFU'.o];refine (zw2 HSK.o ?_).symm;rw[←HRO.o,ygf];rfl
       .have e:(fs'.take (k+1)).map (fun s=>os.getD s (0,0))=outs++[(p,q')]:=by
         rw[hlx,List.take_append_of_le_length yie,yfg hlen,yfu,HOUTS.o];obtain⟨_,he⟩:=yf4.1 HSK.o;rw[he,ygo,yh0,yf0,HPQ.o];rfl
        rw[e];exact HB'.o
  .have hkl:k=fs.length:=yie;have htg:TGT=(fs,rs):=(by rw[←HLS.o,zw3 (yfj yie)]);have htk:fs.take k=fs:=yg0 yie;obtain⟨AN,nN,cN,eN⟩:∃ A n c,vN = .slice A n c:=⟨_,_,_,HLW.o.nxt.form.choose_spec.choose_spec⟩;obtain⟨AO,nO,cO,eO⟩:∃ A n c,vO = .slice A n c:=⟨_,_,_,HLW.o.ots.form.choose_spec.choose_spec⟩;subst eN eO;have hkL2:¬ (k:Int)<(L:Int):=yie;rw[hL] at m2;have HTGT:=Zh htg;have HTK:=Zh htk;clear htg htk;go_wp2_with (first
    | (refine zcs yik _ yik yik Tryd.underlying38 rfl Tryd.sizeMM HLW.o.box ?_;go_simp)
    | (refine zag yik _ _ yik yik yik Tryd.sizeMM rfl rfl HY.o ?_;intro hbx;have HBZ:=Zh hbx;clear hbx;go_simp)
    | fail)
   have hbl:b0+1<w2.heap.size:=HY2.o.lt;have hb0:=HB0.o;have hk2:Kept (fun b=>b=b0+1) wr (wr.setRow (b0+1) (zaf F (C:Int) (.slice AN nN cN) (.slice AO nO cO))):=zet (Kept.refl (fun b=>b=b0+1) wr) (.inl rfl) _;have hO:∀ b,O1 b->¬ b=b0+1:=fun b h1 h2=>by have:=(HLW.o.olt b h1).1;omega
   have ho:=HLW.o.ots.kept hk2 hO;rw[HTK.o] at ho;refine bodyPost_ret (v := .agg (zaf F (C:Int) (.slice AN nN cN) (.slice AO nO cO))) (zm6 Tryd.results28 rfl Tryd.underlying38 rfl Tryd.sizeMM HBZ.o) rfl ⟨q,_,_,O1,fs,rs,rfl,HA3.o,HTG.o.trans HTGT.o,(HLW.o.nxt.kept hk2 hO).low yie,ho.low yie,below_setRow HB.o yie _⟩
end Go.Proofs.YtipfgpfplakhiaaDoor
