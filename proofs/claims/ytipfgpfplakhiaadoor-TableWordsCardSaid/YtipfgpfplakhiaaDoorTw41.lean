import Derived.Test.YtipfgpfplakhiaaDoorTw30
import Derived.Test.YtipfgpfplakhiaaDoorTw40
set_option linter.unusedVariables false
set_option linter.unusedSimpArgs false
set_option maxRecDepth 20000
set_option maxHeartbeats 4000000
namespace Go.Proofs.YtipfgpfplakhiaaDoor
open Go Go.RowKit
section
theorem ztd {w:World} {B C n:Nat} {v:Value} {f:Nat->Nat} (h:NRow w B v n f) (hC:∀ x,v.ownBlock=some x->C<=x):NRow w C v n f:=by
 refine⟨h.1,?_⟩;rcases h.2 with h2|⟨g,cap,cur,rfl,hB,r⟩
 .exact .inl h2
 .exact .inr ⟨g,cap,cur,rfl,hC g rfl,r⟩
structure AL (b0 gw C N:Nat) (w0 w:World) (g:Nat) (a b vg d e m vb vf:Value) (E:List (Nat×Nat)) (fw:Nat->Nat) (p:PT):Prop where
 pm:PM w 0 g a b vg d e m p
 wm:WM w 0 vb vf E (N*C) fw
 box:w.heap[gw]?=some (.cells #[.int .i64 (C:Int),vb,vf] 160 (0,0))
 far:∀ u∈[vb,vf],∀ x,u.ownBlock=some x->x≠g∧∀ v∈[a,b,vg,d,e,m],v.ownBlock≠some x
 own:b0<=g∧∀ v∈[a,b,vg,d,e,m],∀ x,v.ownBlock=some x->b0<=x
 below:Below b0 w0 w
section
variable {b0 gw C N g:Nat} {w0 w w':World} {a b vg d e m vb vf:Value} {E:List (Nat×Nat)} {fw:Nat->Nat} {p q:PT}
theorem AL.step (h:AL b0 gw C N w0 w g a b vg d e m vb vf E fw p) {en:Ending} (hr:yeg w 0 g a b vg d e m p q en w'):∃ d' e' m',AL b0 gw C N w0 w' g a b vg d' e' m' vb vf E fw q:=by
 obtain⟨_,d',e',m',h1,hk,hn⟩:=hr;have hlt:b0<=w.heap.size:=(by have:=za0 h.pm.box;have:=h.own.1;omega);have hint:∀ {u:Value} {n:Nat} {f:Nat->Nat},NRow w 0 u n f->∀ x,u.ownBlock=some x->x<w.heap.size:=fun hu x ex=>(yf5 hu x ex).2
 have hvlt:∀ u∈[vb,vf],∀ x,u.ownBlock=some x->x<w.heap.size:=fun u hu x ex=>by
  simp only[yfi,yfk,or_false] at hu;rcases hu with rfl|rfl
  .exact hint h.wm.rb x ex
  .exact hint h.wm.rf x ex
 have hnw:∀ u∈[vb,vf],∀ x,u.ownBlock=some x->¬ (x=g∨∃ v∈[a,b,vg,d,e,m],v.ownBlock=some x):=fun u hu x ex q=>by
  rcases q with q|⟨v,hv,q⟩
  .exact (h.far u hu x ex).1 q
  .exact (h.far u hu x ex).2 v hv q
 have hgw:¬ (gw=g∨∃ v∈[a,b,vg,d,e,m],v.ownBlock=some gw):=fun q=>by
  rcases q with q|⟨v,hv,q⟩
  .subst q;exact za1 h.box h.pm.box yij rfl
  .have hi:∃ cur,w.heap[gw]?=some (.cells cur 3 (0,0)):=by
    simp only[yfi,yfk,or_false] at hv;rcases hv with rfl|rfl|rfl|rfl|rfl|rfl
    .exact za7 h.pm.ra q
    .exact za7 h.pm.rb q
    .exact za7 h.pm.rc q
    .exact za7 h.pm.rd q
    .exact za7 h.pm.re q
    .exact za7 h.pm.rm q
   obtain⟨cur,hc⟩:=hi;exact za1 hc h.box yij rfl
 have hnew:∀ v∈[a,b,vg,d',e',m'],∀ x,v.ownBlock=some x->w.heap.size<=x∨∃ v∈[a,b,vg,d,e,m],v.ownBlock=some x:=fun v hv x ex=>by
  simp only[yfi,yfk,or_false] at hv;rcases hv with rfl|rfl|rfl|rfl|rfl|rfl
  .exact .inr ⟨v,by simp,ex⟩
  .exact .inr ⟨v,by simp,ex⟩
  .exact .inr ⟨v,by simp,ex⟩
  all_goals
   rcases hn v yii x ex with q|⟨u,hu,q⟩
   .exact .inl q
   .simp only[yfi,yfk,or_false] at hu;exact .inr ⟨u,by rcases hu with rfl|rfl|rfl <;> simp,q⟩
 refine⟨d',e',m',h1,h.wm.kept hk (hnw vb yii) (hnw vf yii),(hk.block gw (za0 h.box) hgw).trans h.box,fun u hu x ex=>⟨(h.far u hu x ex).1,fun v hv q=>?_⟩,⟨h.own.1,fun v hv x ex=>?_⟩,h.below.trans (hk.below hlt fun x q=>?_)⟩
 .rcases hnew v hv x q with z|⟨u',hu',z⟩
  .have:=hvlt u hu x ex;omega
  .exact (h.far u hu x ex).2 u' hu' z
 .rcases hnew v hv x ex with z|⟨u',hu',z⟩
  .omega
  .exact h.own.2 u' hu' x z
 .rcases q with q|⟨v,hv,q⟩
  .rw[q];exact h.own.1
  .exact h.own.2 v hv x q
end
def yei (w:World) (N C:Nat) (rows:List (List Nat)) (os:List (Nat×Nat)) (e:Ending) (w':World):Prop:=
 ∃ v q,e = .returned v∧NRow w' w.heap.size v N q.grp∧PInv q∧q.N=N∧(∀ s t,s<N->t<N->(q.grp s=q.grp t↔Alk (dl rows) (fun s=>os[s]?) N C s t))∧Below w.heap.size w w'
theorem ycw {w:World} {B B' N C:Nat} {F:Nat->Nat} {vN vO:Value} {O O':Nat->Prop} {rows:List (List Nat)} {os:List (Nat×Nat)} (hn:Nxt w B O vN rows) (ho:Ots w B' O' vO os) (hl:rows.length=N) (hol:os.length=N) (hok:∀ o∈os,okO o) (hr:∀ (i:Nat) r,rows[i]?=some r->r.length=C∧∀ x∈r,x<N) (hNC:N*C<=1000000) (hN9:N<=90000) (hC9:C<=90000):
 Calls Tryd.prog 47 #[.agg (zaf F (C:Int) vN vO)] w (yei w N C rows os):=by
 obtain⟨An,cn,hv⟩:=hn.form;rw[hl] at hv;subst hv;obtain⟨Ao,co,hvo⟩:=ho.form;rw[hol] at hvo;subst hvo;have hδ:∀ s c,s<N->c<C->dl rows s c<N:=fun s c hs hc=>by
  obtain⟨r,hrr⟩:∃ r,rows[s]?=some r:=⟨_,yey yie⟩;obtain⟨h1,h2⟩:=hr s r hrr;have e1:rows.getD s []=r:=(by rw[yf0,hrr];rfl);have hc':r[c]?=some r[c]:=yey yie;have e2:dl rows s c=r[c]:=(by unfold dl;rw[e1,yf0,hc'];rfl);rw[e2];exact h2 _ (yfq _)
 obtain⟨b0,hb0⟩:∃ b0,w.heap.size=b0:=⟨_,rfl⟩;have hbx:=BoxM.new w 38 F (C:Int) (.slice An N cn) (.slice Ao N co);have hb1:Below w.heap.size w (w.alloc (.cells (zaf F (C:Int) (.slice An N cn) (.slice Ao N co)) 38)):=(yf6 _ _).alloc (yez _) _;obtain⟨w1,hw1⟩:∃ w1,w.alloc (.cells (zaf F (C:Int) (.slice An N cn) (.slice Ao N co)) 38)=w1:=⟨_,rfl⟩;rw[hw1] at hbx hb1;rw[hb0] at hbx hb1;have hor:=za6 ho.row (show Below w.heap.size w w1 by rw[hb0];exact hb1);rw[hol] at hor;have hn1:=hn.kept (Kept.of_below (fun _=>False) (show Below w.heap.size w w1 by rw[hb0];exact hb1)) (fun _ _ q=>q);have hgr:=zto hor hol hok hN9;have HGR:=Zh hgr;have HN1:=Zh hn1;have HW1:=Zh hw1;have HBX:=Zh hbx;have HB1:=Zh hb1;have HB0:=Zh hb0;have HL:=Zh hl;have HOL:=Zh hol;have HR:=Zh hr;have HNC:=Zh hNC;have HN9:=Zh hN9;have HC9:=Zh hC9;have HD:=Zh hδ;have c4:=hbx.out;clear hn ho hl hol hok hr hNC hN9 hC9 hδ hbx hb1 hor hn1 hgr hw1;go_enter Tryd.func47,Tryd.ntmps47;go_upto_region 1 with fail
 rw[HW1.o];go_upto_region 2 with (first
  | (go_at_call 65;(with_reducible refine HGR.o.mono ?_);rintro e w2 ⟨vg,gs,f,rfl,r2,gi2,le2,b2⟩;obtain⟨Ag,cg,rfl⟩:=zaa r2;have HR2:=Zh r2;have HGI:=Zh gi2;have HLE:=Zh le2;have HB2:=Zh b2;have HNP:=Zh (ztg (zbh r2 (yf8 _)) (yf8 _) (gi2.end HOL.o).1 HN9.o (yfa le2 HN9.o));clear r2 gi2 le2 b2)
  | (go_at_call 64;(with_reducible refine HNP.o.mono ?_);rintro e w3 ⟨g,a,b,d,e2,m,rfl,pm3,b3,g3,own3⟩;have HPM3:=Zh pm3;have HB3:=Zh b3;have HG3:=Zh g3;have HOWN3:=Zh own3;clear pm3 b3 g3 own3)
  | fail)
 have hb3:Below w1.heap.size w1 w3:=HB2.o.trans (HB3.o.mono HB2.o.size);have hnw:=zvm (F:=F) (vO := .slice Ao N co) ((HN1.o.kept (Kept.of_below (fun _=>False) hb3) (fun _ _ q=>q)).low (yf8 _)) HL.o HR.o (yf8 _) HNC.o HN9.o HC9.o ⟨_,_,_,rfl⟩;have HNW:=Zh hnw;have HBX3:=Zh (HBX.o.stays hb3);have HB13:=Zh hb3;clear hb3 hnw c4;go_upto_region 3 with (first
  | (refine zcs yik _ yik yik Tryd.underlying38 rfl Tryd.sizeMM HBX3.o ?_;go_simp)
  | (go_at_call 66;(with_reducible refine HNW.o.mono ?_);rintro e w4 ⟨vb,vf,fw,rfl,wm4,b4,far4⟩;obtain⟨Ab,cb,rfl⟩:=zaa wm4.rb;obtain⟨Af,cf,rfl⟩:=zaa wm4.rf;have HWM4:=Zh wm4;have HB4:=Zh b4;have HFAR4:=Zh far4;clear wm4 b4 far4;simp only[zif])
  | fail)
 have hal:AL b0 w4.heap.size C N w (w4.alloc (.cells #[.int .i64 (C:Int),.slice Ab (N*C+1) cb,.slice Af (N*C) cf] 160)) g a b (.slice Ag N cg) d e2 m (.slice Ab (N*C+1) cb) (.slice Af (N*C) cf) (zdu (dl rows) C N) fw (newF f N gs.length):=by
  have hx:=heap_alloc_new w4 (.cells #[.int .i64 (C:Int),.slice Ab (N*C+1) cb,.slice Af (N*C) cf] 160);have hb4:=HB4.o;have h45:Below w4.heap.size w4 (w4.alloc (.cells #[.int .i64 (C:Int),.slice Ab (N*C+1) cb,.slice Af (N*C) cf] 160)):=(yf6 _ _).alloc (yez _) _;have h35:=hb4.trans (h45.mono hb4.size);have s1:=HB1.o.size;have s2:=HB2.o.size;have s3:=HB3.o.size;have l3:∀ v∈[a,b,(.slice Ag N cg:Value),d,e2,m],∀ x,v.ownBlock=some x->x<w3.heap.size:=fun v hv x ex=>by
   simp only[yfi,yfk,or_false] at hv;rcases hv with rfl|rfl|rfl|rfl|rfl|rfl
   .exact (yf5 HPM3.o.ra x ex).2
   .exact (yf5 HPM3.o.rb x ex).2
   .exact (yf5 HPM3.o.rc x ex).2
   .exact (yf5 HPM3.o.rd x ex).2
   .exact (yf5 HPM3.o.re x ex).2
   .exact (yf5 HPM3.o.rm x ex).2
  have lg:=za0 HPM3.o.box;have hw1s:b0<=w1.heap.size:=(by have:=HB0.o;omega);refine⟨HPM3.o.kept (Kept.of_below (fun _=>False) h35) (fun q=>q) (fun _ _ _ _ q=>q),HWM4.o.kept (Kept.of_below (fun _=>False) h45) (fun _ _ q=>q) (fun _ _ q=>q),hx,fun u hu x ex=>?_,⟨by have:=HG3.o;omega,fun v hv x ex=>?_⟩,HB1.o.trans ((HB13.o.trans (h35.mono HB13.o.size)).mono hw1s)⟩
  .have h1:=HFAR4.o u hu x ex;exact⟨by omega,fun v hv q=>by have:=l3 v hv x q;omega⟩
  .simp only[yfi,yfk,or_false] at hv;rcases hv with rfl|rfl|rfl|rfl|rfl|rfl
   .have:=HOWN3.o _ yii x ex;omega
   .have:=HOWN3.o _ yii x ex;omega
   .have:=(yf5 HR2.o x ex).1;omega
   .have:=HOWN3.o v yii x ex;omega
   .have:=HOWN3.o v yii x ex;omega
   .have:=HOWN3.o v yii x ex;omega
 have HAL:=Zh hal;have HAI:=Zh (AI.begin (δ:=dl rows) (C:=C) HGI.o HOL.o);clear hal;obtain⟨gw,hgw⟩:∃ gw,w4.heap.size=gw:=⟨_,rfl⟩;rw[hgw] at HAL ⊢;generalize (w4.alloc (.cells #[.int .i64 (C:Int),.slice Ab (N*C+1) cb,.slice Af (N*C) cf] 160))=w5 at *;clear HPM3 HB3 HG3 HOWN3 HNP HR2 HWM4 HB4 HFAR4 HNW HBX3 HB13 HBX HGR HN1 HW1 HB2;go_upto_region 4 with fail
 go_loopg [5] N (fun mm s wr=>∃ (G:Nat) (d e m:Value) (p:PT),s = .int .i64 (G:Int)∧G<=N∧mm=N-G∧AL b0 gw C N w wr g a b (.slice Ag N cg) d e m (.slice Ab (N*C+1) cb) (.slice Af (N*C) cf) (zdu (dl rows) C N) fw p∧AI (dl rows) os N C G p)
 case atStart=>exact⟨0,_,_,_,_,by first | rfl | trivial,yf8 _,by first | rfl | trivial,HAL.o,HAI.o⟩
 case round =>
  obtain⟨G,d,e,m,p,rfl,hG,hmm,hal,hai⟩:=hrel;have HMM:=Zh hmm;have HA:=Zh hal;have HI:=Zh hai;clear hmm;have hgp:=zrv hal.pm;have HGP:=Zh hgp;have hpN:p.n<=N:=(by have:=zee hai.inv;have:=hai.eN;omega);obtain⟨S,hS⟩:∃ S,p.n=S:=⟨_,rfl⟩;rw[hS] at HGP;have hS9:(S:Int)<=90000:=yja;have HSS:=Zh hS;have HPN:=Zh hpN;clear hgp hpN hS
  by_cases hGn:G<S
  .have hpb:=zyr hal.pm hai.inv hai.clr (show G<p.n by rw[HSS.o];exact hGn) hai.eN HN9.o hal.wm (by have:=HNC.o;omega) yjk hal.far;simp only[zif] at hpb;have HPB:=Zh hpb;have q0:=cell_of_row wr gw 0 _ _ (0,0) hal.box;have q1:=cell_of_row wr gw 1 _ _ (0,0) hal.box;have q2:=cell_of_row wr gw 2 _ _ (0,0) hal.box;have i0:(G:Int)<(S:Int):=yie;clear hpb hal hai;go_wp2_with (first
    | (go_at_call 67;(with_reducible refine HGP.o.mono ?_);rintro e' w6 ⟨rfl,rfl⟩)
    | (go_at_call 68;(with_reducible refine HPB.o.mono ?_);rintro e' w6 h6;obtain⟨d',e',m',hst⟩:=HA.o.step h6;obtain⟨rfl,h6⟩:=h6;have HST:=Zh hst;clear hst h6)
    | fail)
   go_roundg (N-(G+1))
   case measure=>have:=HMM.o;have:=HPN.o;have:=HSS.o;omega
   case rel=>exact⟨G+1,_,_,_,_,by go_num,by have:=HPN.o;have:=HSS.o;omega,rfl,HST.o,HI.o.step HD.o (by rw[HSS.o];exact hGn)⟩
  .have c2:=cell_of_row wr g 2 _ _ (0,0) hal.pm.box;have i0:¬ (G:Int)<(S:Int):=yie;clear hal hai;go_wp2_with (first
    | (go_at_call 67;(with_reducible refine HGP.o.mono ?_);rintro e' w6 ⟨rfl,rfl⟩)
    | fail)
   go_ret;have hnr:=HA.o.pm.rc;rw[HI.o.eN] at hnr;exact⟨_,p,rfl,ztd hnr (by rw[HB0.o];exact HA.o.own.2 _ yii),HI.o.inv,HI.o.eN,fun s t hs ht=>HI.o.end HD.o (by have:=HSS.o;omega) hs ht,by rw[HB0.o];exact HA.o.below⟩
end
end Go.Proofs.YtipfgpfplakhiaaDoor
