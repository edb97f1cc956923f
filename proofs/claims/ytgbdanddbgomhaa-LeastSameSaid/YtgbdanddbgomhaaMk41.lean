import Derived.Test.YtgbdanddbgomhaaMk33
import Derived.Test.YtgbdanddbgomhaaMk40
set_option linter.unusedVariables false
set_option linter.unusedSimpArgs false
namespace Go.Proofs.Ytgbdanddbgomhaa
open Go Go.RowKit
section
theorem zp7 {w:World} {B C n:Nat} {v:Value} {f:Nat->Nat} (h:NRow w B v n f) (hC:∀ x,v.ownBlock=some x->C<=x):NRow w C v n f:=by
 refine⟨h.1,?_⟩;rcases h.2 with h2|⟨g,cap,cur,rfl,hB,r⟩
 . exact .inl h2
 . exact .inr ⟨g,cap,cur,rfl,hC g rfl,r⟩
structure AL (b0 gw C N:Nat) (w0 w:World) (g:Nat) (a b vg d e m vb vf:Value) (E:List (Nat×Nat)) (fw:Nat->Nat) (p:PT):Prop where
 pm:PM w 0 g a b vg d e m p
 wm:WM w 0 vb vf E (N*C) fw
 box:w.heap[gw]?=some (.cells #[.int .i64 (C:Int),vb,vf] 134 (0,0))
 far:∀ u∈[vb,vf],∀ x,u.ownBlock=some x->x≠g∧∀ v∈[a,b,vg,d,e,m],v.ownBlock≠some x
 own:b0<=g∧∀ v∈[a,b,vg,d,e,m],∀ x,v.ownBlock=some x->b0<=x
 below:Below b0 w0 w
section
variable {b0 gw C N g:Nat} {w0 w w':World} {a b vg d e m vb vf:Value} {E:List (Nat×Nat)} {fw:Nat->Nat} {p q:PT}
theorem AL.step (h:AL b0 gw C N w0 w g a b vg d e m vb vf E fw p) {en:Ending} (hr:RetBy w 0 g a b vg d e m p q en w'):∃ d' e' m',AL b0 gw C N w0 w' g a b vg d' e' m' vb vf E fw q:=by
 obtain⟨_,d',e',m',h1,hk,hn⟩:=hr;have hlt:b0<=w.heap.size:=(by have:=za4 h.pm.box;have:=h.own.1;omega);have hint:∀ {u:Value} {n:Nat} {f:Nat->Nat},NRow w 0 u n f->∀ x,u.ownBlock=some x->x<w.heap.size:=fun hu x ex=>(World.ownsRow.lt hu x ex).2
 have hvlt:∀ u∈[vb,vf],∀ x,u.ownBlock=some x->x<w.heap.size:=fun u hu x ex=>by
   simp only[List.mem_cons,List.not_mem_nil,or_false] at hu;rcases hu with rfl|rfl
   . exact hint h.wm.rb x ex
   . exact hint h.wm.rf x ex
 have hnw:∀ u∈[vb,vf],∀ x,u.ownBlock=some x->¬ (x=g∨∃ v∈[a,b,vg,d,e,m],v.ownBlock=some x):=fun u hu x ex q=>by
   rcases q with q|⟨v,hv,q⟩
   . exact (h.far u hu x ex).1 q
   . exact (h.far u hu x ex).2 v hv q
 have hgw:¬ (gw=g∨∃ v∈[a,b,vg,d,e,m],v.ownBlock=some gw):=fun q=>by
   rcases q with q|⟨v,hv,q⟩
   . subst q;exact za6 h.box h.pm.box (by decide) rfl
   . have hi:∃ cur,w.heap[gw]?=some (.cells cur 3 (0,0)):=by
       simp only[List.mem_cons,List.not_mem_nil,or_false] at hv;rcases hv with rfl|rfl|rfl|rfl|rfl|rfl
       . exact zac h.pm.ra q
       . exact zac h.pm.rb q
       . exact zac h.pm.rc q
       . exact zac h.pm.rd q
       . exact zac h.pm.re q
       . exact zac h.pm.rm q
     obtain⟨cur,hc⟩:=hi;exact za6 hc h.box (by decide) rfl
 have hnew:∀ v∈[a,b,vg,d',e',m'],∀ x,v.ownBlock=some x->w.heap.size<=x∨∃ v∈[a,b,vg,d,e,m],v.ownBlock=some x:=fun v hv x ex=>by
   simp only[List.mem_cons,List.not_mem_nil,or_false] at hv;rcases hv with rfl|rfl|rfl|rfl|rfl|rfl
   . exact .inr ⟨v,by simp,ex⟩
   . exact .inr ⟨v,by simp,ex⟩
   . exact .inr ⟨v,by simp,ex⟩
   all_goals
     rcases hn v (by simp) x ex with q|⟨u,hu,q⟩
     . exact .inl q
     . simp only[List.mem_cons,List.not_mem_nil,or_false] at hu;exact .inr ⟨u,by rcases hu with rfl|rfl|rfl <;> simp,q⟩
 refine⟨d',e',m',h1,h.wm.kept hk (hnw vb (by simp)) (hnw vf (by simp)),(hk.block gw (za4 h.box) hgw).trans h.box,fun u hu x ex=>⟨(h.far u hu x ex).1,fun v hv q=>?_⟩,⟨h.own.1,fun v hv x ex=>?_⟩,h.below.trans (hk.below hlt fun x q=>?_)⟩
 . rcases hnew v hv x q with z|⟨u',hu',z⟩
   . have:=hvlt u hu x ex;omega
   . exact (h.far u hu x ex).2 u' hu' z
 . rcases hnew v hv x ex with z|⟨u',hu',z⟩
   . omega
   . exact h.own.2 u' hu' x z
 . rcases q with q|⟨v,hv,q⟩
   . rw[q];exact h.own.1
   . exact h.own.2 v hv x q
end
def RetAlk (w:World) (N C:Nat) (rows:List (List Nat)) (os:List (Nat×Nat)) (e:Ending) (w':World):Prop:=
 ∃ v q,e = .returned v∧NRow w' w.heap.size v N q.grp∧PInv q∧q.N=N∧(∀ s t,s<N->t<N->(q.grp s=q.grp t↔Alk (dl rows) (fun s=>os[s]?) N C s t))∧Below w.heap.size w w'
set_option maxRecDepth 20000 in
set_option maxHeartbeats 4000000 in
theorem zyg {w:World} {B B' N C:Nat} {F:Nat->Nat} {vN vO:Value} {O O':Nat->Prop} {rows:List (List Nat)} {os:List (Nat×Nat)} (hn:Nxt w B O vN rows) (ho:Ots w B' O' vO os) (hl:rows.length=N) (hol:os.length=N) (hok:∀ o∈os,okO o) (hr:∀ (i:Nat) r,rows[i]?=some r->r.length=C∧∀ x∈r,x<N) (hNC:N*C<=1000000) (hN9:N<=90000) (hC9:C<=90000):
   Calls Try.prog 34 #[.agg (machC F (C:Int) vN vO)] w (RetAlk w N C rows os):=by
 obtain⟨An,cn,hv⟩:=hn.form;rw[hl] at hv;subst hv;obtain⟨Ao,co,hvo⟩:=ho.form;rw[hol] at hvo;subst hvo;have hδ:∀ s c,s<N->c<C->dl rows s c<N:=fun s c hs hc=>by
   obtain⟨r,hrr⟩:∃ r,rows[s]?=some r:=⟨_,List.getElem?_eq_getElem (by omega)⟩;obtain⟨h1,h2⟩:=hr s r hrr;have e1:rows.getD s []=r:=(by rw[List.getD_eq_getElem?_getD,hrr];rfl);have hc':r[c]?=some r[c]:=List.getElem?_eq_getElem (by omega);have e2:dl rows s c=r[c]:=(by unfold dl;rw[e1,List.getD_eq_getElem?_getD,hc'];rfl);rw[e2];exact h2 _ (List.getElem_mem _)
 obtain⟨b0,hb0⟩:∃ b0,w.heap.size=b0:=⟨_,rfl⟩;have hbx:=BoxM.new w 41 F (C:Int) (.slice An N cn) (.slice Ao N co);have hb1:Below w.heap.size w (w.alloc (.cells (machC F (C:Int) (.slice An N cn) (.slice Ao N co)) 41)):=(Below.refl _ _).alloc (Nat.le_refl _) _;obtain⟨w1,hw1⟩:∃ w1,w.alloc (.cells (machC F (C:Int) (.slice An N cn) (.slice Ao N co)) 41)=w1:=⟨_,rfl⟩;rw[hw1] at hbx hb1;rw[hb0] at hbx hb1;have hor:=za7 ho.row (show Below w.heap.size w w1 by rw[hb0];exact hb1);rw[hol] at hor;have hn1:=hn.kept (Kept.of_below (fun _=>False) (show Below w.heap.size w w1 by rw[hb0];exact hb1)) (fun _ _ q=>q);have hgr:=zpi hor hol hok hN9;have HGR:=Zh hgr;have HN1:=Zh hn1;have HW1:=Zh hw1;have HBX:=Zh hbx;have HB1:=Zh hb1;have HB0:=Zh hb0;have HL:=Zh hl;have HOL:=Zh hol;have HR:=Zh hr;have HNC:=Zh hNC;have HN9:=Zh hN9;have HC9:=Zh hC9;have HD:=Zh hδ;have c4:=hbx.out;clear hn ho hl hol hok hr hNC hN9 hC9 hδ hbx hb1 hor hn1 hgr hw1;go_enter Try.func34,Try.ntmps34;go_upto_region 1 with fail
 rw[HW1.out];go_upto_region 2 with (first
   | (go_at_call 59;(with_reducible refine HGR.out.mono ?_);rintro e w2 ⟨vg,gs,f,rfl,r2,gi2,le2,b2⟩;obtain⟨Ag,cg,rfl⟩:=za9 r2;have HR2:=Zh r2;have HGI:=Zh gi2;have HLE:=Zh le2;have HB2:=Zh b2;have HNP:=Zh (zp9 (zax r2 (Nat.zero_le _)) (Nat.zero_le _) (gi2.end HOL.out).1 HN9.out (Nat.le_trans le2 HN9.out));clear r2 gi2 le2 b2)
   | (go_at_call 58;(with_reducible refine HNP.out.mono ?_);rintro e w3 ⟨g,a,b,d,e2,m,rfl,pm3,b3,g3,own3⟩;have HPM3:=Zh pm3;have HB3:=Zh b3;have HG3:=Zh g3;have HOWN3:=Zh own3;clear pm3 b3 g3 own3)
   | fail)
 have hb3:Below w1.heap.size w1 w3:=HB2.out.trans (HB3.out.mono HB2.out.size);have hnw:=zrn (F:=F) (vO := .slice Ao N co) ((HN1.out.kept (Kept.of_below (fun _=>False) hb3) (fun _ _ q=>q)).low (Nat.zero_le _)) HL.out HR.out (Nat.zero_le _) HNC.out HN9.out HC9.out ⟨_,_,_,rfl⟩;have HNW:=Zh hnw;have HBX3:=Zh (HBX.out.stays hb3);have HB13:=Zh hb3;clear hb3 hnw c4;go_upto_region 3 with (first
   | (refine zbe (by rfl) _ (by rfl) (by rfl) Try.underlying41 rfl Try.sizeMM HBX3.out ?_;go_simp)
   | (go_at_call 60;(with_reducible refine HNW.out.mono ?_);rintro e w4 ⟨vb,vf,fw,rfl,wm4,b4,far4⟩;obtain⟨Ab,cb,rfl⟩:=za9 wm4.rb;obtain⟨Af,cf,rfl⟩:=za9 wm4.rf;have HWM4:=Zh wm4;have HB4:=Zh b4;have HFAR4:=Zh far4;clear wm4 b4 far4;simp only[waysV])
   | fail)
 have hal:AL b0 w4.heap.size C N w (w4.alloc (.cells #[.int .i64 (C:Int),.slice Ab (N*C+1) cb,.slice Af (N*C) cf] 134)) g a b (.slice Ag N cg) d e2 m (.slice Ab (N*C+1) cb) (.slice Af (N*C) cf) (edges (dl rows) C N) fw (newF f N gs.length):=by
   have hx:=heap_alloc_new w4 (.cells #[.int .i64 (C:Int),.slice Ab (N*C+1) cb,.slice Af (N*C) cf] 134);have hb4:=HB4.out;have h45:Below w4.heap.size w4 (w4.alloc (.cells #[.int .i64 (C:Int),.slice Ab (N*C+1) cb,.slice Af (N*C) cf] 134)):=(Below.refl _ _).alloc (Nat.le_refl _) _;have h35:=hb4.trans (h45.mono hb4.size);have s1:=HB1.out.size;have s2:=HB2.out.size;have s3:=HB3.out.size;have l3:∀ v∈[a,b,(.slice Ag N cg:Value),d,e2,m],∀ x,v.ownBlock=some x->x<w3.heap.size:=fun v hv x ex=>by
     simp only[List.mem_cons,List.not_mem_nil,or_false] at hv;rcases hv with rfl|rfl|rfl|rfl|rfl|rfl
     . exact (World.ownsRow.lt HPM3.out.ra x ex).2
     . exact (World.ownsRow.lt HPM3.out.rb x ex).2
     . exact (World.ownsRow.lt HPM3.out.rc x ex).2
     . exact (World.ownsRow.lt HPM3.out.rd x ex).2
     . exact (World.ownsRow.lt HPM3.out.re x ex).2
     . exact (World.ownsRow.lt HPM3.out.rm x ex).2
   have lg:=za4 HPM3.out.box;have hw1s:b0<=w1.heap.size:=(by have:=HB0.out;omega);refine⟨HPM3.out.kept (Kept.of_below (fun _=>False) h35) (fun q=>q) (fun _ _ _ _ q=>q),HWM4.out.kept (Kept.of_below (fun _=>False) h45) (fun _ _ q=>q) (fun _ _ q=>q),hx,fun u hu x ex=>?_,⟨by have:=HG3.out;omega,fun v hv x ex=>?_⟩,HB1.out.trans ((HB13.out.trans (h35.mono HB13.out.size)).mono hw1s)⟩
   . have h1:=HFAR4.out u hu x ex;exact⟨by omega,fun v hv q=>by have:=l3 v hv x q;omega⟩
   . simp only[List.mem_cons,List.not_mem_nil,or_false] at hv;rcases hv with rfl|rfl|rfl|rfl|rfl|rfl
     . have:=HOWN3.out _ (by simp) x ex;omega
     . have:=HOWN3.out _ (by simp) x ex;omega
     . have:=(World.ownsRow.lt HR2.out x ex).1;omega
     . have:=HOWN3.out v (by simp) x ex;omega
     . have:=HOWN3.out v (by simp) x ex;omega
     . have:=HOWN3.out v (by simp) x ex;omega
 have HAL:=Zh hal;have HAI:=Zh (AI.begin (δ:=dl rows) (C:=C) HGI.out HOL.out);clear hal;obtain⟨gw,hgw⟩:∃ gw,w4.heap.size=gw:=⟨_,rfl⟩;rw[hgw] at HAL ⊢;generalize (w4.alloc (.cells #[.int .i64 (C:Int),.slice Ab (N*C+1) cb,.slice Af (N*C) cf] 134))=w5 at *;clear HPM3 HB3 HG3 HOWN3 HNP HR2 HWM4 HB4 HFAR4 HNW HBX3 HB13 HBX HGR HN1 HW1 HB2;go_upto_region 4 with fail
 go_loopg [5] N (fun mm s wr=>∃ (G:Nat) (d e m:Value) (p:PT),s = .int .i64 (G:Int)∧G<=N∧mm=N-G∧AL b0 gw C N w wr g a b (.slice Ag N cg) d e m (.slice Ab (N*C+1) cb) (.slice Af (N*C) cf) (edges (dl rows) C N) fw p∧AI (dl rows) os N C G p)
 case atStart=>exact⟨0,_,_,_,_,by first | rfl | trivial,Nat.zero_le _,by first | rfl | trivial,HAL.out,HAI.out⟩
 case round =>
   obtain⟨G,d,e,m,p,rfl,hG,hmm,hal,hai⟩:=hrel;have HMM:=Zh hmm;have HA:=Zh hal;have HI:=Zh hai;clear hmm;have hgp:=zns hal.pm;have HGP:=Zh hgp;have hpN:p.n<=N:=(by have:=zcs hai.inv;have:=hai.eN;omega);obtain⟨S,hS⟩:∃ S,p.n=S:=⟨_,rfl⟩;rw[hS] at HGP;have hS9:(S:Int)<=90000:=(by have:=HN9.out;omega);have HSS:=Zh hS;have HPN:=Zh hpN;clear hgp hpN hS
   by_cases hGn:G<S
   . have hpb:=zuv hal.pm hai.inv hai.clr (show G<p.n by rw[HSS.out];exact hGn) hai.eN HN9.out hal.wm (by have:=HNC.out;omega) (by have:=HC9.out;omega) hal.far;simp only[waysV] at hpb;have HPB:=Zh hpb;have q0:=cell_of_row wr gw 0 _ _ (0,0) hal.box;have q1:=cell_of_row wr gw 1 _ _ (0,0) hal.box;have q2:=cell_of_row wr gw 2 _ _ (0,0) hal.box;have i0:(G:Int)<(S:Int):=(by omega);clear hpb hal hai;go_wp2_with (first
       | (go_at_call 61;(with_reducible refine HGP.out.mono ?_);rintro e' w6 ⟨rfl,rfl⟩)
       | (go_at_call 62;(with_reducible refine HPB.out.mono ?_);rintro e' w6 h6;obtain⟨d',e',m',hst⟩:=HA.out.step h6;obtain⟨rfl,h6⟩:=h6;have HST:=Zh hst;clear hst h6)
       | fail)
     go_roundg (N-(G+1))
     case measure=>have:=HMM.out;have:=HPN.out;have:=HSS.out;omega
     case rel=>exact⟨G+1,_,_,_,_,by go_num,by have:=HPN.out;have:=HSS.out;omega,rfl,HST.out,HI.out.step HD.out (by rw[HSS.out];exact hGn)⟩
   . have c2:=cell_of_row wr g 2 _ _ (0,0) hal.pm.box;have i0:¬ (G:Int)<(S:Int):=(by omega);clear hal hai;go_wp2_with (first
       | (go_at_call 61;(with_reducible refine HGP.out.mono ?_);rintro e' w6 ⟨rfl,rfl⟩)
       | fail)
     go_ret;have hnr:=HA.out.pm.rc;rw[HI.out.eN] at hnr;exact⟨_,p,rfl,zp7 hnr (by rw[HB0.out];exact HA.out.own.2 _ (by simp)),HI.out.inv,HI.out.eN,fun s t hs ht=>HI.out.end HD.out (by have:=HSS.out;omega) hs ht,by rw[HB0.out];exact HA.out.below⟩
end
end Go.Proofs.Ytgbdanddbgomhaa
