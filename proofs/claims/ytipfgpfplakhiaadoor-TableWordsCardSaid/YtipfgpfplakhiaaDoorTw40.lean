import Derived.Test.YtipfgpfplakhiaaDoorTw21
import Derived.Test.YtipfgpfplakhiaaDoorTw26
set_option linter.unusedVariables false
set_option linter.unusedSimpArgs false
set_option maxRecDepth 20000
set_option maxHeartbeats 4000000
namespace Go.Proofs.YtipfgpfplakhiaaDoor
open Go Go.RowKit
section
theorem zda (w:World) (o:Obj):Below w.heap.size w (w.alloc o):=(yf6 _ _).alloc (yez _) _
structure BI (w0 w:World) (B g:Nat) (a b c d0 e0 m0 d e m vs:Value) (p:PT) (sm:List Nat):Prop where
 ps:PS w B g a b c d e m vs p sm
 kp:Kept (fun x=>x=g∨∃ v∈[a,b,c,d0,e0,m0],v.ownBlock=some x) w0 w
 nd:∀ v∈[d,e,m],∀ x,v.ownBlock=some x->w0.heap.size<=x∨∃ v∈[d0,e0,m0],v.ownBlock=some x
 nv:∀ x,vs.ownBlock=some x->w0.heap.size<=x
section
variable {w0 w w':World} {B g:Nat} {a b c d0 e0 m0 d e m d' e2 m' vs v':Value} {p p':PT} {sm:List Nat} {s G:Nat}
theorem BI.old (h:BI w0 w B g a b c d0 e0 m0 d e m vs p sm) {x:Nat} (hx:∃ v∈[a,b,c,d,e,m],v.ownBlock=some x):(x=g∨∃ v∈[a,b,c,d0,e0,m0],v.ownBlock=some x)∨w0.heap.size<=x:=by
 obtain⟨v,hv,ex⟩:=hx;simp only[yfi,yfk,or_false] at hv;rcases hv with rfl|rfl|rfl|rfl|rfl|rfl
 .exact .inl (.inr ⟨v,by simp,ex⟩)
 .exact .inl (.inr ⟨v,by simp,ex⟩)
 .exact .inl (.inr ⟨v,by simp,ex⟩)
 all_goals
  rcases h.nd v yii x ex with q|⟨u,hu,eu⟩
  .exact .inr q
  .refine .inl (.inr ⟨u,?_,eu⟩);simp only[yfi,yfk,or_false] at hu ⊢;rcases hu with rfl|rfl|rfl <;> simp
theorem BI.mark (h:BI w0 w B g a b c d0 e0 m0 d e m vs p sm) {en:Ending} (hr:znc w B g a b c d e m vs p sm s en w'):∃ v',en = .returned v'∧BI w0 w' B g a b c d0 e0 m0 d e m v' (zck p s) (zg3 (p,sm) s).2:=by
 obtain⟨v',e1,h1,h2,h3⟩:=hr;refine⟨v',e1,h1,h.kp.trans h2 fun x ex=>?_,h.nd,fun x ex=>?_⟩
 .rcases ex with q|q|q
  .exact .inl (.inl q)
  .exact .inr (h.nv x q)
  .exact h.old q
 .rcases h3 x ex with q|q
  .exact h.nv x q
  .exact yfa h.kp.size q
theorem BI.part (h:BI w0 w B g a b c d0 e0 m0 d e m vs p sm) {en:Ending} (hr:znb w B g a b c d e m p G en w'):en = .returned (.tuple #[])∧∃ d' e2 m',BI w0 w' B g a b c d0 e0 m0 d' e2 m' vs (zbt p G) sm:=by
 obtain⟨e1,d',e2,m',h1,h2,h3⟩:=hr;have hgg:¬ vs.ownBlock=some g:=fun ex=>by
  obtain⟨cu,hc⟩:=za7 h.ps.sm ex;exact za1 hc h.ps.pm.box yij rfl
 refine⟨e1,d',e2,m',⟨h1,h.ps.sm.off h2 fun x ex q=>?_,fun v hv x ex ev=>?_⟩,h.kp.trans h2 fun x ex=>?_,fun v hv x ex=>?_,h.nv⟩
 .rcases q with q|⟨v,hv,ev⟩
  .exact hgg (q▸ex)
  .exact h.ps.ap v hv x ex ev
 .have hlt:=(yf5 h.ps.sm x ex).2;simp only[yfi,yfk,or_false] at hv;rcases hv with rfl|rfl|rfl|hv
  .exact h.ps.ap v yii x ex ev
  .exact h.ps.ap v yii x ex ev
  .exact h.ps.ap v yii x ex ev
  .rcases h3 v (by simpa using hv) x ev with q|⟨u,hu,eu⟩
   .omega
   .refine h.ps.ap u ?_ x ex eu;simp only[yfi,yfk,or_false] at hu ⊢;rcases hu with rfl|rfl|rfl <;> simp
 .rcases ex with q|q
  .exact .inl (.inl q)
  .exact h.old q
 .rcases h3 v hv x ex with q|⟨u,hu,eu⟩
  .exact .inl (yfa h.kp.size q)
  .exact h.nd u hu x eu
theorem BI.stays (h:BI w0 w B g a b c d0 e0 m0 d e m vs p sm) (hb:Below w.heap.size w w'):BI w0 w' B g a b c d0 e0 m0 d e m vs p sm:=
 ⟨h.ps.stays hb,h.kp.trans (Kept.of_below (fun _=>False) hb) fun x q=>q.elim,h.nd,h.nv⟩
theorem zzm {n c:Nat} {A:Option Addr} {l:List Int} (h:Ints w B (.slice A n c) l):Ints w B (.slice A 0 c) []:=by
 rcases h.2 with ⟨e,h0⟩|⟨g,cap,cur,e,hB,hg,hnc,hcm,hcs,_⟩
 .injection e with e1 e2 e3
  subst e1 e3;exact Ints.nil _ _
 .injection e with e1 e2 e3
  subst e1 e3;exact⟨rfl,.inr ⟨g,c,cur,rfl,hB,hg,yf8 _,hcm,hcs,by simp⟩⟩
theorem BI.cut {A:Option Addr} {n k:Nat} (h:BI w0 w B g a b c d0 e0 m0 d e m (.slice A n k) p sm):BI w0 w B g a b c d0 e0 m0 d e m (.slice A 0 k) p []:=by
 have ho:∀ x,(Value.slice A 0 k).ownBlock=some x->(Value.slice A n k).ownBlock=some x:=fun x ex=>by
  cases A with
  | none=>cases ex
  | some ad=>exact ex
 exact⟨⟨h.ps.pm,by simpa [ns] using zzm h.ps.sm,fun v hv x ex=>h.ps.ap v hv x (ho x ex)⟩,h.kp,h.nd,fun x ex=>h.nv x (ho x ex)⟩
end
def yeg (w:World) (B g:Nat) (a b c d e m:Value) (p q:PT) (en:Ending) (w':World):Prop:=
 en = .returned (.tuple #[])∧∃ d' e2 m',PM w' B g a b c d' e2 m' q∧Kept (fun x=>x=g∨∃ v∈[a,b,c,d,e,m],v.ownBlock=some x) w w'∧∀ v∈[d',e2,m'],∀ x,v.ownBlock=some x->w.heap.size<=x∨∃ v∈[d,e,m],v.ownBlock=some x
theorem zyr {w:World} {B g C N G:Nat} {a b c d e m vb vf:Value} {p:PT} {δ:Nat->Nat->Nat} {f:Nat->Nat} (h:PM w B g a b c d e m p) (hp:PInv p) (hcl:zi3 p) (hG:G<p.n) (hN:p.N=N) (hN9:N<=90000) (hW:WM w B vb vf (zdu δ C N) (N*C) f) (hCN:N*C<=100000000) (hC:C<=100000)
 (hfar:∀ u∈[vb,vf],∀ x,u.ownBlock=some x->x≠g∧∀ v∈[a,b,c,d,e,m],v.ownBlock≠some x):
 Calls Tryd.prog 68 #[.pointer (some ⟨g,0,none⟩),.int .i64 (G:Int),zif C vb vf] w (yeg w B g a b c d e m p (zdr (fun k=>zcp δ C N k (ze0 p G)) C 0 p)):=by
 have hne:=hp.ne G hG;have hgt:=zwq p G;have hgg:∀ (j x:Nat),(ze0 p G)[j]?=some x->p.st (p.bg G+j)=x:=fun j x hj=>by
  have hj':j<p.en G-p.bg G:=(by rw[←hgt];exact (yf4.1 hj).1);rw[zwr hj'] at hj;injection hj
 have hgn:=zjs hp hG;have hgm:=fun s (hs:s∈ze0 p G)=>((zoq hp hG s).1 hs).1
 obtain⟨gl,hgl⟩:∃ gl,ze0 p G=gl:=⟨_,rfl⟩;rw[hgl] at hgt hgg hgn hgm ⊢;have hmsn:∀ k,k<C->(zcp δ C N k gl).Nodup:=fun k hk=>zg8 hk gl hgn
 have hmss:∀ k,k<C->∀ s∈zcp δ C N k gl,s<N:=fun k hk s hs=>((ziz hk gl s).1 hs).1
 obtain⟨bd,cd,hed,_,hd0⟩:=h.rd.at hG;obtain⟨be,ce,hee,_,he0⟩:=h.re.at hG;obtain⟨ba,ca,hea,_,_⟩:=h.ra.at (show p.bg G<p.N by omega);subst hed hee hea;have hcap:=h.ra.cap;unfold maxLen at hcap;obtain⟨E,hE⟩:∃ E,p.bg G=E:=⟨_,rfl⟩;obtain⟨F,hF⟩:∃ F,p.en G=F:=⟨_,rfl⟩;rw[hE] at hd0;rw[hF] at he0;rw[hE,hF] at hne hgt;rw[hE] at hgg;have hcells:∀ (j x:Nat),gl[j]?=some x->w.cell? ⟨ba,E+j,none⟩=some (.int .i64 (x:Int)):=fun j x hj=>by
  have hj':j<gl.length:=(yf4.1 hj).1;have hlt:E+j<p.N:=yie;have:=(yf7 h.ra (E+j) yie).trans (zat hlt);rw[hgg j x hj] at this;exact this
 have r0:w.cell? ⟨g,0,none⟩=some (.slice (some ⟨ba,0,none⟩) p.N ca):=cell_of_row w g 0 _ _ (0,0) h.box;have r3:w.cell? ⟨g,3,none⟩=some (.slice (some ⟨bd,0,none⟩) p.n cd):=cell_of_row w g 3 _ _ (0,0) h.box;have r4:w.cell? ⟨g,4,none⟩=some (.slice (some ⟨be,0,none⟩) p.n ce):=cell_of_row w g 4 _ _ (0,0) h.box;obtain⟨Ab,nb,cb,hvb⟩:∃ A n c,vb = .slice A n c:=by obtain⟨A,c,e⟩:=zaa hW.rb;exact⟨A,_,c,e⟩
 obtain⟨Af,nf,cf,hvf⟩:∃ A n c,vf = .slice A n c:=by obtain⟨A,c,e⟩:=zaa hW.rf;exact⟨A,_,c,e⟩
 subst hvb hvf;unfold zif;have hbx:=heap_alloc_new w (.cells #[.int .i64 (C:Int),.slice Ab nb cb,.slice Af nf cf] 160);have hbel:Below w.heap.size w (w.alloc (.cells #[.int .i64 (C:Int),.slice Ab nb cb,.slice Af nf cf] 160)):=zda w _;have s0:=za4 r0 (zda w (.cells #[.int .i64 (C:Int),.slice Ab nb cb,.slice Af nf cf] 160));have s3:=za4 r3 (zda w (.cells #[.int .i64 (C:Int),.slice Ab nb cb,.slice Af nf cf] 160));have s4:=za4 r4 (zda w (.cells #[.int .i64 (C:Int),.slice Ab nb cb,.slice Af nf cf] 160));have sd:=za4 hd0 (zda w (.cells #[.int .i64 (C:Int),.slice Ab nb cb,.slice Af nf cf] 160));have se:=za4 he0 (zda w (.cells #[.int .i64 (C:Int),.slice Ab nb cb,.slice Af nf cf] 160));have HCL:=Zh (fun (W:World) (hW:Below w.heap.size w W)=>zzn (w:=W) (b:=ba) (off:=E) (cap:=ca-E) (l:=gl) (fun j x hj=>za4 (hcells j x hj) hW) yie);have HH:=Zh h;have HPI:=Zh hp;have HCR:=Zh hcl;have HWM:=Zh hW;have HFAR:=Zh hfar;have HMSN:=Zh hmsn;have HMSS:=Zh hmss;have HGM:=Zh hgm;have HBX:=Zh hbx;have HBEL:=Zh hbel;have HNN:=Zh hN;have HN9:=Zh hN9;have HCN:=Zh hCN;have HCC:=Zh hC;have hgt':gl.length=F-E:=hgt;obtain⟨K,hK⟩:∃ K,gl.length=K:=⟨_,rfl⟩;have HKK:=Zh hK;have hFE:F-E=K:=yie;rw[hK] at HCL;have HFE:=Zh hFE;have i0:(0:Int)<=(G:Int):=yie;have i1:(G:Int)<(p.n:Int):=yie;have j0:(0:Int)<=(E:Int):=yie;have j1:(E:Int)<=(F:Int):=yie;have j2:(F:Int)<=(ca:Int):=yie;have hcc:¬ ca=E:=yie;have HK9:=Zh (show K<=100000 by omega);obtain⟨BYE,hBYE⟩:∃ BYE,zdr (fun k=>zcp δ C N k gl) C 0 p=BYE:=⟨_,rfl⟩;rw[hBYE];have HBYE:=Zh hBYE;clear hBYE h hp hcl hG hN hN9 hW hCN hC hfar hgt hgt' hgg hgn hgm hmsn hmss hE hF hcells hcap r0 r3 r4 hd0 he0 hbx hbel hK hgl hne;go_enter Tryd.func68,Tryd.ntmps68;go_upto_region 1 with fail
 generalize hw1:w.alloc (.cells #[.int .i64 (C:Int),.slice Ab nb cb,.slice Af nf cf] 160)=w1 at *;go_still_tail 19,yih;change wpList _ _ _ _ _ (World.drew _);have hbw1:=HBEL.o;have hs1:w1.heap.size=w.heap.size+1:=(by rw[←hw1];simp);have HS1:=Zh hs1;clear hw1 hs1;go_upto_region 3 with (first
  | (go_at_call 80;(with_reducible refine (HCL.o _ HBEL.o.drew).mono ?_);rintro e' w2 ⟨v6,rfl,g6,b2⟩;have b2':Below w1.heap.size w1 w2:=⟨b2.os,b2.tape,b2.output,b2.size,b2.block⟩;have G6:=Zh (show Ints w2 w1.heap.size v6 (ns gl) from g6);have B2:=Zh b2';clear g6 b2 b2')
  | fail)
 clear s0 s3 s4 sd se hbw1 hcc hFE j0 j1 j2;have hb2:Below w.heap.size w w2:=HBEL.o.trans (B2.o.mono HBEL.o.size);have hpm2:=HH.o.kept (Kept.of_below (fun _=>False) hb2) (fun q=>q) (fun _ _ _ _ q=>q);have hrow:∀ x,(x=g∨∃ v∈[(.slice (some ⟨ba,0,none⟩) p.N ca),b,c,(.slice (some ⟨bd,0,none⟩) p.n cd),(.slice (some ⟨be,0,none⟩) p.n ce),m],v.ownBlock=some x)->x<w.heap.size:=fun x q=>by
  rcases q with rfl|⟨v,hv,ev⟩
  .exact za0 HH.o.box
  .simp only[yfi,yfk,or_false] at hv;rcases hv with rfl|rfl|rfl|rfl|rfl|rfl
   .exact (yf5 HH.o.ra x ev).2
   .exact (yf5 HH.o.rb x ev).2
   .exact (yf5 HH.o.rc x ev).2
   .exact (yf5 HH.o.rd x ev).2
   .exact (yf5 HH.o.re x ev).2
   .exact (yf5 HH.o.rm x ev).2
 have hbi0:BI w2 w2 B g (.slice (some ⟨ba,0,none⟩) p.N ca) b c (.slice (some ⟨bd,0,none⟩) p.n cd) (.slice (some ⟨be,0,none⟩) p.n ce) m (.slice (some ⟨bd,0,none⟩) p.n cd) (.slice (some ⟨be,0,none⟩) p.n ce) m (.slice none 0 0) p []:=
  ⟨⟨hpm2,Ints.nil _ _,fun v hv x ex=>by cases ex⟩,Kept.refl _ _,fun v hv x ex => .inr ⟨v,hv,ex⟩,fun x ex=>by cases ex⟩
 have hbox2:w2.heap[w.heap.size]?=some (.cells #[.int .i64 (C:Int),.slice Ab nb cb,.slice Af nf cf] 160 (0,0)):=(B2.o.block w.heap.size (by rw[HS1.o];omega)).trans HBX.o;have hwm2:WM w2 B (.slice Ab nb cb) (.slice Af nf cf) (zdu δ C N) (N*C) f:=HWM.o.kept (Kept.of_below (fun _=>False) hb2) (fun _ _ q=>q) (fun _ _ q=>q);have hsz2:w.heap.size<w2.heap.size:=za0 hbox2;have HOB:=Zh (fun (W:World) (kk:Kept (fun x=>x=g∨∃ v∈[(.slice (some ⟨ba,0,none⟩) p.N ca),b,c,(.slice (some ⟨bd,0,none⟩) p.n cd),(.slice (some ⟨be,0,none⟩) p.n ce),m],v.ownBlock=some x) w2 W)=>(kk.block w.heap.size hsz2 (fun q=>by have:=hrow _ q;omega)).trans hbox2);have HOG:=Zh (fun (W:World) (kk:Kept (fun x=>x=g∨∃ v∈[(.slice (some ⟨ba,0,none⟩) p.N ca),b,c,(.slice (some ⟨bd,0,none⟩) p.n cd),(.slice (some ⟨be,0,none⟩) p.n ce),m],v.ownBlock=some x) w2 W)=>G6.o.off kk (fun x ex q=>by have h1:=hrow _ q;have h2:=(G6.o.in ex).1;have h3:=HS1.o;omega));have HOW:=Zh (fun (W:World) (kk:Kept (fun x=>x=g∨∃ v∈[(.slice (some ⟨ba,0,none⟩) p.N ca),b,c,(.slice (some ⟨bd,0,none⟩) p.n cd),(.slice (some ⟨be,0,none⟩) p.n ce),m],v.ownBlock=some x) w2 W)=>hwm2.kept kk (fun x ex q=>by
  obtain⟨f1,f2⟩:=HFAR.o (.slice Ab nb cb) yii x ex;rcases q with q|⟨v,hv,ev⟩
  .exact f1 q
  .exact f2 v hv ev) (fun x ex q=>by
  obtain⟨f1,f2⟩:=HFAR.o (.slice Af nf cf) yii x ex;rcases q with q|⟨v,hv,ev⟩
  .exact f1 q
  .exact f2 v hv ev))
 have HB2:=Zh hb2;have HBI0:=Zh hbi0;obtain⟨A6,c6,hv6⟩:=G6.o.form;rw[zaj,HKK.o] at hv6;subst hv6;have q0:w2.cell? ⟨w.heap.size,0,none⟩=some (.int .i64 (C:Int)):=cell_of_row w2 w.heap.size 0 _ _ (0,0) hbox2;clear hb2 hpm2 hrow hbi0 hbox2 hwm2 hsz2;go_upto_region 4 with fail
 clear q0;go_loopg [7,37] C (fun mm v7 s wr=>∃ (ci:Nat) (d e mm':Value) (p':PT) (sm:List Nat),s = .int .i64 (ci:Int)∧ci<=C∧mm=C-ci∧BI w2 wr B g (.slice (some ⟨ba,0,none⟩) p.N ca) b c (.slice (some ⟨bd,0,none⟩) p.n cd) (.slice (some ⟨be,0,none⟩) p.n ce) m d e mm' v7 p' sm∧PInv p'∧zi3 p'∧p'.N=N∧zdr (fun k=>zcp δ C N k gl) (C-ci) ci p'=BYE)
 case atStart=>exact⟨0,_,_,_,p,[],by first | rfl | trivial,yf8 _,by first | rfl | trivial,HBI0.o,HPI.o,HCR.o,HNN.o,HBYE.o⟩
 case round =>
  obtain⟨ci,d,e,mm',p',sm,rfl,hci,hmm,hbi,hpi,hcr,hpN,hbye⟩:=hrel;have HMM:=Zh hmm;have HBI1:=Zh hbi;have HPI1:=Zh hpi;have HCR1:=Zh hcr;have HPN1:=Zh hpN;have HBYE1:=Zh hbye;clear hmm hpi hcr hpN hbye
  by_cases hcC:ci<C
  .obtain⟨A7,n7,c7,h7⟩:=hbi.ps.sm.form3;subst h7;have hcut:=hbi.cut;have HBI2:=Zh hcut;have hob:=HOB.o wr hbi.kp;have HG7:=Zh (HOG.o wr hbi.kp);clear hbi hcut hob;go_upto_region 8 with fail
   obtain⟨RT,hRT⟩:∃ RT,zd2 (zcp δ C N ci gl) (p',[])=RT:=⟨_,rfl⟩;have HRT:=Zh hRT;have HMB:=Zh (zvp HPI1.o HCR1.o (zcp δ C N ci gl));have HCI:=Zh hcC;clear hRT;generalize wr=wo at *;go_loopg [7,44] K (fun m2 v7 s wr=>∃ (gi:Nat) (p2:PT) (sm2:List Nat),s = .int .i64 (gi:Int)∧gi<=K∧m2=K-gi∧BI w2 wr B g (.slice (some ⟨ba,0,none⟩) p.N ca) b c (.slice (some ⟨bd,0,none⟩) p.n cd) (.slice (some ⟨be,0,none⟩) p.n ce) m d e mm' v7 p2 sm2∧Mkg p' (zcp δ C N ci gl) (zcp δ C N ci (gl.drop gi)) (p2,sm2)∧zd2 (zcp δ C N ci (gl.drop gi)) (p2,sm2)=RT)
   case atStart=>exact⟨0,p',[],by first | rfl | trivial,yf8 _,by first | rfl | trivial,HBI2.o,HMB.o,HRT.o⟩
   case round =>
    obtain⟨gi,p2,sm2,rfl,hgi,hm2,hbi,hmk,hmr⟩:=hrel;have HM2:=Zh hm2;have HBI3:=Zh hbi;have HMK:=Zh hmk;have HMR:=Zh hmr;clear hm2
    by_cases hgK:gi<K
    .have hgl':gi<(ns gl).length:=(by rw[zaj,HKK.o];exact hgK);obtain⟨b6,c6',e6,_,_,z6⟩:=(HOG.o wr hbi.kp).at gi hgl';obtain⟨t,ht⟩:∃ t,gl[gi]?=some t:=⟨_,yey (by rw[HKK.o];exact hgK)⟩;have hzt:(ns gl)[gi]'hgl'=(t:Int):=by
      have h1:(ns gl)[gi]?=some (t:Int):=(by unfold ns;rw[yfs,ht];rfl);rw[yey hgl'] at h1;injection h1
     rw[hzt] at z6;have hA6:A6=some ⟨b6,0,none⟩:=(by injection e6);subst hA6;have htN:t<N:=(by have:=HGM.o t (yfh ht);rw[HNN.o] at this;exact this);have hti:t*C+ci<N*C:=by
      have h1:=yg4 C (show t+1<=N from htN);rw[yha] at h1;have:=HCI.o;omega
     have hto:=fun (W:World) (hW:Below wr.heap.size wr W)=>to_p (C:=C) (t:=t) (c:=ci) ((HOW.o wr hbi.kp).kept (Kept.of_below (fun _=>False) hW) (fun _ _ q=>q) (fun _ _ q=>q)) hti HCN.o
     have hdr:gl.drop gi=t::gl.drop (gi+1):=by
      obtain⟨hi',he⟩:=yf4.1 ht;rw[yge hi',he]
     rw[hdr,zsq] at hmk hmr;have hbx:=HOB.o wr hbi.kp;have q0:wr.cell? ⟨w.heap.size,0,none⟩=some (.int .i64 (C:Int)):=cell_of_row wr w.heap.size 0 _ _ (0,0) hbx;have q1:wr.cell? ⟨w.heap.size,1,none⟩=some (.slice Ab nb cb):=cell_of_row wr w.heap.size 1 _ _ (0,0) hbx;have q2:wr.cell? ⟨w.heap.size,2,none⟩=some (.slice Af nf cf):=cell_of_row wr w.heap.size 2 _ _ (0,0) hbx;change ∀ (W:World) (hW:Below wr.heap.size wr W),Calls _ _ _ _ fun e' w'=>Below W.heap.size W w'∧∃ A cp bf,e' = .returned (.slice A (toW δ C N t ci).length cp)∧(Value.slice Af nf cf).ownBlock=some bf∧RdL w' bf A (toW δ C N t ci) at hto
     obtain⟨TW,hTW⟩:∃ TW,toW δ C N t ci=TW:=⟨_,rfl⟩;rw[hTW] at hto hmk hmr;obtain⟨TL,hTL⟩:∃ TL,TW.length=TL:=⟨_,rfl⟩;rw[hTL] at hto;unfold zif at hto;have HTO:=Zh hto;have hTL9:TL<=N:=(by rw[←hTL,←hTW];exact zoc (znp HCI.o) (fun s hs=>((zlz HCI.o s).1 hs).1));have HTL9:=Zh hTL9;have HTL:=Zh hTL;have HMK2:=Zh hmk;have HMR2:=Zh hmr;have i2:(0:Int)<=(gi:Int):=yie;have i3:(gi:Int)<(K:Int):=yie;clear hTL9 hto hTL hmk hmr hTW hbx hdr hti ht hzt hgl' e6;go_upto_region 11 with (first
      | (go_at_call 81;(with_reducible refine (HTO.o _ (yf6 _ _)).mono ?_);rintro e' w5 ⟨b5,A8,cp8,bf,rfl,ob8,rd8⟩;have B5:=Zh b5;have OB8:=Zh ob8;have RD8:=Zh rd8;clear b5 ob8 rd8)
      | fail)
     generalize wr=wv at *;have hbi5:=HBI3.o.stays B5.o;have hbfl:bf<w2.heap.size:=by
      have:=(yf5 (HOW.o w2 (Kept.refl _ _)).rf bf OB8.o).2;exact this
     have hbfq:¬ (bf=g∨∃ v∈[(.slice (some ⟨ba,0,none⟩) p.N ca),b,c,(.slice (some ⟨bd,0,none⟩) p.n cd),(.slice (some ⟨be,0,none⟩) p.n ce),m],v.ownBlock=some bf):=fun q=>by
      obtain⟨f1,f2⟩:=HFAR.o (.slice Af nf cf) yii bf OB8.o;rcases q with q|⟨v,hv,ev⟩
      .exact f1 q
      .exact f2 v hv ev
     have HRD:=Zh (fun (W:World) (kk:Kept (fun x=>x=g∨∃ v∈[(.slice (some ⟨ba,0,none⟩) p.N ca),b,c,(.slice (some ⟨bd,0,none⟩) p.n cd),(.slice (some ⟨be,0,none⟩) p.n ce),m],v.ownBlock=some x) w2 W)=>RdL.block' RD8.o ((kk.block bf hbfl hbfq).trans (hbi5.kp.block bf hbfl hbfq).symm));have HBI5:=Zh hbi5;clear hbi5 hbfl hbfq q0 q1 q2 z6;go_loopg [7,53] TL (fun m3 v7 s wr=>∃ (k:Nat) (p3:PT) (sm3:List Nat),s = .int .i64 (k:Int)∧k<=TL∧m3=TL-k∧BI w2 wr B g (.slice (some ⟨ba,0,none⟩) p.N ca) b c (.slice (some ⟨bd,0,none⟩) p.n cd) (.slice (some ⟨be,0,none⟩) p.n ce) m d e mm' v7 p3 sm3∧Mkg p' (zcp δ C N ci gl) (TW.drop k++zcp δ C N ci (gl.drop (gi+1))) (p3,sm3)∧zd2 (TW.drop k++zcp δ C N ci (gl.drop (gi+1))) (p3,sm3)=RT)
     case atStart=>exact⟨0,p2,sm2,by first | rfl | trivial,yf8 _,by first | rfl | trivial,HBI5.o,HMK2.o,HMR2.o⟩
     case round =>
      obtain⟨k,p3,sm3,rfl,hk,hm3,hbi,hmk,hmr⟩:=hrel;have HM3:=Zh hm3;have HBI6:=Zh hbi;clear hm3
      by_cases hkT:k<TL
      .obtain⟨x,hx⟩:∃ x,TW[k]?=some x:=⟨_,yey (by rw[HTL.o];exact hkT)⟩;obtain⟨off,hA8,zx⟩:=(HRD.o wr hbi.kp).2 k x hx;subst hA8;have hdr:TW.drop k=x::TW.drop (k+1):=by
        obtain⟨hi',he⟩:=yf4.1 hx;rw[yge hi',he]
       rw[hdr,ygg] at hmk hmr;obtain⟨k1,k2,k3,k4⟩:=zyx hmk (HMSN.o ci HCI.o) (fun s hs=>by rw[HPN1.o];exact HMSS.o ci HCI.o s hs);obtain⟨f1,f2,f3⟩:=zvo hmk;simp only at k1 k2 k3 f1 f2 f3;have hfg:=zee k3;have hN9:=HN9.o;rw[f2,HPN1.o] at hfg;have hmp:=ydt (s:=x) hbi.ps k3 k1 k2 (by rw[f2,HPN1.o];omega) yie (by rw[f3] at hfg;omega);have hmb:=fun en w' (hr:znc wr B g (.slice (some ⟨ba,0,none⟩) p.N ca) b c d e mm' u7 p3 sm3 x en w')=>hbi.mark hr
       have HMP:=Zh hmp;have HMB2:=Zh hmb;have HK4:=Zh k4;have HMR3:=Zh (show zd2 (TW.drop (k+1)++zcp δ C N ci (gl.drop (gi+1))) (zg3 (p3,sm3) x)=RT from hmr);have j2:(0:Int)<=(k:Int):=yie;have j3:(k:Int)<(TL:Int):=yie;have j4:(k:Int)<100000:=(by have:=HTL9.o;have:=HN9.o;omega);clear hmp hmb k1 k2 k3 k4 f1 f2 f3 hfg hN9 hmk hmr hbi hdr hx;go_wp2_with (first
        | (go_at_call 82;(with_reducible refine HMP.o.mono ?_);rintro e' w6 hr;obtain⟨v9,rfl,hbi9⟩:=HMB2.o e' w6 hr;have HBI9:=Zh hbi9;clear hbi9 hr)
        | fail)
       go_roundg (TL-(k+1))
       case measure=>have:=HM3.o;omega
       case rel=>exact⟨k+1,_,_,by go_num,by omega,rfl,HBI9.o,HK4.o,HMR3.o⟩
      .have hkl:k=TL:=yie;have hdn:TW.drop k=[]:=List.drop_eq_nil_of_le (by rw[HTL.o];omega);rw[hdn,yhc] at hmk hmr;have HMK3:=Zh hmk;have HMR3:=Zh hmr;have j4:(gi:Int)<100000:=(by have:=HK9.o;omega);clear hbi hmk hmr hdn;subst hkl;go_wp2;go_roundg (K-(gi+1))
       case measure=>have:=HM2.o;omega
       case rel=>exact⟨gi+1,_,_,by go_num,by omega,rfl,HBI6.o,HMK3.o,HMR3.o⟩
    .have hkl:gi=K:=yie;have hdn:gl.drop gi=[]:=List.drop_eq_nil_of_le (by rw[HKK.o];omega);rw[hdn] at hmk hmr;change Mkg p' (zcp δ C N ci gl) [] (p2,sm2) at hmk;change (p2,sm2)=RT at hmr;have hpw:=ybq hmk;obtain⟨f1,f2,f3⟩:=zvo hmk;simp only at hpw f1 f2 f3;have hcf:zcz (zcp δ C N ci gl) p'=zb3 sm2 p2:=by
      unfold zcz;rw[HRT.o,←hmr]
     obtain⟨CF,hCF⟩:∃ CF,zcz (zcp δ C N ci gl) p'=CF:=⟨_,rfl⟩;rw[hCF] at hcf;obtain⟨A9,n9,c9,h9⟩:=hbi.ps.sm.form3;have hn9:n9=sm2.length:=by
      obtain⟨A',c',e'⟩:=hbi.ps.sm.form;rw[h9,zaj] at e';injection e'
     subst h9 hn9;obtain⟨S,hS⟩:∃ S,sm2.length=S:=⟨_,rfl⟩;have hfg:=zee HPI1.o;rw[HPN1.o] at hfg;have hS9:(S:Int)<=90000:=yja;have HS:=Zh hS;have HPW:=Zh hpw;have HF2:=Zh (f2.trans HPN1.o);have HCF:=Zh hcf;have HCFD:=Zh hCF;have HS9:=Zh hS9;rw[hS] at hbi ⊢;have HBI7:=Zh hbi;clear hpw f1 f2 f3 hcf hCF hS hfg hmk hmr hbi hdn HBI3 HMK HMR;subst hkl;go_upto_region 17 with fail
     generalize wr=wv at *;go_loopg [65] S (fun m4 s wr=>∃ (k:Nat) (p4:PT) (d4 e4 m5:Value),s = .int .i64 (k:Int)∧k<=S∧m4=S-k∧BI w2 wr B g (.slice (some ⟨ba,0,none⟩) p.N ca) b c (.slice (some ⟨bd,0,none⟩) p.n cd) (.slice (some ⟨be,0,none⟩) p.n ce) m d4 e4 m5 (.slice A9 S c9) p4 sm2∧PW (sm2.drop k) p4∧p4.N=N∧zb3 (sm2.drop k) p4=CF)
     case atStart=>exact⟨0,p2,_,_,_,by first | rfl | trivial,yf8 _,by first | rfl | trivial,HBI7.o,HPW.o,HF2.o,HCF.o.symm⟩
     case round =>
      obtain⟨k,p4,d4,e4,m5,rfl,hk,hm4,hbi,hpw,hp4,hpa⟩:=hrel;have HM4:=Zh hm4;clear hm4
      by_cases hkS:k<S
      .obtain⟨x,hx⟩:∃ x,sm2[k]?=some x:=⟨_,yey (by rw[HS.o];exact hkS)⟩;have hk':k<(ns sm2).length:=(by rw[zaj,HS.o];exact hkS);obtain⟨b9,c9',e9,_,_,z9⟩:=hbi.ps.sm.at k hk';have hzx:(ns sm2)[k]'hk'=(x:Int):=by
        have h1:(ns sm2)[k]?=some (x:Int):=(by unfold ns;rw[yfs,hx];rfl);rw[yey hk'] at h1;injection h1
       rw[hzx] at z9;have hA9:A9=some ⟨b9,0,none⟩:=(by injection e9);subst hA9;have hdr:sm2.drop k=x::sm2.drop (k+1):=by
        obtain⟨hi',he⟩:=yf4.1 hx;rw[yge hi',he]
       rw[hdr] at hpw hpa;obtain⟨k1,k2,k3,k4⟩:=hpw.step;have hfg:=zee hpw.inv;have hN9:=HN9.o;rw[hp4] at hfg;have hpp:=ybw hbi.ps.pm hpw.inv k1.1 yie (by rw[hp4];omega) yie;have hpb:=fun en w' (hr:znb wr B g (.slice (some ⟨ba,0,none⟩) p.N ca) b c d4 e4 m5 p4 x en w')=>hbi.part hr
       have HPP:=Zh hpp;have HPB:=Zh hpb;have HK2:=Zh k2;have HK3:=Zh (k3.trans hp4);have HPA:=Zh (k4.symm.trans hpa);have j2:(0:Int)<=(k:Int):=yie;have j3:(k:Int)<(S:Int):=yie;have j4:(k:Int)<100000:=(by have:=HS9.o;omega);clear hpp hpb k1 k2 k3 k4 hfg hN9 hpw hpa hbi hdr hx hzx e9 hp4 hk';go_wp2_with (first
        | (go_at_call 83;(with_reducible refine HPP.o.mono ?_);rintro e' w6 hr;obtain⟨rfl,d6,e6,m6,hbi9⟩:=HPB.o e' w6 hr;have HBI9:=Zh hbi9;clear hbi9 hr)
        | fail)
       go_roundg (S-(k+1))
       case measure=>have:=HM4.o;omega
       case rel=>exact⟨k+1,_,_,_,_,by go_num,by omega,rfl,HBI9.o,HK2.o,HK3.o,HPA.o⟩
      .have hkl:k=S:=yie;have hdn:sm2.drop k=[]:=List.drop_eq_nil_of_le (by rw[HS.o];omega);rw[hdn] at hpa;change p4=CF at hpa;subst hpa;have hcc:=zqf HPI1.o HCR1.o (HMSN.o ci HCI.o) (fun s hs=>by rw[HPN1.o];exact HMSS.o ci HCI.o s hs);rw[HCFD.o] at hcc;have hby:zdr (fun k=>zcp δ C N k gl) (C-(ci+1)) (ci+1) p4=BYE:=by
        have h1:=HBYE1.o;rw[show C-ci=C-(ci+1)+1 by have:=HCI.o;omega,zdr,HCFD.o] at h1;exact h1
       have HC1:=Zh hcc;have HBY:=Zh hby;have HBI8:=Zh hbi;have j4:(ci:Int)<100000:=(by have:=HCC.o;have:=HCI.o;omega);clear hcc hby hbi hpw hdn;subst hkl;go_wp2;go_roundg (C-(ci+1))
       case measure=>have:=HMM.o;have:=HCI.o;omega
       case rel=>exact⟨ci+1,_,_,_,_,_,by go_num,HCI.o,rfl,HBI8.o,HC1.o.1,HC1.o.2.2,HC1.o.2.1.trans HPN1.o,HBY.o⟩
  .have hkl:ci=C:=yie;subst hkl;have hby:=HBYE1.o;rw[ygf] at hby;change p'=BYE at hby;subst hby;go_wp2;exact⟨rfl,.tuple #[],by simp[results,Tryd.results68],rfl,d,e,mm',hbi.ps.pm,(Kept.of_below _ HB2.o).trans hbi.kp (fun x ex => .inl ex),fun v hv x ex=>(hbi.nd v hv x ex).imp (fun q=>yfa HB2.o.size q) id⟩
end
end Go.Proofs.YtipfgpfplakhiaaDoor
