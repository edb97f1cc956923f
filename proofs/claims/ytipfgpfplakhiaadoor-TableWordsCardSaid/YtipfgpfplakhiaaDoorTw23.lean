import Derived.Test.YtipfgpfplakhiaaDoorTw19
set_option linter.unusedVariables false
set_option linter.unusedSimpArgs false
set_option maxRecDepth 20000
set_option maxHeartbeats 4000000
namespace Go.Proofs.YtipfgpfplakhiaaDoor
open Go Go.RowKit
theorem PM.kept {w w':World} {B g:Nat} {a b c d e m:Value} {p:PT} {Q:Nat->Prop} (h:PM w B g a b c d e m p) (hk:Kept Q w w') (hg:¬ Q g) (hq:∀ v∈[a,b,c,d,e,m],∀ x,v.ownBlock=some x->¬ Q x):PM w' B g a b c d e m p:=
 ⟨h.gB,(hk.block g (za0 h.box) hg).trans h.box,h.ra.kept hk (hq a yii),h.rb.kept hk (hq b yii),h.rc.kept hk (hq c yii),h.rd.kept hk (hq d yii),h.re.kept hk (hq e yii),h.rm.kept hk (hq m yii),h.ap⟩
structure PS (w:World) (B g:Nat) (a b c d e m vs:Value) (p:PT) (sm:List Nat):Prop where
 pm:PM w B g a b c d e m p
 sm:Ints w B vs (ns sm)
 ap:∀ v∈[a,b,c,d,e,m],Ap vs v
theorem PM.setM {w:World} {B g bm cm G v:Nat} {a b c d e:Value} {p:PT} (h:PM w B g a b c d e (.slice (some ⟨bm,0,none⟩) p.n cm) p):PM (w.setCell ⟨bm,G,none⟩ (.int .i64 (v:Int))) B g a b c d e (.slice (some ⟨bm,0,none⟩) p.n cm) {p with md:=upd p.md G v}:=by
 have hap:=h.ap;simp only[yg3,yfi,forall_eq_or_imp,yfk,false_imp_iff,implies_true,and_true,ygb,Ap] at hap;obtain⟨⟨_,_,_,_,x5⟩,⟨_,_,_,y5⟩,⟨_,_,z5⟩,⟨_,u5⟩,t5⟩:=hap;have k1:Kept (fun x=>x=bm) w (w.setCell ⟨bm,G,none⟩ (.int .i64 (v:Int))):=(Kept.refl (fun x=>x=bm) w).setCell (a:=⟨bm,G,none⟩) (.inl rfl) _;have g1:=zb6 h.rm h.box bm rfl;have oth:∀ (u:Value) (n:Nat) (f:Nat->Nat),NRow w B u n f->(∀ x,u.ownBlock=some x->(Value.slice (some ⟨bm,0,none⟩) p.n cm).ownBlock≠some x)->NRow (w.setCell ⟨bm,G,none⟩ (.int .i64 (v:Int))) B u n f:=fun u n f hr z=>hr.kept k1 fun x e1 e2=>z x e1 (by rw[e2];rfl)
 exact⟨h.gB,(yf9 _ _ _ _ (fun e'=>g1 e'.symm)).trans h.box,oth _ _ _ h.ra x5,oth _ _ _ h.rb y5,oth _ _ _ h.rc z5,oth _ _ _ h.rd u5,oth _ _ _ h.re t5,h.rm.set G v,h.ap⟩
theorem PS.push {w w':World} {B g G:Nat} {a b c d e m vs v':Value} {p:PT} {sm:List Nat} {o:Obj} (h:PS w B g a b c d e m vs p sm) (hg:(w.alloc o).grownBy w' vs.ownBlock) (hr:Ints w' B v' (ns sm++ns [G])) (ho:v'.ownBlock=vs.ownBlock∨v'.ownBlock=some (w.alloc o).heap.size):PS w' B g a b c d e m v' p (sm++[G])∧Kept (fun x=>vs.ownBlock=some x) w w':=by
 have hk:Kept (fun x=>vs.ownBlock=some x) w w':=((Kept.refl (fun x=>vs.ownBlock=some x) w).alloc o).grown hg (fun x ex => .inl ex);have hgg:¬ vs.ownBlock=some g:=fun ex=>by
  obtain⟨cu,hc⟩:=za7 h.sm ex;exact za1 hc h.pm.box yij rfl
 refine⟨⟨h.pm.kept hk hgg fun v hv x ex q=>h.ap v hv x q ex,by have:=hr;simpa [ns] using this,fun v hv x ex=>?_⟩,hk⟩;rcases ho with e1|e1
 .exact h.ap v hv x (e1▸ex)
 .intro ev;have hx:x=(w.alloc o).heap.size:=(by rw[e1] at ex;injection ex with ex;exact ex.symm);have hlt:x<w.heap.size:=by
   simp only[yfi,yfk,or_false] at hv;rcases hv with rfl|rfl|rfl|rfl|rfl|rfl
   .exact (yf5 h.pm.ra x ev).2
   .exact (yf5 h.pm.rb x ev).2
   .exact (yf5 h.pm.rc x ev).2
   .exact (yf5 h.pm.rd x ev).2
   .exact (yf5 h.pm.re x ev).2
   .exact (yf5 h.pm.rm x ev).2
  rw[hx] at hlt;simp at hlt;omega
theorem PS.stays {w w':World} {B g:Nat} {a b c d e m vs:Value} {p:PT} {sm:List Nat} (h:PS w B g a b c d e m vs p sm) (hb:Below w.heap.size w w'):PS w' B g a b c d e m vs p sm:=
 ⟨h.pm.kept (Kept.of_below (fun _=>False) hb) (fun q=>q) (fun _ _ _ _ q=>q),h.sm.off (Kept.of_below (fun _=>False) hb) fun _ _ q=>q,h.ap⟩
def znc (w:World) (B g:Nat) (a b c d e m vs:Value) (p:PT) (sm:List Nat) (s:Nat) (en:Ending) (w':World):Prop:=
 ∃ v',en = .returned v'∧PS w' B g a b c d e m v' (zck p s) (zg3 (p,sm) s).2∧Kept (fun x=>x=g∨vs.ownBlock=some x∨∃ v∈[a,b,c,d,e,m],v.ownBlock=some x) w w'∧∀ x,v'.ownBlock=some x->vs.ownBlock=some x∨w.heap.size<=x
theorem ydt {w:World} {B g:Nat} {a b c d e m vs:Value} {p:PT} {sm:List Nat} {s:Nat} (h:PS w B g a b c d e m vs p sm) (hp:PInv p) (hs:s<p.N) (hm:¬ Mk p s) (hN:p.N<=100000) (hn:p.n<=100000) (hsm:sm.length<=99999):
 Calls Tryd.prog 82 #[.pointer (some ⟨g,0,none⟩),.int .i64 (s:Int),vs] w (znc w B g a b c d e m vs p sm s):=by
 obtain⟨G,hG⟩:∃ G,p.grp s=G:=⟨_,rfl⟩;have hGn:G<p.n:=hG▸hp.gn s hs;obtain⟨D,hD⟩:∃ D,p.md G=D:=⟨_,rfl⟩;have HP:=Zh h;obtain⟨bc,cc,hec,_,hc0⟩:=h.pm.rc.at hs;obtain⟨bm,cm,hem,_,hm0⟩:=h.pm.rm.at hGn;subst hec hem;rw[hG] at hc0;rw[hD] at hm0;have q2:w.cell? ⟨g,2,none⟩=some (.slice (some ⟨bc,0,none⟩) p.N cc):=cell_of_row w g 2 _ _ (0,0) h.pm.box;have q5:w.cell? ⟨g,5,none⟩=some (.slice (some ⟨bm,0,none⟩) p.n cm):=cell_of_row w g 5 _ _ (0,0) h.pm.box;obtain⟨N,hN'⟩:∃ N,p.N=N:=⟨_,rfl⟩;obtain⟨n,hn'⟩:∃ n,p.n=n:=⟨_,rfl⟩;have HNN:=Zh hN';have Hnn:=Zh hn';obtain⟨As,ns',cs',hvs⟩:=h.sm.form3;have i0:(0:Int)<=(s:Int):=yie;have i1:(s:Int)<(N:Int):=yie;have i2:(0:Int)<=(G:Int):=yie;have i3:(G:Int)<(n:Int):=yie;have hBs:=h.pm.box;have HGB:=Zh (show B<=w.heap.size by have:=za0 h.pm.box;have:=h.pm.gB;omega);have HPI:=Zh hp;have HSN:=Zh hs;have HMK:=Zh hm;have HN1:=Zh hN;have HN2:=Zh hn;have HSM:=Zh (show (ns sm).length+(ns [G]).length<=100000 by simp[ns];omega);have HGG:=Zh hG;have HDD:=Zh hD;rw[hN'] at q2 HP;rw[hn'] at q5 HP;clear h hp hs hm hN hn hsm hBs hN' hn' hG hD hGn;go_enter Tryd.func82,Tryd.ntmps82;go_upto_if 24 with fail
 go_cut [2] from 25 to 28 (fun s2 wx=>PS wx B g a b (.slice (some ⟨bc,0,none⟩) N cc) d e (.slice (some ⟨bm,0,none⟩) n cm) s2 p (zg3 (p,sm) s).2∧Kept (fun x=>vs.ownBlock=some x) w wx∧∀ x,s2.ownBlock=some x->vs.ownBlock=some x∨w.heap.size<=x)
 case first =>
  by_cases hD0:D=0
  .subst hD0;go_wp2_with (first
    | (at_builtin;refine zbc (l:=ns sm) (m:=ns [G]) (B:=B) (C:=B) yik _ _ yik yik yik (za6 HP.o.sm ((yf6 _ _).alloc (yez _) _)) (zh5 (heap_alloc_new _ _) HGB.o) HSM.o (yfa HGB.o yii) ?_;intro v8 w8 h8 hg8 ho8;have H8:=Zh h8;have HG8:=Zh hg8;have HO8:=Zh ho8;clear h8 hg8 ho8;go_simp)
    | fail)
   go_meet;have h:=HP.o.push HG8.o H8.o HO8.o;refine⟨?_,h.2,fun x ex=>HO8.o.elim (fun e => .inl (e▸ex)) (fun e => .inr yj7)⟩;rw[show (zg3 (p,sm) s).2=sm++[G] by unfold zg3;simp only;rw[HGG.o,if_pos HDD.o]];exact h.1
  .have hq:((D:Int)==0)=false:=yil;go_wp2;go_meet;refine⟨?_,Kept.refl _ _,fun x ex => .inl ex⟩;rw[show (zg3 (p,sm) s).2=sm by unfold zg3;simp only;rw[HGG.o,if_neg (by rw[HDD.o];exact hD0)]];exact HP.o
 case rest =>
 obtain⟨hps,hkc,hnb⟩:=hcut;have HNB:=Zh hnb;clear hnb;have HPS:=Zh hps;have HKC:=Zh hkc;have hGn:G<p.n:=(by rw[←HGG.o];exact HPI.o.gn s HSN.o);obtain⟨bb,cb,heb,_,hb0⟩:=hps.pm.rb.at HSN.o;obtain⟨bd,cd,hed,_,hd0⟩:=hps.pm.rd.at hGn;subst heb hed;obtain⟨bm',cm',hem',_,hm1⟩:=hps.pm.rm.at hGn;obtain⟨rfl,rfl⟩:bm=bm'∧cm=cm':=by
  injection hem' with x1 x2 x3
  injection x1 with x1
  injection x1 with x1
  exact⟨x1,x3⟩
 rw[HDD.o] at hm1;have r1:wc.cell? ⟨g,1,none⟩=some (.slice (some ⟨bb,0,none⟩) p.N cb):=cell_of_row wc g 1 _ _ (0,0) hps.pm.box;have r3:wc.cell? ⟨g,3,none⟩=some (.slice (some ⟨bd,0,none⟩) p.n cd):=cell_of_row wc g 3 _ _ (0,0) hps.pm.box;have r5:wc.cell? ⟨g,5,none⟩=some (.slice (some ⟨bm,0,none⟩) n cm):=cell_of_row wc g 5 _ _ (0,0) hps.pm.box;rw[HNN.o] at r1 HPS;rw[Hnn.o] at r3 HPS;obtain⟨H,hH⟩:∃ H,p.at' s=H:=⟨_,rfl⟩;obtain⟨E,hE⟩:∃ E,p.bg G=E:=⟨_,rfl⟩;have HHH:=Zh hH;have HEE:=Zh hE;rw[hH] at hb0;rw[hE] at hd0;have hmdb:=HPI.o.md G hGn;have hneb:=HPI.o.ne G hGn;rw[hE,HDD.o] at hmdb;have iD:(E:Int)+(D:Int)<=100000:=(by have:=HN1.o;omega);clear hps hkc hH hE hem' hmdb hneb q2 q5 hc0 hm0;go_upto_region 5 with fail
 go_quiet (fail);have BD:Below wc.heap.size wc (wc.drewN nq):=zbg (yf6 _ _) nq;have HPD:=Zh (HPS.o.stays BD);have HKD:=Zh (HKC.o.trans (Kept.of_below (fun _=>False) BD) fun x ex=>ex.elim);generalize wc.drewN nq=wd at *;clear BD HPS HKC hb0 hd0 hm1 r1 r3 r5;have hT:E+D<p.N:=by
  have h1:=HPI.o.lo s HSN.o;have h2:=HMK.o;unfold Mk at h2;rw[HGG.o,HHH.o,HEE.o] at h1;rw[HGG.o,HHH.o,HEE.o,HDD.o] at h2;exact (HPI.o.of G (E+D) hGn (by rw[HEE.o];omega) yie).1
 obtain⟨ba,ca,hea,_,ha0⟩:=HPD.o.pm.ra.at hT;subst hea;have r0:wd.cell? ⟨g,0,none⟩=some (.slice (some ⟨ba,0,none⟩) p.N ca):=cell_of_row wd g 0 _ _ (0,0) HPD.o.pm.box;obtain⟨Y,hY⟩:∃ Y,p.st (E+D)=Y:=⟨_,rfl⟩;have HYY:=Zh hY;rw[hY] at ha0;have hYN:Y<p.N:=(by rw[←hY];exact HPI.o.stN _ hT);have hHN:H<p.N:=(by rw[←HHH.o];exact HPI.o.atN s HSN.o);have P1:=Zh (ybb HPD.o.pm hYN hHN HN1.o);have P2:=Zh (fun (W:World) (h:PM W B g (.slice (some ⟨ba,0,none⟩) p.N ca) (.slice (some ⟨bb,0,none⟩) N cb) (.slice (some ⟨bc,0,none⟩) N cc) (.slice (some ⟨bd,0,none⟩) n cd) e (.slice (some ⟨bm,0,none⟩) n cm) (putF p Y H))=>ybb (s:=s) (i:=E+D) h HSN.o hT HN1.o);obtain⟨T,hT'⟩:∃ T,E+D=T:=⟨_,rfl⟩;have hTi:(E:Int)+(D:Int)=(T:Int):=yie;have HTT:=Zh hT';rw[hT'] at ha0 P2 hT;rw[hTi];have t0:(0:Int)<=(T:Int):=yie;have t1:(T:Int)<(p.N:Int):=yie;rw[HNN.o] at r0 t1;rw[HNN.o] at P1 P2;have iD2:(D:Int)+1<=200000:=yie;clear hY hTi hT';go_upto_region 7 with (first
  | (go_at_call 78;(with_reducible refine P1.o.mono ?_);rintro e' w5 ⟨rfl,h5,k5⟩;have HP5:=Zh h5;have HK5:=Zh k5;clear h5 k5)
  | (go_at_call 78;(with_reducible refine (P2.o _ HP5.o).mono ?_);rintro e' w6 ⟨rfl,h6,k6⟩;have HP6:=Zh h6;have HK6:=Zh k6;clear h6 k6)
  | fail)
 have y5:w6.cell? ⟨g,5,none⟩=some (.slice (some ⟨bm,0,none⟩) n cm):=cell_of_row w6 g 5 _ _ (0,0) HP6.o.box;have ym:w6.cell? ⟨bm,G,none⟩=some (.int .i64 (D:Int)):=by
  obtain⟨b',c',e1,_,hz⟩:=HP6.o.rm.at (i:=G) hGn;injection e1 with x1 x2 x3
  injection x1 with x1
  injection x1 with x1
  rw[←x1] at hz;have hz2:w6.cell? ⟨bm,G,none⟩=some (.int .i64 ((p.md G:Nat):Int)):=hz;rw[HDD.o] at hz2;exact hz2
 have hp6:=HP6.o;have hsetm:PM (w6.setCell ⟨bm,G,none⟩ (.int .i64 ((D+1:Nat):Int))) B g (.slice (some ⟨ba,0,none⟩) N ca) (.slice (some ⟨bb,0,none⟩) N cb) (.slice (some ⟨bc,0,none⟩) N cc) (.slice (some ⟨bd,0,none⟩) n cd) e (.slice (some ⟨bm,0,none⟩) n cm) (zck p s):=by
  have h1:=hp6;rw[show n=(putF (putF p Y H) s T).n from Hnn.o.symm] at h1;have h2:=h1.setM (G:=G) (v:=D+1);have e2:zck p s=({putF (putF p Y H) s T with md:=upd (putF (putF p Y H) s T).md G (D+1)}:PT):=by
   unfold zck;simp only[HGG.o,HEE.o,HDD.o,HTT.o,HHH.o];rw[←HYY.o,HTT.o];rfl
  rw[e2,show n=(putF (putF p Y H) s T).n from Hnn.o.symm];exact h2
 have fm:w6.frozen? ⟨bm,G,none⟩=false:=by
  have h1:=hp6.rm;rw[show n=p.n from Hnn.o.symm] at h1;exact yfw h1 G
 have HSM6:=Zh hsetm;clear hp6 hsetm;have hcD:((D+1:Nat):Int)=(D:Int)+1:=yie;rw[hcD] at HSM6;clear hcD;go_wp2;go_ret;have hd:=HPD.o;have hsg:∀ v∈[(.slice (some ⟨ba,0,none⟩) N ca:Value),.slice (some ⟨bb,0,none⟩) N cb,.slice (some ⟨bc,0,none⟩) N cc,.slice (some ⟨bd,0,none⟩) n cd,e,.slice (some ⟨bm,0,none⟩) n cm],Ap u2 v:=by
  intro v hv;have:=hd.ap v (by rw[HNN.o];exact hv);exact this
 have ks:Kept (fun x=>∃ v∈[(.slice (some ⟨ba,0,none⟩) N ca:Value),.slice (some ⟨bb,0,none⟩) N cb,.slice (some ⟨bc,0,none⟩) N cc,.slice (some ⟨bd,0,none⟩) n cd,e,.slice (some ⟨bm,0,none⟩) n cm],v.ownBlock=some x) wd (w6.setCell ⟨bm,G,none⟩ (.int .i64 ((D:Int)+1))):=by
  refine (((HK5.o.mono (Q':=fun x=>∃ v∈[(.slice (some ⟨ba,0,none⟩) N ca:Value),.slice (some ⟨bb,0,none⟩) N cb,.slice (some ⟨bc,0,none⟩) N cc,.slice (some ⟨bd,0,none⟩) n cd,e,.slice (some ⟨bm,0,none⟩) n cm],v.ownBlock=some x) fun x ex => .inl ?_).trans HK6.o fun x ex => .inl ?_).setCell (a:=⟨bm,G,none⟩) (.inl ?_) _)
  .rcases ex with ex|ex
   .exact⟨_,by simp,ex⟩
   .exact⟨_,by simp,ex⟩
  .rcases ex with ex|ex
   .exact⟨_,by simp,ex⟩
   .exact⟨_,by simp,ex⟩
  .exact⟨.slice (some ⟨bm,0,none⟩) n cm,by simp,rfl⟩
 show znc _ _ _ _ _ _ _ _ _ _ _ _ _ _ _
 rw[HNN.o,Hnn.o];refine⟨u2,rfl,⟨HSM6.o,hd.sm.off ks fun x ex q=>?_,hsg⟩,(HKD.o.mono fun x ex => .inl (.inr (.inl ex))).trans ks fun x ex => .inl (.inr (.inr ex)),HNB.o⟩;obtain⟨v,hv,ev⟩:=q;exact hsg v hv x ex ev
section
theorem nrow_ints {w:World} {B:Nat} {v:Value} {n:Nat} {f:Nat->Nat}:NRow w B v n f↔Ints w B v (ns ((List.range n).map f)):=by
 unfold NRow Ints;rw[zaj,yfr,List.length_range];have e:(ns ((List.range n).map f)).map (Value.int .i64)=lstI n f:=(by simp[ns,lstI]);rw[e]
theorem zb0 {w:World} {B:Nat} {v:Value} {n x:Nat} {f:Nat->Nat} (h:Ints w B v (ns ((List.range n).map f)++ns [x])):NRow w B v (n+1) (upd f n x):=by
 rw[nrow_ints];have e:(List.range (n+1)).map (upd f n x)=(List.range n).map f++[x]:=by
  rw[ygh,yfu]
  congr 1
  .apply yhb;intro i hi;rw[yfz] at hi;rw[zao _ _ yie]
  .simp[zac]
 rw[e,zja];exact h
theorem zp6 {p:Nat->Prop} {i k j:Nat} (h:p i) (h':p k) (h2:p j):∀ q∈[i,k,j],p q:=fun q hq=>by
 simp at hq;rcases hq with rfl|rfl|rfl
 .exact h
 .exact h'
 .exact h2
structure Rows3 (B:Nat) (w8 W:World) (o1 o2 o3 v1 v2 v3:Value) (n1 n2 n3:Nat) (f1 f2 f3:Nat->Nat):Prop where
 r1:NRow W B v1 n1 f1
 r2:NRow W B v2 n2 f2
 r3:NRow W B v3 n3 f3
 a12:Ap v1 v2
 a13:Ap v1 v3
 a23:Ap v2 v3
 keep:Kept (fun x=>o1.ownBlock=some x∨o2.ownBlock=some x∨o3.ownBlock=some x) w8 W
 q1:∀ x,v1.ownBlock=some x->o1.ownBlock=some x∨w8.heap.size<=x
 q2:∀ x,v2.ownBlock=some x->o2.ownBlock=some x∨w8.heap.size<=x
 q3:∀ x,v3.ownBlock=some x->o3.ownBlock=some x∨w8.heap.size<=x
def New1 (w8 W:World) (u:Value) (x:Nat):Prop:=∃ b,u = .slice (some ⟨b,0,none⟩) 1 1∧w8.heap.size<=b∧W.heap[b]?=some (.cells #[.int .i64 (x:Int)] 3 (0,0))
section
variable {B:Nat} {w8 W W':World} {o1 o2 o3 v1 v2 v3 v' u:Value} {n1 n2 n3 x:Nat} {f1 f2 f3:Nat->Nat}
theorem New1.alloc (h:New1 w8 W u x) (o:Obj):New1 w8 (W.alloc o) u x:=by
 obtain⟨b,e,h1,h2⟩:=h;exact⟨b,e,h1,(yfo W o b (za0 h2)).trans h2⟩
theorem New1.grown (h:New1 w8 W u x) {v:Value} (hg:W.grownBy W' v.ownBlock) (hv:∀ b,v.ownBlock=some b->b<w8.heap.size):New1 w8 W' u x:=by
 obtain⟨b,e,h1,h2⟩:=h;refine⟨b,e,h1,(hg.block b (za0 h2) fun e'=>?_).trans h2⟩;have:=hv b e'.symm;omega
theorem New1.made (w8 W:World) (h:w8.heap.size<=W.heap.size) (x:Nat):New1 w8 (W.alloc (.cells #[.int .i64 (x:Int)] 3)) (.slice (some ⟨W.heap.size,0,none⟩) 1 1) x:=⟨_,rfl,h,heap_alloc_new W _⟩
theorem New1.ints (h:New1 w8 W u x):Ints W 0 u (ns [x]):=by
 obtain⟨b,rfl,h1,h2⟩:=h;exact zh5 h2 (yf8 _)
theorem Rows3.alloc (h:Rows3 B w8 W o1 o2 o3 v1 v2 v3 n1 n2 n3 f1 f2 f3) (o:Obj):Rows3 B w8 (W.alloc o) o1 o2 o3 v1 v2 v3 n1 n2 n3 f1 f2 f3:=
 ⟨za6 h.r1 ((yf6 _ _).alloc (yez _) _),za6 h.r2 ((yf6 _ _).alloc (yez _) _),za6 h.r3 ((yf6 _ _).alloc (yez _) _),h.a12,h.a13,h.a23,h.keep.alloc o,h.q1,h.q2,h.q3⟩
theorem Rows3.size (h:Rows3 B w8 W o1 o2 o3 v1 v2 v3 n1 n2 n3 f1 f2 f3):w8.heap.size<=W.heap.size:=h.keep.size
theorem zq4 {v o:Value} (hq:∀ x,v.ownBlock=some x->o.ownBlock=some x∨w8.heap.size<=x) (hs:w8.heap.size<=W.heap.size) (ho:v'.ownBlock=v.ownBlock∨v'.ownBlock=some W.heap.size):∀ x,v'.ownBlock=some x->o.ownBlock=some x∨w8.heap.size<=x:=fun x ex=>by
 rcases ho with e|e
 .exact hq x (e▸ex)
 .rw[e] at ex;injection ex with ex
  exact .inr yie
theorem zfy {v t:Value} (ha:Ap v t) (ht:∀ b,t.ownBlock=some b->b<W.heap.size) (ho:v'.ownBlock=v.ownBlock∨v'.ownBlock=some W.heap.size):Ap v' t:=fun x ex et=>by
 rcases ho with e|e
 .exact ha x (e▸ex) et
 .rw[e] at ex;injection ex with ex
  have:=ht x et;omega
theorem zd8 {v t:Value} {n:Nat} {f:Nat->Nat} (h:NRow W B t n f) (ha:Ap v t) (hg:W.grownBy W' v.ownBlock):NRow W' B t n f:=za8 h fun b e hb=>hg.block b hb fun e'=>ha b e'.symm e
theorem Rows3.app1 (h:Rows3 B w8 W o1 o2 o3 v1 v2 v3 n1 n2 n3 f1 f2 f3) (hr:Ints W' B v' (ns ((List.range n1).map f1)++ns [x])) (hg:W.grownBy W' v1.ownBlock) (ho:v'.ownBlock=v1.ownBlock∨v'.ownBlock=some W.heap.size):Rows3 B w8 W' o1 o2 o3 v' v2 v3 (n1+1) n2 n3 (upd f1 n1 x) f2 f3:=
 ⟨zb0 hr,zd8 h.r2 h.a12 hg,zd8 h.r3 h.a13 hg,zfy h.a12 (fun b e=>(yf5 h.r2 b e).2) ho,zfy h.a13 (fun b e=>(yf5 h.r3 b e).2) ho,h.a23,h.keep.grown hg fun b e=>(h.q1 b e).imp (fun e => .inl e) id,zq4 h.q1 h.size ho,h.q2,h.q3⟩
theorem Rows3.app2 (h:Rows3 B w8 W o1 o2 o3 v1 v2 v3 n1 n2 n3 f1 f2 f3) (hr:Ints W' B v' (ns ((List.range n2).map f2)++ns [x])) (hg:W.grownBy W' v2.ownBlock) (ho:v'.ownBlock=v2.ownBlock∨v'.ownBlock=some W.heap.size):Rows3 B w8 W' o1 o2 o3 v1 v' v3 n1 (n2+1) n3 f1 (upd f2 n2 x) f3:=
 ⟨zd8 h.r1 (fun x e e'=>h.a12 x e' e) hg,zb0 hr,zd8 h.r3 h.a23 hg,fun x e e'=>zfy (fun x e e'=>h.a12 x e' e) (fun b e=>(yf5 h.r1 b e).2) ho x e' e,h.a13,zfy h.a23 (fun b e=>(yf5 h.r3 b e).2) ho,h.keep.grown hg fun b e=>(h.q2 b e).imp (fun e => .inr (.inl e)) id,h.q1,zq4 h.q2 h.size ho,h.q3⟩
theorem Rows3.app3 (h:Rows3 B w8 W o1 o2 o3 v1 v2 v3 n1 n2 n3 f1 f2 f3) (hr:Ints W' B v' (ns ((List.range n3).map f3)++ns [x])) (hg:W.grownBy W' v3.ownBlock) (ho:v'.ownBlock=v3.ownBlock∨v'.ownBlock=some W.heap.size):Rows3 B w8 W' o1 o2 o3 v1 v2 v' n1 n2 (n3+1) f1 f2 (upd f3 n3 x):=
 ⟨zd8 h.r1 (fun x e e'=>h.a13 x e' e) hg,zd8 h.r2 (fun x e e'=>h.a23 x e' e) hg,zb0 hr,h.a12,fun x e e'=>zfy (fun x e e'=>h.a13 x e' e) (fun b e=>(yf5 h.r1 b e).2) ho x e' e,fun x e e'=>zfy (fun x e e'=>h.a23 x e' e) (fun b e=>(yf5 h.r2 b e).2) ho x e' e,h.keep.grown hg fun b e=>(h.q3 b e).imp (fun e => .inr (.inr e)) id,h.q1,h.q2,zq4 h.q3 h.size ho⟩
end
theorem PM.three {B g:Nat} {w8 W:World} {a b c d e m v1 v2 v3:Value} {p:PT} {x1 x2 x3:Nat} (h:PM w8 B g a b c d e m p) (hr:Rows3 B w8 W d e m v1 v2 v3 (p.n+1) (p.n+1) (p.n+1) (upd p.bg p.n x1) (upd p.en p.n x2) (upd p.md p.n x3)):
 PM (((W.setCell ⟨g,3,none⟩ v1).setCell ⟨g,4,none⟩ v2).setCell ⟨g,5,none⟩ v3) B g a b c v1 v2 v3 {p with n:=p.n+1,bg:=upd p.bg p.n x1,en:=upd p.en p.n x2,md:=upd p.md p.n x3}∧
  (∀ v∈[v1,v2,v3],∀ x,v.ownBlock=some x->w8.heap.size<=x∨∃ v∈[d,e,m],v.ownBlock=some x)∧
  Kept (fun x=>x=g∨∃ v∈[a,b,c,d,e,m],v.ownBlock=some x) w8 (((W.setCell ⟨g,3,none⟩ v1).setCell ⟨g,4,none⟩ v2).setCell ⟨g,5,none⟩ v3):=by
 have hap:=h.ap;simp only[yg3,yfi,forall_eq_or_imp,yfk,false_imp_iff,implies_true,and_true,ygb] at hap;obtain⟨⟨ab,ac,ad,ae,am⟩,⟨bc,bd,be,bm⟩,⟨cd,ce,cm⟩,⟨de,dm⟩,em⟩:=hap;have gl:g<w8.heap.size:=za0 h.box;have g1:=zb6 h.rd h.box;have g2:=zb6 h.re h.box;have g3:=zb6 h.rm h.box;have hbox:W.heap[g]?=some (.cells #[a,b,c,d,e,m] 165 (0,0)):=(hr.keep.block g gl fun q=>by
  rcases q with q|q|q
  .exact g1 g q rfl
  .exact g2 g q rfl
  .exact g3 g q rfl).trans h.box
 have h1:=heap_setCell_same W g 3 _ _ v1 hbox;have h2:=heap_setCell_same _ g 4 _ _ v2 h1;have h3:=heap_setCell_same _ g 5 _ _ v3 h2;have kg:Kept (fun x=>x=g) W (((W.setCell ⟨g,3,none⟩ v1).setCell ⟨g,4,none⟩ v2).setCell ⟨g,5,none⟩ v3):=(((Kept.refl (fun x=>x=g) W).setCell (a:=⟨g,3,none⟩) (.inl rfl) v1).setCell (a:=⟨g,4,none⟩) (.inl rfl) v2).setCell (a:=⟨g,5,none⟩) (.inl rfl) v3;have old:∀ (v:Value) (n:Nat) (f:Nat->Nat),NRow w8 B v n f->Ap v d->Ap v e->Ap v m->NRow (((W.setCell ⟨g,3,none⟩ v1).setCell ⟨g,4,none⟩ v2).setCell ⟨g,5,none⟩ v3) B v n f:=fun v n f hv z1 z2 z3=>by
  refine NRow.kept (NRow.kept hv hr.keep fun x ex q=>?_) kg fun x ex q=>zb6 hv h.box x ex q
  rcases q with q|q|q
  .exact z1 x ex q
  .exact z2 x ex q
  .exact z3 x ex q
 have neg:∀ (v o:Value),(∀ x,v.ownBlock=some x->o.ownBlock=some x∨w8.heap.size<=x)->(∀ x,o.ownBlock=some x->x≠g)->∀ x,v.ownBlock=some x->¬ x=g:=fun v o hq ho x ex e=>by
  rcases hq x ex with q|q
  .exact ho x q e
  .omega
 have apn:∀ (u v o:Value) (n:Nat) (f:Nat->Nat),NRow w8 B u n f->Ap u o->(∀ x,v.ownBlock=some x->o.ownBlock=some x∨w8.heap.size<=x)->Ap u v:=fun u v o n f hu z hq x ex ev=>by
  rcases hq x ev with q|q
  .exact z x ex q
  .have:=(yf5 hu x ex).2;omega
 refine⟨⟨h.gB,h3,old a _ _ h.ra ad ae am,old b _ _ h.rb bd be bm,old c _ _ h.rc cd ce cm,hr.r1.kept kg (neg v1 d hr.q1 g1),hr.r2.kept kg (neg v2 e hr.q2 g2),hr.r3.kept kg (neg v3 m hr.q3 g3),?_⟩,?_,?_⟩
 .simp only[yg3,yfi,forall_eq_or_imp,yfk,false_imp_iff,implies_true,and_true,ygb];exact⟨⟨ab,ac,apn _ _ _ _ _ h.ra ad hr.q1,apn _ _ _ _ _ h.ra ae hr.q2,apn _ _ _ _ _ h.ra am hr.q3⟩,⟨bc,apn _ _ _ _ _ h.rb bd hr.q1,apn _ _ _ _ _ h.rb be hr.q2,apn _ _ _ _ _ h.rb bm hr.q3⟩,⟨apn _ _ _ _ _ h.rc cd hr.q1,apn _ _ _ _ _ h.rc ce hr.q2,apn _ _ _ _ _ h.rc cm hr.q3⟩,⟨hr.a12,hr.a13⟩,hr.a23⟩
 .intro v hv x ex;simp only[yfi,yfk,or_false] at hv;rcases hv with rfl|rfl|rfl
  .exact (hr.q1 x ex).elim (fun q => .inr ⟨d,by simp,q⟩) .inl
  .exact (hr.q2 x ex).elim (fun q => .inr ⟨e,by simp,q⟩) .inl
  .exact (hr.q3 x ex).elim (fun q => .inr ⟨m,by simp,q⟩) .inl
 .refine (hr.keep.mono fun x ex => .inl ?_).trans kg fun x ex => .inl (.inl ex)
  rcases ex with q|q|q
  .exact .inr ⟨d,by simp,q⟩
  .exact .inr ⟨e,by simp,q⟩
  .exact .inr ⟨m,by simp,q⟩
theorem Rows3.begin {B g:Nat} {w8:World} {a b c d e m:Value} {p:PT} (h:PM w8 B g a b c d e m p):Rows3 B w8 w8.drew d e m d e m p.n p.n p.n p.bg p.en p.md:=by
 have hap:=h.ap;simp only[yg3,yfi,forall_eq_or_imp,yfk,false_imp_iff,implies_true,and_true,ygb] at hap;obtain⟨_,_,_,⟨de,dm⟩,em⟩:=hap;exact⟨za6 h.rd (yf6 _ _).drew,za6 h.re (yf6 _ _).drew,za6 h.rm (yf6 _ _).drew,de,dm,em,(Kept.refl _ _).drew,fun x e => .inl e,fun x e => .inl e,fun x e => .inl e⟩
end
theorem zn1:∀ (E:List (Nat×Nat)) (i:Nat),endE E i<=E.length
 | E,i=>by
  have key:∀ i,endE E i=(E.filter fun e=>decide (e.1<=i)).length:=by
   intro i;induction i with
   | zero =>
    unfold endE cntE zbx;rw[yfr]
    congr 2
    funext e
    simp
   | succ i ih =>
    rw[endE,ih];unfold cntE zbx;rw[yfr];clear ih;induction E with
    | nil=>rfl
    | cons e E ihE =>
     simp only[List.filter_cons]
     by_cases c1:e.1<=i
     .rw[if_pos (by simpa using c1),if_neg yil,if_pos yil];simp only[yg7];omega
     .by_cases c2:e.1=i+1
      .rw[if_neg (by simpa using c1),if_pos (by simpa using c2),if_pos yil];simp only[yg7];omega
      .rw[if_neg (by simpa using c1),if_neg (by simpa using c2),if_neg yil];exact ihE
  rw[key i];exact yhg _ _
theorem zjx (δ:Nat->Nat->Nat) (C:Nat):∀ S,(zdu δ C S).length=S*C
 | 0=>by simp[zdu]
 | S+1=>by
  rw[zdu,yfd,zjx δ C S,rowE,yfr,List.length_range,yha]
def RdL (w:World) (b:Nat) (A:Option Addr) (l:List Nat):Prop:=b<w.heap.size∧∀ (j:Nat) (x:Nat),l[j]?=some x->∃ off,A=some ⟨b,off,none⟩∧w.cell? ⟨b,off+j,none⟩=some (.int .i64 (x:Int))
theorem RdL.block' {w w':World} {b:Nat} {A:Option Addr} {l:List Nat} (h:RdL w b A l) (hb:w'.heap[b]?=w.heap[b]?):RdL w' b A l:=by
 refine⟨?_,fun j x hj=>?_⟩
 .have h1:w.heap[b]?=some (w.heap[b]'h.1):=Array.getElem?_eq_getElem h.1;rw[h1] at hb;exact za0 hb
 .obtain⟨off,e,hc⟩:=h.2 j x hj;exact⟨off,e,(yfp (w:=w) (a:=⟨b,off+j,none⟩) hb).trans hc⟩
def zif (C:Nat) (vb vf:Value):Value := .agg #[.int .i64 (C:Int),vb,vf]
structure WM (w:World) (B:Nat) (vb vf:Value) (E:List (Nat×Nat)) (M:Nat) (f:Nat->Nat):Prop where
 rb:NRow w B vb (M+1) (begE E)
 rf:NRow w B vf M f
 fs:∀ i,(List.range (cntE E i)).map (fun j=>f (begE E i+j))=(zbx E i).reverse
 len:E.length=M
theorem WM.kept {w w':World} {B M:Nat} {vb vf:Value} {E:List (Nat×Nat)} {f:Nat->Nat} {Q:Nat->Prop} (h:WM w B vb vf E M f) (hk:Kept Q w w') (h1:∀ b,vb.ownBlock=some b->¬ Q b) (h2:∀ b,vf.ownBlock=some b->¬ Q b):WM w' B vb vf E M f:=
 ⟨h.rb.kept hk h1,h.rf.kept hk h2,h.fs,h.len⟩
theorem zq0 (w:World) (C t c:Nat) (vb vf:Value) (A1 A2:Option Addr) (n1 n2 c1 c2:Nat) (e1:vb = .slice A1 n1 c1) (e2:vf = .slice A2 n2 c2) (h:t*C+c<=1000000000):
 Calls Tryd.prog 79 #[zif C vb vf,.int .i64 (t:Int),.int .i64 (c:Int)] w fun e w'=>e = .returned (.int .i64 ((t*C+c:Nat):Int))∧Below w.heap.size w w':=by
 subst e1 e2;unfold zif;have hm:(t:Int)*(C:Int)<=1000000000∧0<=(t:Int)*(C:Int):=by
  have:((t*C:Nat):Int)=(t:Int)*(C:Int):=yib t C;omega
 have h1:IntKind.i64.wrap ((t:Int)*(C:Int))=(t:Int)*(C:Int):=IntWalk.i64_in _ yie;have hs:((t*C+c:Nat):Int)=(t:Int)*(C:Int)+(c:Int):=(by rw[Int.natCast_add,yib]);have h2:IntKind.i64.wrap ((t:Int)*(C:Int)+(c:Int))=((t*C+c:Nat):Int):=(by rw[←hs];exact IntWalk.i64_in _ yie);have HS:=Zh hs;clear hs hm;go_enter Tryd.func79,Tryd.ntmps79;go_wp2;go_ret;exact⟨rfl,(yf6 _ _).alloc (yez _) _⟩
theorem NRow.cap {w:World} {B n b c:Nat} {f:Nat->Nat} (h:NRow w B (.slice (some ⟨b,0,none⟩) n c) n f):n<=c∧c<=maxLen:=by
 rcases h.2 with ⟨e,_⟩|⟨g',cap,cur,e,_,_,h1,h2,_⟩
 .cases e
 .injection e with e1 e2 e3
  rw[←e3] at h1 h2;exact⟨h1,h2⟩
theorem to_p {w:World} {B C t c M:Nat} {vb vf:Value} {E:List (Nat×Nat)} {f:Nat->Nat} (h:WM w B vb vf E M f) (hi:t*C+c<M) (hM:M<=100000000):
 Calls Tryd.prog 81 #[zif C vb vf,.int .i64 (t:Int),.int .i64 (c:Int)] w fun e w'=>Below w.heap.size w w'∧∃ A cp bf,e = .returned (.slice A (zbx E (t*C+c)).reverse.length cp)∧vf.ownBlock=some bf∧RdL w' bf A (zbx E (t*C+c)).reverse:=by
 obtain⟨i,hii⟩:∃ i,t*C+c=i:=⟨_,rfl⟩;rw[hii] at hi ⊢;obtain⟨bb,cb,eb,ob,z0⟩:=h.rb.at (show i<M+1 by omega);obtain⟨bf,cf,ef,of,_⟩:=h.rf.at hi;subst eb ef;have z1:=(yf7 h.rb (i+1) yie).trans (zat (show i+1<M+1 by omega));have hcb:=h.rb.cap;have hcf:=h.rf.cap;unfold maxLen at hcb hcf;have hE:=ze2 E i;have hle:=zn1 E i;rw[h.len] at hle;rw[hE.2] at z1;change w.cell? ⟨bb,i+1,none⟩=some (.int .i64 ((endE E i:Nat):Int)) at z1;obtain⟨b0,hb0⟩:∃ b0,begE E i=b0:=⟨_,rfl⟩;obtain⟨b1,hb1⟩:∃ b1,endE E i=b1:=⟨_,rfl⟩;rw[hb0] at z0;rw[hb1] at z1;rw[hb0,hb1] at hE;rw[hb1] at hle;have hcn:cntE E i=b1-b0:=yie;have hln:(zbx E i).reverse.length=b1-b0:=(by rw[List.length_reverse];exact hcn);have hfs:=h.fs i;rw[hcn,hb0] at hfs;have HW:=Zh h;have HB0:=Zh hb0;have HLN:=Zh hln;have HFS:=Zh hfs;have hbf:bf<w.heap.size:=by
  rcases h.rf.2 with ⟨e,_⟩|⟨g',cap,cur,e,_,hg,_⟩
  .cases e
  .injection e with e1 e2 e3
   injection e1 with e1
   injection e1 with e1
   rw[e1];exact za0 hg
 have HBF:=Zh hbf;have hx:=heap_alloc_new w (.cells #[.int .i64 (C:Int),.slice (some ⟨bb,0,none⟩) (M+1) cb,.slice (some ⟨bf,0,none⟩) M cf] 160);have HX:=Zh hx;have hix:=fun W=>zq0 W C t c (.slice (some ⟨bb,0,none⟩) (M+1) cb) (.slice (some ⟨bf,0,none⟩) M cf) _ _ _ _ _ _ rfl rfl yie
 rw[hii] at hix;unfold zif at hix ⊢;have HIX:=Zh hix;have i1:(i:Int)<((M+1:Nat):Int):=yie;have i0:(0:Int)<=(i:Int):=yie;have i2:(i:Int)+1<((M+1:Nat):Int):=yie;have i3:(i:Int)<=100000000:=yie;have j0:(0:Int)<=(b0:Int):=yie;have j1:(b0:Int)<=(b1:Int):=yie;have j2:(b1:Int)<=(cf:Int):=yie;have j3:(b1:Int)<=(M:Int):=yie;rw[hln];have HZ0:=Zh z0;have HZ1:=Zh z1;have HJ:=Zh (And.intro hcf hle);clear h hb0 hb1 hE hle hcn hln hfs hii hi hbf hx hix hcb hcf z0 z1 ob of
 by_cases hcc:cf=b0
 .subst hcc;go_enter Tryd.func81,Tryd.ntmps81;go_upto_region 2 with (first
   | (go_at_call 79;(with_reducible refine (HIX.o _).mono ?_);rintro e w1 ⟨rfl,b1'⟩;have hx1:=(b1'.block w.heap.size yii).trans HX.o;have q0:w1.cell? ⟨w.heap.size,0,none⟩=some (.int .i64 (C:Int)):=cell_of_row w1 w.heap.size 0 _ _ (0,0) hx1;have q1:w1.cell? ⟨w.heap.size,1,none⟩=some (.slice (some ⟨bb,0,none⟩) (M+1) cb):=cell_of_row w1 w.heap.size 1 _ _ (0,0) hx1;have q2:w1.cell? ⟨w.heap.size,2,none⟩=some (.slice (some ⟨bf,0,none⟩) M cf):=cell_of_row w1 w.heap.size 2 _ _ (0,0) hx1;have B1:=Zh ((zse (yf6 _ _) rfl _).trans (b1'.mono yii));have z0:=za4 HZ0.o B1.o;have z1:=za4 HZ1.o B1.o;clear b1' hx1)
   | fail)
  go_quiet (fail);go_wp2;go_ret;refine⟨zbg B1.o _,_,_,_,rfl,rfl,yff HBF.o B1.o.size,fun j x hj=>?_⟩;have h0:b1-cf=0:=yie;rw[←HFS.o,h0] at hj;simp at hj
 .have hcc2:¬ (cf:Int)=(b0:Int):=yie;go_enter Tryd.func81,Tryd.ntmps81;go_upto_region 2 with (first
   | (go_at_call 79;(with_reducible refine (HIX.o _).mono ?_);rintro e w1 ⟨rfl,b1'⟩;have hx1:=(b1'.block w.heap.size yii).trans HX.o;have q0:w1.cell? ⟨w.heap.size,0,none⟩=some (.int .i64 (C:Int)):=cell_of_row w1 w.heap.size 0 _ _ (0,0) hx1;have q1:w1.cell? ⟨w.heap.size,1,none⟩=some (.slice (some ⟨bb,0,none⟩) (M+1) cb):=cell_of_row w1 w.heap.size 1 _ _ (0,0) hx1;have q2:w1.cell? ⟨w.heap.size,2,none⟩=some (.slice (some ⟨bf,0,none⟩) M cf):=cell_of_row w1 w.heap.size 2 _ _ (0,0) hx1;have B1:=Zh ((zse (yf6 _ _) rfl _).trans (b1'.mono yii));have z0:=za4 HZ0.o B1.o;have z1:=za4 HZ1.o B1.o;clear b1' hx1)
   | fail)
  go_quiet (fail);go_wp2;go_ret;refine⟨zbg B1.o _,_,_,_,rfl,rfl,yff HBF.o B1.o.size,fun j x hj=>?_⟩;rw[←HFS.o] at hj;have hjn:j<b1-b0:=by
   have:=(yf4.1 hj).1
   simpa using this
  rw[yfs,yhe hjn] at hj;injection hj with hj
  subst hj;refine⟨b0,?_,?_⟩
  .rfl
  .have hlt:b0+j<M:=(by have:=HJ.o.2;omega);have:=(yf7 HW.o.rf (b0+j) yie).trans (zat hlt);exact za4 this (zbg B1.o _)
theorem zzn {w:World} {b off cap:Nat} {l:List Nat} (h:∀ (j:Nat) (x:Nat),l[j]?=some x->w.cell? ⟨b,off+j,none⟩=some (.int .i64 (x:Int))) (hl:l.length<=100000):
 Calls Tryd.prog 80 #[.slice (some ⟨b,off,none⟩) l.length cap] w fun e w'=>∃ v',e = .returned v'∧Ints w' w.heap.size v' (ns l)∧Below w.heap.size w w':=by
 obtain⟨i0,hi,hz0,hz1,hz2⟩:=info_parts Tryd.infoInt;have he:=Lib.run_eql_slice_some_nil (P:=Tryd.prog) w ⟨b,off,none⟩ l.length cap Tryd.underlying68;have hown:(w.alloc (.cells #[] 3)).ownsRow w.heap.size 3 1 (.slice (some ⟨w.heap.size,0,none⟩) 0 0) 0 []:=yhz w #[] 0 (yez _) yij rfl;have hnews:∀ j u,((ns l).map (Value.int .i64))[j]?=some u->(w.alloc (.cells #[] 3)).cell? ((⟨b,off,none⟩:Addr).add j)=some u:=by
  intro j u hu;rw[yfs] at hu;unfold ns at hu;rw[yfs] at hu;cases hx:l[j]? with
  | none=>rw[hx] at hu;cases hu
  | some x =>
   rw[hx] at hu;injection hu with hu
   subst hu;rw[Addr.add_lit];exact za4 (h j x hx) ((yf6 _ _).alloc (yez _) _)
 have hlen:(ns l).length=l.length:=zaj l;obtain⟨L,hL⟩:∃ L,l.length=L:=⟨_,rfl⟩;have HO:=Zh hown;have HN:=Zh hnews;have HL:=Zh hL;have HLN:=Zh hlen;rw[hL] at he hl ⊢;clear hown hnews h hL hlen;go_enter Tryd.func80,Tryd.ntmps80;go_wp2_with (at_builtin;refine wpList_append_own _ rfl _ _ 68 rfl w.heap.size 3 i0 _ 1 8 Tryd.underlying68 hi hz0 hz1 hz2 rfl yij _ _ _ rfl HO.o ⟨b,off,none⟩ L cap ((ns l).map (Value.int .i64)) rfl (by rw[yfr,HLN.o,HL.o,ygl]) HN.o (zrs (ns l)) ?c3 ?c4 ?c5 ?_)
 case c3=>unfold maxLen;omega
 case c4=>omega
 case c5=>simp
 .intro v' w2 hown' hgrow _;have HO2:=Zh hown';have hB2:Below w.heap.size w w2:=((yf6 _ _).alloc (yez _) _).grown hgrow yii (fun j e=>((HO.o).lt j e).1);have HB2:=Zh hB2;clear hgrow hown' hB2;go_wp2;go_ret;refine⟨_,rfl,?_,HB2.o⟩;have h2:=HO2.o;unfold Ints;rw[HLN.o,HL.o]
  simpa using h2
theorem PM.setD {w:World} {B g bd cd G v:Nat} {a b c e m:Value} {p:PT} (h:PM w B g a b c (.slice (some ⟨bd,0,none⟩) p.n cd) e m p):PM (w.setCell ⟨bd,G,none⟩ (.int .i64 (v:Int))) B g a b c (.slice (some ⟨bd,0,none⟩) p.n cd) e m {p with bg:=upd p.bg G v}:=by
 have hap:=h.ap;simp only[yg3,yfi,forall_eq_or_imp,yfk,false_imp_iff,implies_true,and_true,ygb,Ap] at hap;obtain⟨⟨_,_,x3,_,_⟩,⟨_,y3,_,_⟩,⟨z3,_,_⟩,⟨u4,u5⟩,_⟩:=hap;have k1:Kept (fun x=>x=bd) w (w.setCell ⟨bd,G,none⟩ (.int .i64 (v:Int))):=(Kept.refl (fun x=>x=bd) w).setCell (a:=⟨bd,G,none⟩) (.inl rfl) _;have g1:=zb6 h.rd h.box bd rfl;have oth:∀ (u:Value) (n:Nat) (f:Nat->Nat),NRow w B u n f->(∀ x,u.ownBlock=some x->(Value.slice (some ⟨bd,0,none⟩) p.n cd).ownBlock≠some x)->NRow (w.setCell ⟨bd,G,none⟩ (.int .i64 (v:Int))) B u n f:=fun u n f hr z=>hr.kept k1 fun x e1 e2=>z x e1 (by rw[e2];rfl)
 exact⟨h.gB,(yf9 _ _ _ _ (fun e'=>g1 e'.symm)).trans h.box,oth _ _ _ h.ra x3,oth _ _ _ h.rb y3,oth _ _ _ h.rc z3,h.rd.set G v,oth _ _ _ h.re fun x e1 e2=>u4 x e2 e1,oth _ _ _ h.rm fun x e1 e2=>u5 x e2 e1,h.ap⟩
theorem PM.setE {w:World} {B g be ce G v:Nat} {a b c d m:Value} {p:PT} (h:PM w B g a b c d (.slice (some ⟨be,0,none⟩) p.n ce) m p):PM (w.setCell ⟨be,G,none⟩ (.int .i64 (v:Int))) B g a b c d (.slice (some ⟨be,0,none⟩) p.n ce) m {p with en:=upd p.en G v}:=by
 have hap:=h.ap;simp only[yg3,yfi,forall_eq_or_imp,yfk,false_imp_iff,implies_true,and_true,ygb,Ap] at hap;obtain⟨⟨_,_,_,x4,_⟩,⟨_,_,y4,_⟩,⟨_,z4,_⟩,⟨u4,_⟩,t5⟩:=hap;have k1:Kept (fun x=>x=be) w (w.setCell ⟨be,G,none⟩ (.int .i64 (v:Int))):=(Kept.refl (fun x=>x=be) w).setCell (a:=⟨be,G,none⟩) (.inl rfl) _;have g1:=zb6 h.re h.box be rfl;have oth:∀ (u:Value) (n:Nat) (f:Nat->Nat),NRow w B u n f->(∀ x,u.ownBlock=some x->(Value.slice (some ⟨be,0,none⟩) p.n ce).ownBlock≠some x)->NRow (w.setCell ⟨be,G,none⟩ (.int .i64 (v:Int))) B u n f:=fun u n f hr z=>hr.kept k1 fun x e1 e2=>z x e1 (by rw[e2];rfl)
 exact⟨h.gB,(yf9 _ _ _ _ (fun e'=>g1 e'.symm)).trans h.box,oth _ _ _ h.ra x4,oth _ _ _ h.rb y4,oth _ _ _ h.rc z4,oth _ _ _ h.rd u4,h.re.set G v,oth _ _ _ h.rm fun x e1 e2=>t5 x e2 e1,h.ap⟩
theorem PM.setC {w:World} {B g bc cc s v:Nat} {a b d e m:Value} {p:PT} (h:PM w B g a b (.slice (some ⟨bc,0,none⟩) p.N cc) d e m p):PM (w.setCell ⟨bc,s,none⟩ (.int .i64 (v:Int))) B g a b (.slice (some ⟨bc,0,none⟩) p.N cc) d e m {p with grp:=upd p.grp s v}:=by
 have hap:=h.ap;simp only[yg3,yfi,forall_eq_or_imp,yfk,false_imp_iff,implies_true,and_true,ygb,Ap] at hap;obtain⟨⟨_,x2,_,_,_⟩,⟨y2,_,_,_⟩,⟨z3,z4,z5⟩,_⟩:=hap;have k1:Kept (fun x=>x=bc) w (w.setCell ⟨bc,s,none⟩ (.int .i64 (v:Int))):=(Kept.refl (fun x=>x=bc) w).setCell (a:=⟨bc,s,none⟩) (.inl rfl) _;have g1:=zb6 h.rc h.box bc rfl;have oth:∀ (u:Value) (n:Nat) (f:Nat->Nat),NRow w B u n f->(∀ x,u.ownBlock=some x->(Value.slice (some ⟨bc,0,none⟩) p.N cc).ownBlock≠some x)->NRow (w.setCell ⟨bc,s,none⟩ (.int .i64 (v:Int))) B u n f:=fun u n f hr z=>hr.kept k1 fun x e1 e2=>z x e1 (by rw[e2];rfl)
 exact⟨h.gB,(yf9 _ _ _ _ (fun e'=>g1 e'.symm)).trans h.box,oth _ _ _ h.ra x2,oth _ _ _ h.rb y2,h.rc.set s v,oth _ _ _ h.rd fun x e1 e2=>z3 x e2 e1,oth _ _ _ h.re fun x e1 e2=>z4 x e2 e1,oth _ _ _ h.rm fun x e1 e2=>z5 x e2 e1,h.ap⟩
theorem zrv {w:World} {B g:Nat} {a b c d e m:Value} {p:PT} (h:PM w B g a b c d e m p):Calls Tryd.prog 67 #[.pointer (some ⟨g,0,none⟩)] w fun e' w'=>e' = .returned (.int .i64 (p.n:Int))∧w'=w:=by
 have c3:w.cell? ⟨g,3,none⟩=some d:=cell_of_row w g 3 _ _ (0,0) h.box;obtain⟨A,cd,hd⟩:∃ A c,d = .slice A p.n c:=by
  rcases h.rd.2 with ⟨e,e0⟩|⟨g,cap,cur,e,_⟩
  .exact⟨_,_,by rw[e,e0]⟩
  .exact⟨_,_,e⟩
 subst hd;generalize p.n=n at *;clear h;go_enter Tryd.func67,Tryd.ntmps67;go_wp2;go_ret;exact⟨rfl,rfl⟩
end Go.Proofs.YtipfgpfplakhiaaDoor
