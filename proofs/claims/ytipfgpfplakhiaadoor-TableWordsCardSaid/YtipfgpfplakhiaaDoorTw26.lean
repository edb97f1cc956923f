import Derived.Test.YtipfgpfplakhiaaDoorTw23
import Derived.Test.YtipfgpfplakhiaaDoorTw1
set_option linter.unusedVariables false
set_option linter.unusedSimpArgs false
set_option maxRecDepth 20000
set_option maxHeartbeats 4000000
namespace Go.Proofs.YtipfgpfplakhiaaDoor
open Go Go.RowKit
def znb (w:World) (B g:Nat) (a b c d e m:Value) (p:PT) (G:Nat) (en:Ending) (w':World):Prop:=
 en = .returned (.tuple #[])∧∃ d' e2 m',PM w' B g a b c d' e2 m' (zbt p G)∧Kept (fun x=>x=g∨∃ v∈[a,b,c,d,e,m],v.ownBlock=some x) w w'∧∀ v∈[d',e2,m'],∀ x,v.ownBlock=some x->w.heap.size<=x∨∃ v∈[d,e,m],v.ownBlock=some x
theorem ybw {w:World} {B g:Nat} {a b c d e m:Value} {p:PT} {G:Nat} (h:PM w B g a b c d e m p) (hp:PInv p) (hG:G<p.n) (hmz:p.md G≠0) (hN:p.N<=100000) (hn:p.n<=99999):
 Calls Tryd.prog 83 #[.pointer (some ⟨g,0,none⟩),.int .i64 (G:Int)] w (znb w B g a b c d e m p G):=by
 obtain⟨bd,cd,hed,_,hd0⟩:=h.rd.at hG;obtain⟨be,ce,hee,_,he0⟩:=h.re.at hG;obtain⟨bm,cm,hem,_,hm0⟩:=h.rm.at hG;subst hed hee hem;have hne:=hp.ne G hG;have hmd:=hp.md G hG;obtain⟨E,hE⟩:∃ E,p.bg G=E:=⟨_,rfl⟩;obtain⟨F,hF⟩:∃ F,p.en G=F:=⟨_,rfl⟩;obtain⟨D,hD⟩:∃ D,p.md G=D:=⟨_,rfl⟩;rw[hE,hF] at hne;rw[hE,hD,hF] at hmd;rw[hE] at hd0;rw[hF] at he0;rw[hD] at hm0;have r3:w.cell? ⟨g,3,none⟩=some (.slice (some ⟨bd,0,none⟩) p.n cd):=cell_of_row w g 3 _ _ (0,0) h.box;have r4:w.cell? ⟨g,4,none⟩=some (.slice (some ⟨be,0,none⟩) p.n ce):=cell_of_row w g 4 _ _ (0,0) h.box;have r5:w.cell? ⟨g,5,none⟩=some (.slice (some ⟨bm,0,none⟩) p.n cm):=cell_of_row w g 5 _ _ (0,0) h.box;have fm:w.frozen? ⟨bm,G,none⟩=false:=h.rm.frozen G;have HP:=Zh h;have HPI:=Zh hp;have HEE:=Zh hE;have HFF:=Zh hF;have HDD:=Zh hD;rw[hD] at hmz;have HDZ:=Zh hmz;have HNE:=Zh hne;have HMD:=Zh hmd;have HGN:=Zh hG;obtain⟨n,hn'⟩:∃ n,p.n=n:=⟨_,rfl⟩;have Hnn:=Zh hn';rw[hn'] at r3 r4 r5 hG hn;have i0:(0:Int)<=(G:Int):=yie;have i1:(G:Int)<(n:Int):=yie;have iT:(E:Int)+(D:Int)<=100000:=yie;have hwT:IntKind.i64.wrap ((E:Int)+(D:Int))=(E:Int)+(D:Int):=IntWalk.i64_in _ yie;have HN1:=Zh hN;have HN2:=Zh hn;clear h hp hE hF hD hne hmd hG hn' hN hn hmz;go_enter Tryd.func83,Tryd.ntmps83;go_wp2;go_quiet (fail);have BD:Below w.heap.size w (w.drewN nq):=zbg (yf6 _ _) nq;have HPD:=Zh (HP.o.kept (Kept.of_below (fun _=>False) BD) (fun q=>q) (fun _ _ _ _ q=>q));have HKD:=Zh (Kept.of_below (fun _=>False) BD);generalize w.drewN nq=wd at *;clear BD hd0 he0 hm0 r3 r4 r5 fm;obtain⟨bd',cd',ed,_,hd0⟩:=HPD.o.rd.at HGN.o;obtain⟨be',ce',ee,_,he0⟩:=HPD.o.re.at HGN.o;obtain⟨bm',cm',em,_,hm0⟩:=HPD.o.rm.at HGN.o;clear ed ee em hd0 he0 hm0;have r3:wd.cell? ⟨g,3,none⟩=some (.slice (some ⟨bd,0,none⟩) p.n cd):=cell_of_row wd g 3 _ _ (0,0) HPD.o.box;have r4:wd.cell? ⟨g,4,none⟩=some (.slice (some ⟨be,0,none⟩) p.n ce):=cell_of_row wd g 4 _ _ (0,0) HPD.o.box;have r5:wd.cell? ⟨g,5,none⟩=some (.slice (some ⟨bm,0,none⟩) p.n cm):=cell_of_row wd g 5 _ _ (0,0) HPD.o.box;have HP1:=Zh (HPD.o.setM (G:=G) (v:=0));have HK1:=Zh ((HKD.o.mono fun x ex=>ex.elim:Kept (fun x=>x=g∨∃ v∈[a,b,c,(.slice (some ⟨bd,0,none⟩) p.n cd),(.slice (some ⟨be,0,none⟩) p.n ce),(.slice (some ⟨bm,0,none⟩) p.n cm)],v.ownBlock=some x) w wd).setCell (a:=⟨bm,G,none⟩) (.inl (.inr ⟨.slice (some ⟨bm,0,none⟩) p.n cm,by simp,rfl⟩)) (.int .i64 ((0:Nat):Int)));have zm:∃ v,wd.cell? ⟨bm,G,none⟩=some v:=by
  have:=yf7 HPD.o.rm G (by rw[ygl];exact HGN.o);exact⟨_,this.trans (zat HGN.o)⟩
 obtain⟨vm,zm⟩:=zm;have fm:wd.frozen? ⟨bm,G,none⟩=false:=HPD.o.rm.frozen G;rw[Hnn.o] at r3 r4 r5;change Hid (PM (wd.setCell ⟨bm,G,none⟩ (.int .i64 0)) _ _ _ _ _ _ _ _ _) at HP1;change Hid (Kept _ _ (wd.setCell ⟨bm,G,none⟩ (.int .i64 0))) at HK1
 by_cases hTF:E+D=F
 .have hq:((E:Int)+(D:Int)==(F:Int))=true:=yil;go_wp2;exact⟨rfl,.tuple #[],by simp[results,Tryd.results83],rfl,_,_,_,by
   have h1:=HP1.o;rw[show zbt p G={p with md:=upd p.md G 0} by unfold zbt;rw[HEE.o,HDD.o,HFF.o,if_pos hTF]];exact h1,HK1.o,fun v hv x ex => .inr ⟨v,hv,ex⟩⟩
 .have hq:((E:Int)+(D:Int)==(F:Int))=false:=yil;have HTF:=Zh hTF;have hlt:E+D<F:=(by have:=HMD.o;omega);have hF9:F<=100000:=(by have:=HNE.o.2;have:=HN1.o;omega);have hwa:IntKind.i64.wrap ((E:Int)+(D:Int)-(E:Int))=(D:Int):=(by rw[show (E:Int)+(D:Int)-(E:Int)=(D:Int) by omega];exact IntWalk.i64_in _ yie);have hwb:IntKind.i64.wrap ((F:Int)-((E:Int)+(D:Int)))=((F-(E+D):Nat):Int):=(by rw[show (F:Int)-((E:Int)+(D:Int))=((F-(E+D):Nat):Int) by omega];exact IntWalk.i64_in _ yie);obtain⟨T,hT⟩:∃ T,E+D=T:=⟨_,rfl⟩;have hTi:(E:Int)+(D:Int)=(T:Int):=yie;rw[hTi] at hwa hwb hwT iT hq;simp only[hTi];obtain⟨K,hK⟩:∃ K,F-(E+D)=K:=⟨_,rfl⟩;rw[hK] at hwb;have HTT:=Zh hT;have HKK:=Zh hK;rw[hT] at hlt;have HLT:=Zh (And.intro hlt hF9);clear hTF hT hTi hK hF9 hlt;go_upto_if 53 with fail
  go_cut [4,6] from 53 to 69 (fun s4 s6 wx=>∃ (lo hi:Nat) (bg1 en1:Nat->Nat),s4 = .int .i64 (lo:Int)∧s6 = .int .i64 (hi:Int)∧lo<hi∧hi<=p.N∧PM wx B g a b c (.slice (some ⟨bd,0,none⟩) p.n cd) (.slice (some ⟨be,0,none⟩) p.n ce) (.slice (some ⟨bm,0,none⟩) p.n cm) {p with md:=upd p.md G 0,bg:=bg1,en:=en1}∧
   Kept (fun x=>x=g∨∃ v∈[a,b,c,(.slice (some ⟨bd,0,none⟩) p.n cd),(.slice (some ⟨be,0,none⟩) p.n ce),(.slice (some ⟨bm,0,none⟩) p.n cm)],v.ownBlock=some x) w wx∧
   zbt p G={p with n:=p.n+1,bg:=upd bg1 p.n lo,en:=upd en1 p.n hi,md:=upd (upd p.md G 0) p.n 0,grp:=relab p.st p.n lo (hi-lo) p.grp})
  case first =>
   have y3:(wd.setCell ⟨bm,G,none⟩ (.int .i64 0)).cell? ⟨g,3,none⟩=some (.slice (some ⟨bd,0,none⟩) p.n cd):=cell_of_row _ g 3 _ _ (0,0) HP1.o.box;have y4:(wd.setCell ⟨bm,G,none⟩ (.int .i64 0)).cell? ⟨g,4,none⟩=some (.slice (some ⟨be,0,none⟩) p.n ce):=cell_of_row _ g 4 _ _ (0,0) HP1.o.box;have fd:(wd.setCell ⟨bm,G,none⟩ (.int .i64 0)).frozen? ⟨bd,G,none⟩=false:=HP1.o.rd.frozen G;have fe:(wd.setCell ⟨bm,G,none⟩ (.int .i64 0)).frozen? ⟨be,G,none⟩=false:=HP1.o.re.frozen G;have zd:∃ v,(wd.setCell ⟨bm,G,none⟩ (.int .i64 0)).cell? ⟨bd,G,none⟩=some v:=⟨_,(yf7 HP1.o.rd G (by rw[ygl];exact HGN.o)).trans (zat HGN.o)⟩;have ze:∃ v,(wd.setCell ⟨bm,G,none⟩ (.int .i64 0)).cell? ⟨be,G,none⟩=some v:=⟨_,(yf7 HP1.o.re G (by rw[ygl];exact HGN.o)).trans (zat HGN.o)⟩;obtain⟨vd,zd⟩:=zd;obtain⟨ve,ze⟩:=ze;rw[Hnn.o] at y3 y4;have hneb:=HNE.o;have hlt:=HLT.o.1;clear r3 r4 r5 zm fm;generalize wd.setCell ⟨bm,G,none⟩ (.int .i64 0)=w1 at *
   by_cases hDK:D<=K
   .have h53:(D:Int)<=(K:Int):=yie;have HDK:=Zh hDK;clear hDK;have hk1:=HK1.o.setCell (a:=⟨bd,G,none⟩) (.inl (.inr ⟨.slice (some ⟨bd,0,none⟩) p.n cd,by simp,rfl⟩)) (.int .i64 (T:Int));have HKA:=Zh hk1;clear hk1;go_wp2;go_meet;refine⟨E,T,upd p.bg G T,p.en,rfl,rfl,?_,by omega,PM.setD (p:={p with md:=upd p.md G 0}) (G:=G) (v:=T) HP1.o,HKA.o,?_⟩
    .have:=HTT.o;have:D≠0:=fun e=>by have:=HDZ.o;omega
     omega
    .unfold zbt;rw[HEE.o,HDD.o,HFF.o,if_neg HTF.o,HTT.o,if_pos (by have:=HKK.o;have:=HTT.o;have:=HDK.o;omega),show T-E=D by have:=HTT.o;omega]
   .have h53:¬ (D:Int)<=(K:Int):=yie;have HDK:=Zh hDK;clear hDK;have hk1:=HK1.o.setCell (a:=⟨be,G,none⟩) (.inl (.inr ⟨.slice (some ⟨be,0,none⟩) p.n ce,by simp,rfl⟩)) (.int .i64 (T:Int));have HKA:=Zh hk1;clear hk1;go_wp2;go_meet;refine⟨T,F,p.bg,upd p.en G T,rfl,rfl,by omega,by omega,PM.setE (p:={p with md:=upd p.md G 0}) (G:=G) (v:=T) HP1.o,HKA.o,?_⟩;unfold zbt;rw[HEE.o,HDD.o,HFF.o,if_neg HTF.o,HTT.o,if_neg (by have:=HKK.o;have:=HTT.o;have:=HDK.o;omega)]
  case rest =>
  obtain⟨lo,hi,bg1,en1,rfl,rfl,hlh,hhN,hpm,hkc,hpf⟩:=hcut;have HPF:=Zh hpf;have HKC:=Zh hkc;have HPM:=Zh hpm;have HLH:=Zh (And.intro hlh hhN);obtain⟨ba,ca,hea,_,_⟩:=hpm.ra.at (show lo<p.N by omega);obtain⟨bc,cc,hec,_,_⟩:=hpm.rc.at (show lo<p.N by omega);subst hea hec;have y0:wc.cell? ⟨g,0,none⟩=some (.slice (some ⟨ba,0,none⟩) p.N ca):=cell_of_row _ g 0 _ _ (0,0) hpm.box;have hcap:p.N<=ca∧ca<=maxLen:=by
   rcases hpm.ra.2 with ⟨e,_⟩|⟨g',cap,cur,e,_,_,h1,h2,_⟩
   .cases e
   .injection e with e1 e2 e3
    rw[←e3] at h1 h2;exact⟨h1,h2⟩
  unfold maxLen at hcap;have HCC:=Zh hcap;have hlc:¬ ca=lo:=yie;have j0:(0:Int)<=(lo:Int):=yie;have j1:(lo:Int)<=(hi:Int):=yie;have j2:(hi:Int)<=(ca:Int):=yie;have j3:(hi:Int)<=(p.N:Int):=yie;clear hpf hkc hpm hcap r3 r4 r5 zm fm;go_upto_region 9 with fail
  clear y0;go_loopg [78] (hi-lo) (fun mm s wr=>∃ i:Nat,s = .int .i64 (i:Int)∧i<=hi-lo∧mm=hi-lo-i∧PM wr B g (.slice (some ⟨ba,0,none⟩) p.N ca) b (.slice (some ⟨bc,0,none⟩) p.N cc) (.slice (some ⟨bd,0,none⟩) p.n cd) (.slice (some ⟨be,0,none⟩) p.n ce) (.slice (some ⟨bm,0,none⟩) p.n cm) {p with md:=upd p.md G 0,bg:=bg1,en:=en1,grp:=relab p.st p.n lo i p.grp}∧Kept (fun x=>x=g∨∃ v∈[(.slice (some ⟨ba,0,none⟩) p.N ca),b,(.slice (some ⟨bc,0,none⟩) p.N cc),(.slice (some ⟨bd,0,none⟩) p.n cd),(.slice (some ⟨be,0,none⟩) p.n ce),(.slice (some ⟨bm,0,none⟩) p.n cm)],v.ownBlock=some x) w wr)
  case atStart=>exact⟨0,by first | rfl | trivial,yf8 _,by first | rfl | trivial,HPM.o,HKC.o⟩
  case round =>
   obtain⟨i,rfl,hi1,hmm,hpm,hkc⟩:=hrel;have HM:=Zh hmm;have HPM2:=Zh hpm;have HKC2:=Zh hkc;clear hmm
   by_cases hik:i<hi-lo
   .have hst:lo+i<p.N:=yie;have za:=(yf7 hpm.ra (lo+i) (by rw[ygl];exact hst)).trans (zat hst);obtain⟨X,hX⟩:∃ X,p.st (lo+i)=X:=⟨_,rfl⟩;have hXN:X<p.N:=(by rw[←hX];exact HPI.o.stN _ hst);change wr.cell? ⟨ba,lo+i,none⟩=some (.int .i64 ((p.st (lo+i):Nat):Int)) at za;rw[hX] at za;have HXX:=Zh hX;have y2:wr.cell? ⟨g,2,none⟩=some (.slice (some ⟨bc,0,none⟩) p.N cc):=cell_of_row _ g 2 _ _ (0,0) hpm.box;have zc:∃ v,wr.cell? ⟨bc,X,none⟩=some v:=⟨_,(yf7 hpm.rc X (by rw[ygl];exact hXN)).trans (zat hXN)⟩;obtain⟨vc,zc⟩:=zc;have fc:wr.frozen? ⟨bc,X,none⟩=false:=hpm.rc.frozen X;have GP:=Zh (zrv (hpm.kept (Kept.of_below (fun _=>False) (yf6 _ _).drew) (fun q=>q) (fun _ _ _ _ q=>q)));have k0:(0:Int)<=(i:Int):=yie;have k1:(i:Int)<((hi-lo:Nat):Int):=yie;have k1':(i:Int)<(hi:Int)-(lo:Int):=yie;have k9:(i:Int)<100000:=(by have:=HN1.o;omega);have k2:(0:Int)<=(X:Int):=yie;have k3:(X:Int)<(p.N:Int):=yie;clear hpm hkc hX hst;go_upto_region 11 with fail
    go_region_law (first
     | (go_simp;go_at_call 67;(with_reducible refine GP.o.mono ?_);rintro e' w5 ⟨rfl,rfl⟩)
     | fail)
    all_goals
     have hp3:=(PM.setC (p:={p with md:=upd p.md G 0,bg:=bg1,en:=en1,grp:=relab p.st p.n lo i p.grp}) (s:=X) (v:=p.n) HPM2.o).kept (Kept.of_below (fun _=>False) (yf6 _ _).drew) (fun q=>q) (fun _ _ _ _ q=>q);have hk3:=(HKC2.o.setCell (a:=⟨bc,X,none⟩) (.inl (.inr ⟨.slice (some ⟨bc,0,none⟩) p.N cc,by simp,rfl⟩)) (.int .i64 (p.n:Int))).drew;have HP3:=Zh hp3;have HK3:=Zh hk3;clear hp3 hk3;go_wp2;go_roundg (hi-lo-(i+1))
     case measure=>have:=HM.o;omega
     case rel =>
      refine⟨i+1,by go_num,by omega,rfl,?_,HK3.o⟩;have h3:=HP3.o;rw[show relab p.st p.n lo (i+1) p.grp=upd (relab p.st p.n lo i p.grp) X p.n by rw[relab,HXX.o]];exact h3
   .have hkl:i=hi-lo:=yie;subst hkl;obtain⟨p1,hp1⟩:∃ p1:PT,{p with md:=upd p.md G 0,bg:=bg1,en:=en1,grp:=relab p.st p.n lo (hi-lo) p.grp}=p1:=⟨_,rfl⟩;have hpf1:zbt p G={p1 with n:=p1.n+1,bg:=upd p1.bg p1.n lo,en:=upd p1.en p1.n hi,md:=upd p1.md p1.n 0}:=(by rw[HPF.o,←hp1]);have hp1n:p1.n=n:=(by rw[←hp1];exact Hnn.o);have hp1N:p1.N=p.N:=(by rw[←hp1]);change PM wr B g _ _ _ _ _ _ {p with md:=upd p.md G 0,bg:=bg1,en:=en1,grp:=relab p.st p.n lo (hi-lo) p.grp} at hpm;rw[hp1] at hpm;rw[Hnn.o] at hpm hkc;have HPF1:=Zh hpf1;have HP1N:=Zh hp1n;have HPM8:=Zh hpm;have HKC8:=Zh hkc;have HLE:=Zh (show ∀ (f:Nat->Nat) (x:Nat),(ns ((List.range n).map f)).length+(ns [x]).length<=100000 from fun f x=>by simp[ns];have:=HN2.o;omega);have HB8:=Zh (show B<=wr.heap.size by have:=za0 hpm.box;have:=hpm.gB;omega);have rr0:=Rows3.begin hpm;rw[hp1n] at rr0;have RR0:=Zh rr0;have HL1:=Zh (fun b e=>(yf5 hpm.rd b e).2);have HL2:=Zh (fun b e=>(yf5 hpm.re b e).2);have HL3:=Zh (fun b e=>(yf5 hpm.rm b e).2);have HC:=Zh (fun (W:World) (kk:Kept (fun x=>(Value.slice (some ⟨bd,0,none⟩) n cd).ownBlock=some x∨(Value.slice (some ⟨be,0,none⟩) n ce).ownBlock=some x∨(Value.slice (some ⟨bm,0,none⟩) n cm).ownBlock=some x) wr W)=>(kk.block g (za0 hpm.box) (fun q=>by
     rcases q with q|q|q
     .exact zb6 hpm.rd hpm.box g q rfl
     .exact zb6 hpm.re hpm.box g q rfl
     .exact zb6 hpm.rm hpm.box g q rfl)).trans hpm.box)
    rw[hp1] at HPM2;clear hpm hkc rr0 hpf1 hp1n hp1N hp1 HPM HKC HPF HPM2 HKC2;go_upto_region 13 with fail
    generalize wr=w8 at *;have hmx:Tryd.prog.follows .mixedOrders=true:=yih;have hs0:=RR0.o.keep;refine zdb (R:=fun W=>True) (S:=fun W=>Kept (fun x=>(Value.slice (some ⟨bd,0,none⟩) n cd).ownBlock=some x∨(Value.slice (some ⟨be,0,none⟩) n ce).ownBlock=some x∨(Value.slice (some ⟨bm,0,none⟩) n cm).ownBlock=some x) w8 W) (T:=[25,28,31]) hmx ?_;refine anyR_tk (i:=0) (v := .pointer (some ⟨g,0,none⟩)) rfl (Or.inl ⟨by rfl,fun w' hS=>by go_simp⟩) trivial (fun _=>hs0) ?_;refine anyR_tk (i:=1) (v := .pointer (some ⟨g,0,none⟩)) rfl (Or.inl ⟨by rfl,fun w' hS=>by go_simp⟩) trivial (fun _=>hs0) ?_;refine anyR_tk (i:=2) (v := .pointer (some ⟨g,0,none⟩)) rfl (Or.inl ⟨by rfl,fun w' hS=>by go_simp⟩) trivial (fun _=>hs0) ?_;go_simp;refine anyR_tk (i:=3) (v := .pointer (some ⟨g,0,none⟩)) rfl (Or.inl ⟨by rfl,fun w' hS=>by go_simp⟩) trivial (fun _=>hs0) ?_;refine anyR_tk (i:=4) (v := .pointer (some ⟨g,0,none⟩)) rfl (Or.inl ⟨by rfl,fun w' hS=>by go_simp⟩) trivial (fun _=>hs0) ?_;refine anyR_tk (i:=5) (v := .pointer (some ⟨g,3,none⟩)) rfl (Or.inl ⟨by rfl,fun w' hS=>by go_simp⟩) trivial (fun _=>hs0) ?_;go_simp;refine anyT_tk (i:=6) (v := .slice (some ⟨bd,0,none⟩) n cd) rfl (Or.inl ⟨by rfl,fun w' hS=>by have t1:=cell_of_row w' g 3 _ _ (0,0) (HC.o w' hS);go_simp⟩) trivial hs0 ?_;refine anyR_tk (i:=7) (v := .int .i64 (lo:Int)) rfl (Or.inl ⟨by rfl,fun w' hS=>by go_simp⟩) trivial (fun _=>hs0) ?_;go_simp;refine anyR_tk (i:=10) (v := .pointer (some ⟨g,0,none⟩)) rfl (Or.inl ⟨by rfl,fun w' hS=>by go_simp⟩) trivial (fun _=>hs0) ?_;refine anyR_tk (i:=11) (v := .pointer (some ⟨g,0,none⟩)) rfl (Or.inl ⟨by rfl,fun w' hS=>by go_simp⟩) trivial (fun _=>hs0) ?_;refine anyR_tk (i:=12) (v := .pointer (some ⟨g,4,none⟩)) rfl (Or.inl ⟨by rfl,fun w' hS=>by go_simp⟩) trivial (fun _=>hs0) ?_;go_simp;refine anyT_tk (i:=13) (v := .slice (some ⟨be,0,none⟩) n ce) rfl (Or.inl ⟨by rfl,fun w' hS=>by have t1:=cell_of_row w' g 4 _ _ (0,0) (HC.o w' hS);go_simp⟩) trivial hs0 ?_;refine anyR_tk (i:=14) (v := .int .i64 (hi:Int)) rfl (Or.inl ⟨by rfl,fun w' hS=>by go_simp⟩) trivial (fun _=>hs0) ?_;go_simp;refine anyR_tk (i:=17) (v := .pointer (some ⟨g,0,none⟩)) rfl (Or.inl ⟨by rfl,fun w' hS=>by go_simp⟩) trivial (fun _=>hs0) ?_;refine anyR_tk (i:=18) (v := .pointer (some ⟨g,0,none⟩)) rfl (Or.inl ⟨by rfl,fun w' hS=>by go_simp⟩) trivial (fun _=>hs0) ?_;refine anyR_tk (i:=19) (v := .pointer (some ⟨g,5,none⟩)) rfl (Or.inl ⟨by rfl,fun w' hS=>by go_simp⟩) trivial (fun _=>hs0) ?_;go_simp;refine anyT_tk (i:=20) (v := .slice (some ⟨bm,0,none⟩) n cm) rfl (Or.inl ⟨by rfl,fun w' hS=>by have t1:=cell_of_row w' g 5 _ _ (0,0) (HC.o w' hS);go_simp⟩) trivial hs0 ?_;go_simp;clear hs0;generalize w8.drew=W0 at *;have FIN:Hid (∀ (W:World) (v1 v2 v3:Value),Rows3 B w8 W (.slice (some ⟨bd,0,none⟩) n cd) (.slice (some ⟨be,0,none⟩) n ce) (.slice (some ⟨bm,0,none⟩) n cm) v1 v2 v3 (n+1) (n+1) (n+1) (upd p1.bg n lo) (upd p1.en n hi) (upd p1.md n 0)->
     znb w B g (.slice (some ⟨ba,0,none⟩) p.N ca) b (.slice (some ⟨bc,0,none⟩) p.N cc) (.slice (some ⟨bd,0,none⟩) p.n cd) (.slice (some ⟨be,0,none⟩) p.n ce) (.slice (some ⟨bm,0,none⟩) p.n cm) p G (.returned (.tuple #[])) (((W.setCell ⟨g,3,none⟩ v1).setCell ⟨g,4,none⟩ v2).setCell ⟨g,5,none⟩ v3)):=Zh (fun W v1 v2 v3 hr=>by
     have h8:=HPM8.o;have kc:=HKC8.o;have e:=HP1N.o;rw[Hnn.o];rw[←e] at hr h8 kc ⊢;have h3:=h8.three hr;refine⟨rfl,v1,v2,v3,?_,kc.trans h3.2.2 (fun x ex => .inl ex),fun v hv x ex=>(h3.2.1 v hv x ex).imp (fun q=>yfa kc.size q) id⟩;rw[HPF1.o];exact h3.1)
    refine za2 (rs:=[8,15,21]) yih yii ?_;refine zp6 ?_ ?_ ?_
    all_goals refine za3 rfl fun K hK=>?_
    all_goals first
     | (go_simp
        first
        | (have NB:=Zh (New1.made w8 W0 RR0.o.size lo)
           replace RR0:=Zh (RR0.o.alloc (.cells #[.int .i64 (lo:Int)] 3))
           try replace N15:=Zh (N15.o.alloc (.cells #[.int .i64 (lo:Int)] 3))
           try replace N21:=Zh (N21.o.alloc (.cells #[.int .i64 (lo:Int)] 3))
           refine hK.out _ _ trivial (fun _=>RR0.o.keep) ?_;clear hK K;change Hid (New1 w8 (W0.alloc (.cells #[.int .i64 (lo:Int)] 3)) _ _) at NB;obtain⟨u,hu⟩:∃ u,(Value.slice (some ⟨W0.heap.size,0,none⟩) 1 1)=u:=⟨_,rfl⟩;rw[hu] at NB ⊢;obtain⟨W0,hW⟩:∃ W,W0.alloc (.cells #[.int .i64 (lo:Int)] 3)=W:=⟨_,rfl⟩;rw[hW] at RR0 NB ⊢
           try rw[hW] at N15
           try rw[hW] at N21
           clear hu hW;have N8:=NB;clear NB)
        | (have NB:=Zh (New1.made w8 W0 RR0.o.size hi)
           replace RR0:=Zh (RR0.o.alloc (.cells #[.int .i64 (hi:Int)] 3))
           try replace N8:=Zh (N8.o.alloc (.cells #[.int .i64 (hi:Int)] 3))
           try replace N21:=Zh (N21.o.alloc (.cells #[.int .i64 (hi:Int)] 3))
           refine hK.out _ _ trivial (fun _=>RR0.o.keep) ?_;clear hK K;change Hid (New1 w8 (W0.alloc (.cells #[.int .i64 (hi:Int)] 3)) _ _) at NB;obtain⟨u,hu⟩:∃ u,(Value.slice (some ⟨W0.heap.size,0,none⟩) 1 1)=u:=⟨_,rfl⟩;rw[hu] at NB ⊢;obtain⟨W0,hW⟩:∃ W,W0.alloc (.cells #[.int .i64 (hi:Int)] 3)=W:=⟨_,rfl⟩;rw[hW] at RR0 NB ⊢
           try rw[hW] at N8
           try rw[hW] at N21
           clear hu hW;have N15:=NB;clear NB)
        | (have NB:=Zh (New1.made w8 W0 RR0.o.size 0)
           replace RR0:=Zh (RR0.o.alloc (.cells #[.int .i64 (0:Int)] 3))
           try replace N8:=Zh (N8.o.alloc (.cells #[.int .i64 (0:Int)] 3))
           try replace N15:=Zh (N15.o.alloc (.cells #[.int .i64 (0:Int)] 3))
           refine hK.out _ _ trivial (fun _=>RR0.o.keep) ?_;clear hK K;change Hid (New1 w8 (W0.alloc (.cells #[.int .i64 (0:Int)] 3)) _ _) at NB;obtain⟨u,hu⟩:∃ u,(Value.slice (some ⟨W0.heap.size,0,none⟩) 1 1)=u:=⟨_,rfl⟩;rw[hu] at NB ⊢;obtain⟨W0,hW⟩:∃ W,W0.alloc (.cells #[.int .i64 (0:Int)] 3)=W:=⟨_,rfl⟩;rw[hW] at RR0 NB ⊢
           try rw[hW] at N8
           try rw[hW] at N15
           clear hu hW;have N21:=NB;clear NB))
    refine za2 (rs:=[9,15,21]) yih yii ?_;refine zp6 ?_ ?_ ?_
    rotate_left 3
    refine za2 (rs:=[8,21]) yih yii ?_;refine zc6 ?_ ?_
    rotate_left 2
    refine za2 (rs:=[8,15]) yih yii ?_;refine zc6 ?_ ?_
    rotate_left 2
    all_goals refine za3 rfl fun K hK=>?_
    all_goals first
     | (refine zax (l:=ns ((List.range n).map p1.bg)) (m:=ns [lo]) (B:=B) (C:=0) yih (.tmp 97) (.tmp 99) yik (by go_simp) (by go_simp) (nrow_ints.1 RR0.o.r1) N8.o.ints (HLE.o _ _) (yfa HB8.o RR0.o.size) ?_
        intro v2 W0 r2 g2 o2;obtain⟨A2,c2,hv2⟩:=zaa (zb0 r2);subst hv2;replace RR0:=Zh (RR0.o.app1 r2 g2 o2)
        try replace N15:=Zh (N15.o.grown g2 HL1.o)
        try replace N21:=Zh (N21.o.grown g2 HL1.o)
        refine hK.out _ _ trivial (fun _=>RR0.o.keep) ?_;clear hK K r2 g2 o2 N8)
     | (go_simp
        first
        | (have NB:=Zh (New1.made w8 W0 RR0.o.size lo)
           replace RR0:=Zh (RR0.o.alloc (.cells #[.int .i64 (lo:Int)] 3))
           try replace N15:=Zh (N15.o.alloc (.cells #[.int .i64 (lo:Int)] 3))
           try replace N21:=Zh (N21.o.alloc (.cells #[.int .i64 (lo:Int)] 3))
           refine hK.out _ _ trivial (fun _=>RR0.o.keep) ?_;clear hK K;change Hid (New1 w8 (W0.alloc (.cells #[.int .i64 (lo:Int)] 3)) _ _) at NB;obtain⟨u,hu⟩:∃ u,(Value.slice (some ⟨W0.heap.size,0,none⟩) 1 1)=u:=⟨_,rfl⟩;rw[hu] at NB ⊢;obtain⟨W0,hW⟩:∃ W,W0.alloc (.cells #[.int .i64 (lo:Int)] 3)=W:=⟨_,rfl⟩;rw[hW] at RR0 NB ⊢
           try rw[hW] at N15
           try rw[hW] at N21
           clear hu hW;have N8:=NB;clear NB)
        | (have NB:=Zh (New1.made w8 W0 RR0.o.size hi)
           replace RR0:=Zh (RR0.o.alloc (.cells #[.int .i64 (hi:Int)] 3))
           try replace N8:=Zh (N8.o.alloc (.cells #[.int .i64 (hi:Int)] 3))
           try replace N21:=Zh (N21.o.alloc (.cells #[.int .i64 (hi:Int)] 3))
           refine hK.out _ _ trivial (fun _=>RR0.o.keep) ?_;clear hK K;change Hid (New1 w8 (W0.alloc (.cells #[.int .i64 (hi:Int)] 3)) _ _) at NB;obtain⟨u,hu⟩:∃ u,(Value.slice (some ⟨W0.heap.size,0,none⟩) 1 1)=u:=⟨_,rfl⟩;rw[hu] at NB ⊢;obtain⟨W0,hW⟩:∃ W,W0.alloc (.cells #[.int .i64 (hi:Int)] 3)=W:=⟨_,rfl⟩;rw[hW] at RR0 NB ⊢
           try rw[hW] at N8
           try rw[hW] at N21
           clear hu hW;have N15:=NB;clear NB)
        | (have NB:=Zh (New1.made w8 W0 RR0.o.size 0)
           replace RR0:=Zh (RR0.o.alloc (.cells #[.int .i64 (0:Int)] 3))
           try replace N8:=Zh (N8.o.alloc (.cells #[.int .i64 (0:Int)] 3))
           try replace N15:=Zh (N15.o.alloc (.cells #[.int .i64 (0:Int)] 3))
           refine hK.out _ _ trivial (fun _=>RR0.o.keep) ?_;clear hK K;change Hid (New1 w8 (W0.alloc (.cells #[.int .i64 (0:Int)] 3)) _ _) at NB;obtain⟨u,hu⟩:∃ u,(Value.slice (some ⟨W0.heap.size,0,none⟩) 1 1)=u:=⟨_,rfl⟩;rw[hu] at NB ⊢;obtain⟨W0,hW⟩:∃ W,W0.alloc (.cells #[.int .i64 (0:Int)] 3)=W:=⟨_,rfl⟩;rw[hW] at RR0 NB ⊢
           try rw[hW] at N8
           try rw[hW] at N15
           clear hu hW;have N21:=NB;clear NB))
    refine za2 (rs:=[15,21]) yih yii ?_;refine zc6 ?_ ?_
    rotate_left 2
    refine za2 (rs:=[9,21]) yih yii ?_;refine zc6 ?_ ?_
    rotate_left 2
    refine za2 (rs:=[9,15]) yih yii ?_;refine zc6 ?_ ?_
    rotate_left 2
    refine za2 (rs:=[9,21]) yih yii ?_;refine zc6 ?_ ?_
    rotate_left 2
    refine za2 (rs:=[8]) yih yii ?_;refine za5 ?_
    rotate_left 1
    refine za2 (rs:=[9,15]) yih yii ?_;refine zc6 ?_ ?_
    rotate_left 2
    refine za2 (rs:=[8]) yih yii ?_;refine za5 ?_
    rotate_left 1
    all_goals refine za3 rfl fun K hK=>?_
    all_goals first
     | (refine zax (l:=ns ((List.range n).map p1.bg)) (m:=ns [lo]) (B:=B) (C:=0) yih (.tmp 97) (.tmp 99) yik (by go_simp) (by go_simp) (nrow_ints.1 RR0.o.r1) N8.o.ints (HLE.o _ _) (yfa HB8.o RR0.o.size) ?_
        intro v2 W0 r2 g2 o2;obtain⟨A2,c2,hv2⟩:=zaa (zb0 r2);subst hv2;replace RR0:=Zh (RR0.o.app1 r2 g2 o2)
        try replace N15:=Zh (N15.o.grown g2 HL1.o)
        try replace N21:=Zh (N21.o.grown g2 HL1.o)
        refine hK.out _ _ trivial (fun _=>RR0.o.keep) ?_;clear hK K r2 g2 o2 N8)
     | (go_simp
        first
        | (have NB:=Zh (New1.made w8 W0 RR0.o.size lo)
           replace RR0:=Zh (RR0.o.alloc (.cells #[.int .i64 (lo:Int)] 3))
           try replace N15:=Zh (N15.o.alloc (.cells #[.int .i64 (lo:Int)] 3))
           try replace N21:=Zh (N21.o.alloc (.cells #[.int .i64 (lo:Int)] 3))
           refine hK.out _ _ trivial (fun _=>RR0.o.keep) ?_;clear hK K;change Hid (New1 w8 (W0.alloc (.cells #[.int .i64 (lo:Int)] 3)) _ _) at NB;obtain⟨u,hu⟩:∃ u,(Value.slice (some ⟨W0.heap.size,0,none⟩) 1 1)=u:=⟨_,rfl⟩;rw[hu] at NB ⊢;obtain⟨W0,hW⟩:∃ W,W0.alloc (.cells #[.int .i64 (lo:Int)] 3)=W:=⟨_,rfl⟩;rw[hW] at RR0 NB ⊢
           try rw[hW] at N15
           try rw[hW] at N21
           clear hu hW;have N8:=NB;clear NB)
        | (have NB:=Zh (New1.made w8 W0 RR0.o.size hi)
           replace RR0:=Zh (RR0.o.alloc (.cells #[.int .i64 (hi:Int)] 3))
           try replace N8:=Zh (N8.o.alloc (.cells #[.int .i64 (hi:Int)] 3))
           try replace N21:=Zh (N21.o.alloc (.cells #[.int .i64 (hi:Int)] 3))
           refine hK.out _ _ trivial (fun _=>RR0.o.keep) ?_;clear hK K;change Hid (New1 w8 (W0.alloc (.cells #[.int .i64 (hi:Int)] 3)) _ _) at NB;obtain⟨u,hu⟩:∃ u,(Value.slice (some ⟨W0.heap.size,0,none⟩) 1 1)=u:=⟨_,rfl⟩;rw[hu] at NB ⊢;obtain⟨W0,hW⟩:∃ W,W0.alloc (.cells #[.int .i64 (hi:Int)] 3)=W:=⟨_,rfl⟩;rw[hW] at RR0 NB ⊢
           try rw[hW] at N8
           try rw[hW] at N21
           clear hu hW;have N15:=NB;clear NB)
        | (have NB:=Zh (New1.made w8 W0 RR0.o.size 0)
           replace RR0:=Zh (RR0.o.alloc (.cells #[.int .i64 (0:Int)] 3))
           try replace N8:=Zh (N8.o.alloc (.cells #[.int .i64 (0:Int)] 3))
           try replace N15:=Zh (N15.o.alloc (.cells #[.int .i64 (0:Int)] 3))
           refine hK.out _ _ trivial (fun _=>RR0.o.keep) ?_;clear hK K;change Hid (New1 w8 (W0.alloc (.cells #[.int .i64 (0:Int)] 3)) _ _) at NB;obtain⟨u,hu⟩:∃ u,(Value.slice (some ⟨W0.heap.size,0,none⟩) 1 1)=u:=⟨_,rfl⟩;rw[hu] at NB ⊢;obtain⟨W0,hW⟩:∃ W,W0.alloc (.cells #[.int .i64 (0:Int)] 3)=W:=⟨_,rfl⟩;rw[hW] at RR0 NB ⊢
           try rw[hW] at N8
           try rw[hW] at N15
           clear hu hW;have N21:=NB;clear NB))
    refine za2 (rs:=[16,21]) yih yii ?_;refine zc6 ?_ ?_
    rotate_left 2
    refine za2 (rs:=[15]) yih yii ?_;refine za5 ?_
    rotate_left 1
    refine za2 (rs:=[16,21]) yih yii ?_;refine zc6 ?_ ?_
    rotate_left 2
    refine za2 (rs:=[9]) yih yii ?_;refine za5 ?_
    rotate_left 1
    refine za2 (rs:=[15]) yih yii ?_;refine za5 ?_
    rotate_left 1
    refine za2 (rs:=[9]) yih yii ?_;refine za5 ?_
    rotate_left 1
    refine za2 (rs:=[16,21]) yih yii ?_;refine zc6 ?_ ?_
    rotate_left 2
    refine za2 (rs:=[9]) yih yii ?_;refine za5 ?_
    rotate_left 1
    refine za2 (rs:=[9]) yih yii ?_;refine za5 ?_
    rotate_left 1
    refine za2 (rs:=[15]) yih yii ?_;refine za5 ?_
    rotate_left 1
    refine za2 (rs:=[9]) yih yii ?_;refine za5 ?_
    rotate_left 1
    refine za2 (rs:=[9]) yih yii ?_;refine za5 ?_
    rotate_left 1
    all_goals refine za3 rfl fun K hK=>?_
    all_goals first
     | (refine zax (l:=ns ((List.range n).map p1.bg)) (m:=ns [lo]) (B:=B) (C:=0) yih (.tmp 97) (.tmp 99) yik (by go_simp) (by go_simp) (nrow_ints.1 RR0.o.r1) N8.o.ints (HLE.o _ _) (yfa HB8.o RR0.o.size) ?_
        intro v2 W0 r2 g2 o2;obtain⟨A2,c2,hv2⟩:=zaa (zb0 r2);subst hv2;replace RR0:=Zh (RR0.o.app1 r2 g2 o2)
        try replace N15:=Zh (N15.o.grown g2 HL1.o)
        try replace N21:=Zh (N21.o.grown g2 HL1.o)
        refine hK.out _ _ trivial (fun _=>RR0.o.keep) ?_;clear hK K r2 g2 o2 N8)
     | (refine zax (l:=ns ((List.range n).map p1.en)) (m:=ns [hi]) (B:=B) (C:=0) yih (.tmp 104) (.tmp 106) yik (by go_simp) (by go_simp) (nrow_ints.1 RR0.o.r2) N15.o.ints (HLE.o _ _) (yfa HB8.o RR0.o.size) ?_
        intro v2 W0 r2 g2 o2;obtain⟨A2,c2,hv2⟩:=zaa (zb0 r2);subst hv2;replace RR0:=Zh (RR0.o.app2 r2 g2 o2)
        try replace N8:=Zh (N8.o.grown g2 HL2.o)
        try replace N21:=Zh (N21.o.grown g2 HL2.o)
        refine hK.out _ _ trivial (fun _=>RR0.o.keep) ?_;clear hK K r2 g2 o2 N15)
     | (go_simp
        first
        | (have NB:=Zh (New1.made w8 W0 RR0.o.size lo)
           replace RR0:=Zh (RR0.o.alloc (.cells #[.int .i64 (lo:Int)] 3))
           try replace N15:=Zh (N15.o.alloc (.cells #[.int .i64 (lo:Int)] 3))
           try replace N21:=Zh (N21.o.alloc (.cells #[.int .i64 (lo:Int)] 3))
           refine hK.out _ _ trivial (fun _=>RR0.o.keep) ?_;clear hK K;change Hid (New1 w8 (W0.alloc (.cells #[.int .i64 (lo:Int)] 3)) _ _) at NB;obtain⟨u,hu⟩:∃ u,(Value.slice (some ⟨W0.heap.size,0,none⟩) 1 1)=u:=⟨_,rfl⟩;rw[hu] at NB ⊢;obtain⟨W0,hW⟩:∃ W,W0.alloc (.cells #[.int .i64 (lo:Int)] 3)=W:=⟨_,rfl⟩;rw[hW] at RR0 NB ⊢
           try rw[hW] at N15
           try rw[hW] at N21
           clear hu hW;have N8:=NB;clear NB)
        | (have NB:=Zh (New1.made w8 W0 RR0.o.size hi)
           replace RR0:=Zh (RR0.o.alloc (.cells #[.int .i64 (hi:Int)] 3))
           try replace N8:=Zh (N8.o.alloc (.cells #[.int .i64 (hi:Int)] 3))
           try replace N21:=Zh (N21.o.alloc (.cells #[.int .i64 (hi:Int)] 3))
           refine hK.out _ _ trivial (fun _=>RR0.o.keep) ?_;clear hK K;change Hid (New1 w8 (W0.alloc (.cells #[.int .i64 (hi:Int)] 3)) _ _) at NB;obtain⟨u,hu⟩:∃ u,(Value.slice (some ⟨W0.heap.size,0,none⟩) 1 1)=u:=⟨_,rfl⟩;rw[hu] at NB ⊢;obtain⟨W0,hW⟩:∃ W,W0.alloc (.cells #[.int .i64 (hi:Int)] 3)=W:=⟨_,rfl⟩;rw[hW] at RR0 NB ⊢
           try rw[hW] at N8
           try rw[hW] at N21
           clear hu hW;have N15:=NB;clear NB)
        | (have NB:=Zh (New1.made w8 W0 RR0.o.size 0)
           replace RR0:=Zh (RR0.o.alloc (.cells #[.int .i64 (0:Int)] 3))
           try replace N8:=Zh (N8.o.alloc (.cells #[.int .i64 (0:Int)] 3))
           try replace N15:=Zh (N15.o.alloc (.cells #[.int .i64 (0:Int)] 3))
           refine hK.out _ _ trivial (fun _=>RR0.o.keep) ?_;clear hK K;change Hid (New1 w8 (W0.alloc (.cells #[.int .i64 (0:Int)] 3)) _ _) at NB;obtain⟨u,hu⟩:∃ u,(Value.slice (some ⟨W0.heap.size,0,none⟩) 1 1)=u:=⟨_,rfl⟩;rw[hu] at NB ⊢;obtain⟨W0,hW⟩:∃ W,W0.alloc (.cells #[.int .i64 (0:Int)] 3)=W:=⟨_,rfl⟩;rw[hW] at RR0 NB ⊢
           try rw[hW] at N8
           try rw[hW] at N15
           clear hu hW;have N21:=NB;clear NB))
    refine za2 (rs:=[21]) yih yii ?_;refine za5 ?_
    rotate_left 1
    refine za2 (rs:=[16]) yih yii ?_;refine za5 ?_
    rotate_left 1
    refine za2 (rs:=[16]) yih yii ?_;refine za5 ?_
    rotate_left 1
    refine za2 (rs:=[21]) yih yii ?_;refine za5 ?_
    rotate_left 1
    refine za2 (rs:=[16]) yih yii ?_;refine za5 ?_
    rotate_left 1
    refine za2 (rs:=[16]) yih yii ?_;refine za5 ?_
    rotate_left 1
    refine za2 (rs:=[16]) yih yii ?_;refine za5 ?_
    rotate_left 1
    refine za2 (rs:=[16]) yih yii ?_;refine za5 ?_
    rotate_left 1
    refine za2 (rs:=[21]) yih yii ?_;refine za5 ?_
    rotate_left 1
    refine za2 (rs:=[16]) yih yii ?_;refine za5 ?_
    rotate_left 1
    refine za2 (rs:=[16]) yih yii ?_;refine za5 ?_
    rotate_left 1
    refine za2 (rs:=[16]) yih yii ?_;refine za5 ?_
    rotate_left 1
    refine za2 (rs:=[16]) yih yii ?_;refine za5 ?_
    rotate_left 1
    refine za2 (rs:=[16]) yih yii ?_;refine za5 ?_
    rotate_left 1
    refine za2 (rs:=[16]) yih yii ?_;refine za5 ?_
    rotate_left 1
    all_goals refine za3 rfl fun K hK=>?_
    all_goals first
     | (refine zax (l:=ns ((List.range n).map p1.bg)) (m:=ns [lo]) (B:=B) (C:=0) yih (.tmp 97) (.tmp 99) yik (by go_simp) (by go_simp) (nrow_ints.1 RR0.o.r1) N8.o.ints (HLE.o _ _) (yfa HB8.o RR0.o.size) ?_
        intro v2 W0 r2 g2 o2;obtain⟨A2,c2,hv2⟩:=zaa (zb0 r2);subst hv2;replace RR0:=Zh (RR0.o.app1 r2 g2 o2)
        try replace N15:=Zh (N15.o.grown g2 HL1.o)
        try replace N21:=Zh (N21.o.grown g2 HL1.o)
        refine hK.out _ _ trivial (fun _=>RR0.o.keep) ?_;clear hK K r2 g2 o2 N8)
     | (refine zax (l:=ns ((List.range n).map p1.en)) (m:=ns [hi]) (B:=B) (C:=0) yih (.tmp 104) (.tmp 106) yik (by go_simp) (by go_simp) (nrow_ints.1 RR0.o.r2) N15.o.ints (HLE.o _ _) (yfa HB8.o RR0.o.size) ?_
        intro v2 W0 r2 g2 o2;obtain⟨A2,c2,hv2⟩:=zaa (zb0 r2);subst hv2;replace RR0:=Zh (RR0.o.app2 r2 g2 o2)
        try replace N8:=Zh (N8.o.grown g2 HL2.o)
        try replace N21:=Zh (N21.o.grown g2 HL2.o)
        refine hK.out _ _ trivial (fun _=>RR0.o.keep) ?_;clear hK K r2 g2 o2 N15)
     | (go_simp
        first
        | (have NB:=Zh (New1.made w8 W0 RR0.o.size lo)
           replace RR0:=Zh (RR0.o.alloc (.cells #[.int .i64 (lo:Int)] 3))
           try replace N15:=Zh (N15.o.alloc (.cells #[.int .i64 (lo:Int)] 3))
           try replace N21:=Zh (N21.o.alloc (.cells #[.int .i64 (lo:Int)] 3))
           refine hK.out _ _ trivial (fun _=>RR0.o.keep) ?_;clear hK K;change Hid (New1 w8 (W0.alloc (.cells #[.int .i64 (lo:Int)] 3)) _ _) at NB;obtain⟨u,hu⟩:∃ u,(Value.slice (some ⟨W0.heap.size,0,none⟩) 1 1)=u:=⟨_,rfl⟩;rw[hu] at NB ⊢;obtain⟨W0,hW⟩:∃ W,W0.alloc (.cells #[.int .i64 (lo:Int)] 3)=W:=⟨_,rfl⟩;rw[hW] at RR0 NB ⊢
           try rw[hW] at N15
           try rw[hW] at N21
           clear hu hW;have N8:=NB;clear NB)
        | (have NB:=Zh (New1.made w8 W0 RR0.o.size hi)
           replace RR0:=Zh (RR0.o.alloc (.cells #[.int .i64 (hi:Int)] 3))
           try replace N8:=Zh (N8.o.alloc (.cells #[.int .i64 (hi:Int)] 3))
           try replace N21:=Zh (N21.o.alloc (.cells #[.int .i64 (hi:Int)] 3))
           refine hK.out _ _ trivial (fun _=>RR0.o.keep) ?_;clear hK K;change Hid (New1 w8 (W0.alloc (.cells #[.int .i64 (hi:Int)] 3)) _ _) at NB;obtain⟨u,hu⟩:∃ u,(Value.slice (some ⟨W0.heap.size,0,none⟩) 1 1)=u:=⟨_,rfl⟩;rw[hu] at NB ⊢;obtain⟨W0,hW⟩:∃ W,W0.alloc (.cells #[.int .i64 (hi:Int)] 3)=W:=⟨_,rfl⟩;rw[hW] at RR0 NB ⊢
           try rw[hW] at N8
           try rw[hW] at N21
           clear hu hW;have N15:=NB;clear NB)
        | (have NB:=Zh (New1.made w8 W0 RR0.o.size 0)
           replace RR0:=Zh (RR0.o.alloc (.cells #[.int .i64 (0:Int)] 3))
           try replace N8:=Zh (N8.o.alloc (.cells #[.int .i64 (0:Int)] 3))
           try replace N15:=Zh (N15.o.alloc (.cells #[.int .i64 (0:Int)] 3))
           refine hK.out _ _ trivial (fun _=>RR0.o.keep) ?_;clear hK K;change Hid (New1 w8 (W0.alloc (.cells #[.int .i64 (0:Int)] 3)) _ _) at NB;obtain⟨u,hu⟩:∃ u,(Value.slice (some ⟨W0.heap.size,0,none⟩) 1 1)=u:=⟨_,rfl⟩;rw[hu] at NB ⊢;obtain⟨W0,hW⟩:∃ W,W0.alloc (.cells #[.int .i64 (0:Int)] 3)=W:=⟨_,rfl⟩;rw[hW] at RR0 NB ⊢
           try rw[hW] at N8
           try rw[hW] at N15
           clear hu hW;have N21:=NB;clear NB))
    refine za2 (rs:=[22]) yih yii ?_;refine za5 ?_
    rotate_left 1
    refine za2 (rs:=[22]) yih yii ?_;refine za5 ?_
    rotate_left 1
    refine za2 (rs:=[22]) yih yii ?_;refine za5 ?_
    rotate_left 1
    refine za2 (rs:=[22]) yih yii ?_;refine za5 ?_
    rotate_left 1
    refine za2 (rs:=[22]) yih yii ?_;refine za5 ?_
    rotate_left 1
    refine za2 (rs:=[22]) yih yii ?_;refine za5 ?_
    rotate_left 1
    refine za2 (rs:=[22]) yih yii ?_;refine za5 ?_
    rotate_left 1
    refine za2 (rs:=[22]) yih yii ?_;refine za5 ?_
    rotate_left 1
    refine za2 (rs:=[22]) yih yii ?_;refine za5 ?_
    rotate_left 1
    refine za2 (rs:=[22]) yih yii ?_;refine za5 ?_
    rotate_left 1
    refine za2 (rs:=[22]) yih yii ?_;refine za5 ?_
    rotate_left 1
    refine za2 (rs:=[22]) yih yii ?_;refine za5 ?_
    rotate_left 1
    refine za2 (rs:=[22]) yih yii ?_;refine za5 ?_
    rotate_left 1
    refine za2 (rs:=[22]) yih yii ?_;refine za5 ?_
    rotate_left 1
    refine za2 (rs:=[22]) yih yii ?_;refine za5 ?_
    rotate_left 1
    all_goals refine za3 rfl fun K hK=>?_
    all_goals first
     | (refine zax (l:=ns ((List.range n).map p1.bg)) (m:=ns [lo]) (B:=B) (C:=0) yih (.tmp 97) (.tmp 99) yik (by go_simp) (by go_simp) (nrow_ints.1 RR0.o.r1) N8.o.ints (HLE.o _ _) (yfa HB8.o RR0.o.size) ?_
        intro v2 W0 r2 g2 o2;obtain⟨A2,c2,hv2⟩:=zaa (zb0 r2);subst hv2;replace RR0:=Zh (RR0.o.app1 r2 g2 o2)
        try replace N15:=Zh (N15.o.grown g2 HL1.o)
        try replace N21:=Zh (N21.o.grown g2 HL1.o)
        refine hK.out _ _ trivial (fun _=>RR0.o.keep) ?_;clear hK K r2 g2 o2 N8)
     | (refine zax (l:=ns ((List.range n).map p1.en)) (m:=ns [hi]) (B:=B) (C:=0) yih (.tmp 104) (.tmp 106) yik (by go_simp) (by go_simp) (nrow_ints.1 RR0.o.r2) N15.o.ints (HLE.o _ _) (yfa HB8.o RR0.o.size) ?_
        intro v2 W0 r2 g2 o2;obtain⟨A2,c2,hv2⟩:=zaa (zb0 r2);subst hv2;replace RR0:=Zh (RR0.o.app2 r2 g2 o2)
        try replace N8:=Zh (N8.o.grown g2 HL2.o)
        try replace N21:=Zh (N21.o.grown g2 HL2.o)
        refine hK.out _ _ trivial (fun _=>RR0.o.keep) ?_;clear hK K r2 g2 o2 N15)
     | (refine zax (l:=ns ((List.range n).map p1.md)) (m:=ns [0]) (B:=B) (C:=0) yih (.tmp 111) (.tmp 112) yik (by go_simp) (by go_simp) (nrow_ints.1 RR0.o.r3) N21.o.ints (HLE.o _ _) (yfa HB8.o RR0.o.size) ?_
        intro v2 W0 r2 g2 o2;obtain⟨A2,c2,hv2⟩:=zaa (zb0 r2);subst hv2;replace RR0:=Zh (RR0.o.app3 r2 g2 o2)
        try replace N8:=Zh (N8.o.grown g2 HL3.o)
        try replace N15:=Zh (N15.o.grown g2 HL3.o)
        refine hK.out _ _ trivial (fun _=>RR0.o.keep) ?_;clear hK K r2 g2 o2 N21)
     | (go_simp
        first
        | (have NB:=Zh (New1.made w8 W0 RR0.o.size lo)
           replace RR0:=Zh (RR0.o.alloc (.cells #[.int .i64 (lo:Int)] 3))
           try replace N15:=Zh (N15.o.alloc (.cells #[.int .i64 (lo:Int)] 3))
           try replace N21:=Zh (N21.o.alloc (.cells #[.int .i64 (lo:Int)] 3))
           refine hK.out _ _ trivial (fun _=>RR0.o.keep) ?_;clear hK K;change Hid (New1 w8 (W0.alloc (.cells #[.int .i64 (lo:Int)] 3)) _ _) at NB;obtain⟨u,hu⟩:∃ u,(Value.slice (some ⟨W0.heap.size,0,none⟩) 1 1)=u:=⟨_,rfl⟩;rw[hu] at NB ⊢;obtain⟨W0,hW⟩:∃ W,W0.alloc (.cells #[.int .i64 (lo:Int)] 3)=W:=⟨_,rfl⟩;rw[hW] at RR0 NB ⊢
           try rw[hW] at N15
           try rw[hW] at N21
           clear hu hW;have N8:=NB;clear NB)
        | (have NB:=Zh (New1.made w8 W0 RR0.o.size hi)
           replace RR0:=Zh (RR0.o.alloc (.cells #[.int .i64 (hi:Int)] 3))
           try replace N8:=Zh (N8.o.alloc (.cells #[.int .i64 (hi:Int)] 3))
           try replace N21:=Zh (N21.o.alloc (.cells #[.int .i64 (hi:Int)] 3))
           refine hK.out _ _ trivial (fun _=>RR0.o.keep) ?_;clear hK K;change Hid (New1 w8 (W0.alloc (.cells #[.int .i64 (hi:Int)] 3)) _ _) at NB;obtain⟨u,hu⟩:∃ u,(Value.slice (some ⟨W0.heap.size,0,none⟩) 1 1)=u:=⟨_,rfl⟩;rw[hu] at NB ⊢;obtain⟨W0,hW⟩:∃ W,W0.alloc (.cells #[.int .i64 (hi:Int)] 3)=W:=⟨_,rfl⟩;rw[hW] at RR0 NB ⊢
           try rw[hW] at N8
           try rw[hW] at N21
           clear hu hW;have N15:=NB;clear NB)
        | (have NB:=Zh (New1.made w8 W0 RR0.o.size 0)
           replace RR0:=Zh (RR0.o.alloc (.cells #[.int .i64 (0:Int)] 3))
           try replace N8:=Zh (N8.o.alloc (.cells #[.int .i64 (0:Int)] 3))
           try replace N15:=Zh (N15.o.alloc (.cells #[.int .i64 (0:Int)] 3))
           refine hK.out _ _ trivial (fun _=>RR0.o.keep) ?_;clear hK K;change Hid (New1 w8 (W0.alloc (.cells #[.int .i64 (0:Int)] 3)) _ _) at NB;obtain⟨u,hu⟩:∃ u,(Value.slice (some ⟨W0.heap.size,0,none⟩) 1 1)=u:=⟨_,rfl⟩;rw[hu] at NB ⊢;obtain⟨W0,hW⟩:∃ W,W0.alloc (.cells #[.int .i64 (0:Int)] 3)=W:=⟨_,rfl⟩;rw[hW] at RR0 NB ⊢
           try rw[hW] at N8
           try rw[hW] at N15
           clear hu hW;have N21:=NB;clear NB))
    all_goals
     have kl:=RR0.o.keep;go_simp;have b0:=HC.o _ kl;have s3:=cell_of_row _ g 3 _ _ (0,0) b0;have s4:=cell_of_row _ g 4 _ _ (0,0) b0;have s5:=cell_of_row _ g 5 _ _ (0,0) b0;have f3:=frozen_of_row _ g 3 _ _ b0;have f4:=frozen_of_row _ g 4 _ _ b0;have f5:=frozen_of_row _ g 5 _ _ b0;clear b0;refine za2 (rs:=[23]) yih yii ?_;refine za5 (za3 rfl fun K hK=>?_);go_simp;refine hK.out _ _ trivial (fun _=>kl) ?_;clear hK K;refine za2 (rs:=[24]) yih yii ?_;refine za5 (za3 rfl fun K hK=>?_);go_simp;refine hK.out _ _ trivial (fun _=>kl) ?_;clear hK K;refine za2 (rs:=[25]) yih yii ?_;refine za5 (za3 rfl fun K hK=>?_);go_simp;refine hK.out _ _ trivial (zai (t:=25) yij yih) ?_;clear hK K;refine za2 (rs:=[26]) yih yii ?_;refine za5 (za3 rfl fun K hK=>?_);go_simp;refine hK.out _ _ trivial (zai (t:=25) yij yih) ?_;clear hK K;refine za2 (rs:=[27]) yih yii ?_;refine za5 (za3 rfl fun K hK=>?_);go_simp;refine hK.out _ _ trivial (zai (t:=25) yij yih) ?_;clear hK K;refine za2 (rs:=[28]) yih yii ?_;refine za5 (za3 rfl fun K hK=>?_);go_simp;refine hK.out _ _ trivial (zai (t:=25) yij yih) ?_;clear hK K;refine za2 (rs:=[29]) yih yii ?_;refine za5 (za3 rfl fun K hK=>?_);go_simp;refine hK.out _ _ trivial (zai (t:=25) yij yih) ?_;clear hK K;refine za2 (rs:=[30]) yih yii ?_;refine za5 (za3 rfl fun K hK=>?_);go_simp;refine hK.out _ _ trivial (zai (t:=25) yij yih) ?_;clear hK K;refine za2 (rs:=[31]) yih yii ?_;refine za5 (za3 rfl fun K hK=>?_);go_simp;refine hK.out _ _ trivial (zai (t:=25) yij yih) ?_;clear hK K;refine zci yih ?_ _;exact⟨rfl,.tuple #[],by simp[results,Tryd.results83],FIN.o _ _ _ _ RR0.o⟩
end Go.Proofs.YtipfgpfplakhiaaDoor
