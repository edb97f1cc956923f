import Derived.Test.YtipfgpfplakhiaaTc42
set_option linter.unusedVariables false
set_option linter.unusedSimpArgs false
set_option maxRecDepth 20000
set_option maxHeartbeats 4000000
namespace Go.Proofs.Ytipfgpfplakhiaa
open Go Go.RowKit
def yfy (w:World) (F:Nat->Nat) (N C:Nat) (rows:List (List Nat)) (os:List (Nat×Nat)) (κ:Nat->Nat) (e:Ending) (w':World):Prop:=
 ∃ (vN vO:Value) (O:Nat->Prop) (fs:List Nat) (rows':List (List Nat)),e = .returned (.agg (zac F (C:Int) vN vO))∧zfm κ (dl rows) C (N+1) 0 [0] []=(fs,rows')∧
  Nxt w' w.heap.size O vN rows'∧w'.ownsRow w.heap.size 51 2 vO fs.length (outC (fs.map fun s=>os.getD s (0,0)))∧Below w.heap.size w w'
theorem ybs {w:World} {B B' N C:Nat} {F:Nat->Nat} {vN vO:Value} {O O':Nat->Prop} {rows:List (List Nat)} {os:List (Nat×Nat)} {κ:Nat->Nat} (hn:Nxt w B O vN rows) (ho:Ots w B' O' vO os) (hl:rows.length=N) (hol:os.length=N) (h0:0<N) (hr:∀ (i:Nat) r,rows[i]?=some r->r.length=C∧∀ x∈r,x<N) (hN9:N<=90000) (hC9:C<=90000)
 (hκ:∀ s t,s<N->t<N->(κ s=κ t↔Alk (dl rows) (fun s=>os[s]?) N C s t)):
 Calls Try.prog 31 #[.agg (zac F (C:Int) vN vO)] w (yfy w F N C rows os κ):=by
 obtain⟨An,cn,hv⟩:=hn.form;rw[hl] at hv;subst hv;obtain⟨Ao,co,hvo⟩:=ho.form;rw[hol] at hvo;subst hvo;have hz:∀ w:World,Sem.run Try.prog (zeroValue 38) w = .ok (.agg (zac (fun _=>0) 0 (.slice none 0 0) (.slice none 0 0))) w:=fun _=>by kernel_rfl
 obtain⟨b0,hb0⟩:∃ b0,w.heap.size=b0:=⟨_,rfl⟩;obtain⟨w1,hw1⟩:∃ w1,w.alloc (.cells (zac F (C:Int) (.slice An N cn) (.slice Ao N co)) 38)=w1:=⟨_,rfl⟩;have hb1:Below w.heap.size w w1:=ykk;have hx1:BoxM w1 w.heap.size 38 F (C:Int) (.slice An N cn) (.slice Ao N co):=ykn;have hs1:w1.heap.size=w.heap.size+1:=ylm;rw[hb0] at hx1 hs1;have hb2:Below w1.heap.size w1 (w1.alloc (.cells (zac (fun _=>0) 0 (.slice none 0 0) (.slice none 0 0)) 38)):=(ygr _ _).alloc (ygo _) _;have hx2:=hx1.stays hb2;have hy2:=BoxM.new w1 38 (fun _=>0) 0 (.slice none 0 0) (.slice none 0 0);rw[hs1] at hy2;have hb02:=hb1.trans (hb2.mono hb1.size);have hn2:=hn.kept (Kept.of_below (fun _=>False) hb02) (fun _ _ q=>q);have ho2:=ho.kept (Kept.of_below (fun _=>False) hb02) (fun _ _ q=>q);have hal:=ybt (F:=F) hn2 ho2 hl hol h0 hr hN9 hC9;have HW1:=Zh hw1;have HAL:=Zh hal;have HX2:=Zh hx2;have HY2:=Zh hy2;have HB02:=Zh hb02;have HN2:=Zh hn2;have HO2:=Zh ho2;have HL:=Zh hl;have HOL:=Zh hol;have HR:=Zh hr;have HB0:=Zh hb0;have HN9:=Zh hN9;have HC9:=Zh hC9;have H00:=Zh h0;have HKK:=Zh hκ;have hcC9:(C:Int)<=90000:=yjz;have hnN9:(N:Int)<=90000:=yjz;clear hw1 hal hx1 hx2 hy2 hb1 hb2 hb02 hn2 ho2 hn ho hl hol hr hN9 hC9 hs1 hκ;go_enter Try.func31,Try.ntmps31;go_upto_region 1 with fail
 rw[HW1.o];generalize w1.alloc (.cells (zac (fun _=>0) 0 (.slice none 0 0) (.slice none 0 0)) 38)=w2 at *;go_upto_region 2 with (first
  | (refine zbh yk5 _ yk5 yk5 Try.underlying38 rfl Try.sizeMR HX2.o ?_;go_simp)
  | (go_at_call 11;(with_reducible refine HAL.o.mono ?_);rintro e w3 ⟨gv,cv,G,L,rfl,mx3,alk3,b3⟩;have HMX3:=Zh mx3;have HA3:=Zh alk3;have HB3:=Zh b3;clear mx3 alk3 b3)
  | fail)
 have HX3:=Zh (HX2.o.stays HB3.o);have c3:=HX3.o.num;go_upto_region 3 with (first
  | (refine zck yk5 _ yk5 yk5 HX3.o ?_;go_simp)
  | (refine zje yk5 _ _ yk5 yk5 yk5 ?_;go_simp)
  | (refine zab yk5 _ _ yk5 yk5 yk5 Try.sizeMR rfl rfl (BoxM.new _ _ _ _ _ _) ?_;intro hbx;have HBX4:=Zh hbx;clear hbx;go_simp)
  | fail)
 have hb4:Below w3.heap.size w3 ((w3.alloc (.cells (zac (fun _=>0) 0 (.slice none 0 0) (.slice none 0 0)) 38)).setRow w3.heap.size (zac F (C:Int) (.slice none 0 0) (.slice none 0 0))):=below_setRow ((ygr _ _).alloc (ygo _) _) (ygo _) _;generalize (w3.alloc (.cells (zac (fun _=>0) 0 (.slice none 0 0) (.slice none 0 0)) 38)).setRow w3.heap.size (zac F (C:Int) (.slice none 0 0) (.slice none 0 0))=w4 at *;have HB4:=Zh hb4;have HB34:=Zh (gro HB02.o (gro HB3.o hb4));clear hb4 c3;obtain⟨g4,hg4⟩:∃ g4,w4.heap.size=g4:=⟨_,rfl⟩;obtain⟨gl,hgl⟩:∃ gl,w3.heap.size=gl:=⟨_,rfl⟩;obtain⟨w5,hw5⟩:∃ w5,w4.alloc (.cells #[.int .i64 0] 3)=w5:=⟨_,rfl⟩;have hb45:Below w4.heap.size w4 w5:=(by rw[←hw5];exact (ygr _ _).alloc (ygo _) _);have hbox5:=HBX4.o.stays hb45;have h34:w3.heap.size<=w4.heap.size:=HB4.o.size;have hof:Ints w5 w3.heap.size (.slice (some ⟨g4,0,none⟩) 1 1) (ns [0]):=by
  rw[←hw5,←hg4];exact zcz (heap_alloc_new w4 _) h34
 have hdl:DL w3.heap.size w5 gl (fun _=>False) F (C:Int) (.slice none 0 0) (.slice none 0 0) (.slice (some ⟨g4,0,none⟩) 1 1) (.slice none 0 0) [] [] [0] []:=
  ⟨⟨by omega,by rw[←hgl];exact hbox5,Nxt.nil _ _ _,yhd _ _ _ 2,fun b e=>e.elim,⟨[],rfl,yhd _ _ _ 1,fun i u t h=>by simp at h⟩,yhd _ _ _ 1,fun b e=>by cases e⟩,hof,fun b _ e=>e,fun b _ e=>by cases e⟩
 have HDL:=Zh hdl;have HB35:=Zh (HB4.o.trans (hb45.mono h34));obtain⟨TGT,hTGT⟩:∃ t,zfm κ (dl rows) C (N+1) 0 [0] []=t:=⟨_,rfl⟩;have HTG:=Zh hTGT;have HM0:Hid (Met κ N [0]):=Zh ⟨fun s hs=>by rw[yha] at hs;rw[hs];exact H00.o,by simp⟩;have HGL:Hid (w3.heap.size=gl):=Zh hgl;have h000:zfm κ (dl rows) C (N+1) 0 [0] []=TGT:=hTGT;rw[hgl];rw[hgl] at HBX4;clear hdl hof hbox5 hb45 h34 hTGT hgl;go_wp2
 try rw[hg4]
 try rw[hw5]
 clear hg4 hw5 h000 HBX4 HB4;go_loopg [5,6] N (fun mm ofv i wr=>∃ (k fu:Nat) (vf vN vO:Value) (O:Nat->Prop) (fs:List Nat) (rs:List (List Nat)),ofv=vf∧i = .int .i64 (k:Int)∧k<=fs.length∧mm=N-k∧rs.length=k∧zfm κ (dl rows) C (fu+1) k fs rs=TGT∧fu+k=N∧Met κ N fs∧
  DL w3.heap.size wr gl O F (C:Int) vN vO vf (.slice none 0 0) rs ((fs.take k).map fun s=>os.getD s (0,0)) fs []∧Below w3.heap.size w3 wr)
 case atStart=>exact⟨0,N,_,_,_,_,[0],[],by first | rfl | trivial,by first | rfl | trivial,ygy _,by first | rfl | trivial,rfl,HTG.o,rfl,HM0.o,HDL.o,HB35.o⟩
 case round =>
  obtain⟨k,fu,vf,vN,vO,O1,fs,rs,rfl,rfl,hk,hmm,hrl,hls,hfu,hmet,hdl,hbw⟩:=hrel;have HMM:=Zh hmm;have HLS:=Zh hls;have HFU:=Zh hfu;have HRL:=Zh hrl;have HMET:=Zh hmet;have HDL1:=Zh hdl;have HBW:=Zh hbw;obtain⟨Af,cf0,hvf⟩:=hdl.rf.form;rw[za9] at hvf;obtain⟨Lf,hLf⟩:∃ L,fs.length=L:=⟨_,rfl⟩;rw[hLf] at hvf hk;subst hvf;have HLF:=Zh hLf;have hfew:=hmet.few;have i9:(Lf:Int)<=90000:=ykx;clear hmm hls hfu hrl hmet hdl hbw hLf hfew
  by_cases hkL:k<Lf
  .have hkL':(k:Int)<(Lf:Int):=yjz;have HKL:Hid (k<fs.length):=Zh (by have:=HLF.o;omega);obtain⟨s,hs⟩:∃ s,fs[k]?=some s:=⟨_,ygn HKL.o⟩;have HSK:=Zh hs;have HSN:=Zh (HMET.o.lt s (yh1 hs));clear hs;go_wp2;go_loopg [5,7,8] C (fun mm ofv rowv cv' wr=>∃ (c:Nat) (vf' vr:Value) (fs' row:List Nat),ofv=vf'∧rowv=vr∧cv' = .int .i64 (c:Int)∧c<=C∧mm=C-c∧zdt κ (dl rows s) (C-c) c fs' row=zdt κ (dl rows s) C 0 fs []∧(∃ l,fs'=fs++l)∧row.length=c∧Met κ N fs'∧
    DL w3.heap.size wr gl O1 F (C:Int) vN vO vf' vr rs ((fs.take k).map fun s=>os.getD s (0,0)) fs' row∧Below w3.heap.size w3 wr)
   case atStart=>exact⟨0,_,_,fs,[],by first | rfl | trivial,by first | rfl | trivial,by first | rfl | trivial,ygy _,by first | rfl | trivial,rfl,⟨[],by simp⟩,rfl,HMET.o,HDL1.o,HBW.o⟩
   case round =>
    obtain⟨c,vf',vr,fs',row,rfl,rfl,rfl,hc,hmc,hro,hpre,hrlen,hmet',hdl',hb'⟩:=hrel;have HMC:=Zh hmc;have HRO:=Zh hro;have HPRE:=Zh hpre;have HRLEN:=Zh hrlen;have HMET':=Zh hmet';have HDL2:=Zh hdl';have HB2:=Zh hb';obtain⟨lx,hlx⟩:=hpre;have hkfs:k<fs'.length:=(by rw[hlx,ygu];have:=HKL.o;omega);have hsk:fs'[k]?=some s:=(by rw[hlx,ygv HKL.o];exact HSK.o);obtain⟨gf,cf,e0,_,_,cellk⟩:=hdl'.rf.at k (by rw[za9];exact hkfs);rw[za9] at e0;have dk:wr.cell? ⟨gf,k,none⟩=some (.int .i64 (s:Int)):=by
     rw[cellk];obtain⟨h1,h2⟩:=ygp.1 hsk;simp[ns,h2]
    obtain⟨L',hL'⟩:∃ L',fs'.length=L':=⟨_,rfl⟩;rw[hL'] at e0;subst e0;have HL':=Zh hL';obtain⟨Ar,cr,hvr⟩:=hdl'.ds.row.form;rw[za9] at hvr;rw[hrlen] at hvr;subst hvr;have hbel:=HB3.o.trans (hb'.mono HB3.o.size);have hx:=HX2.o.stays hbel;have x6:=hx.num;have x7:=hx.nxt;have hL9:(L':Int)<=90000:=(by have:=hmet'.few;have:=HN9.o;omega);have hkL2:(k:Int)<(L':Int):=yjz;have HBEL:=Zh hbel;have HDK:=Zh dk;have hN0:=H00.o;clear hmc hro hrlen hmet' hdl' hb' hx hlx hkfs hsk cellk hL' hbel
    by_cases hcC:c<C
    .have hcC':(c:Int)<(C:Int):=yjz;obtain⟨r,hr⟩:∃ r,rows[s]?=some r:=⟨_,ygn (by rw[HL.o];exact HSN.o)⟩;obtain⟨hrC,hrN⟩:=HR.o s r hr;obtain⟨t,ht⟩:∃ t,r[c]?=some t:=⟨_,ygn yjz⟩;have htN:=hrN t (yh1 ht);have HDT:Hid (dl rows s c=t):=Zh (by
      unfold dl;rw[ygq,ygq,hr];simp[ht])
     have hnk:=HN2.o.kept (Kept.of_below (fun _=>False) HBEL.o) (fun _ _ q=>q);obtain⟨gn,hgn⟩:∃ g,An=some ⟨g,0,none⟩:=by
      obtain⟨us,n1,n2,n3,n4⟩:=hnk.mem;rcases n2.2 with ⟨_,h00⟩|⟨g,cap,cur,e,_⟩
      .rw[HL.o] at h00;omega
      .injection e with e1;exact⟨g,e1⟩
     subst hgn;obtain⟨Au,cu,n1,n2⟩:=hnk.cells hr;rw[hrC] at n1;obtain⟨gu,hgu,n5⟩:=n2 c t ht;subst hgu;have hsN':(s:Int)<(N:Int):=(by have:=HSN.o;omega);have HTN:=Zh htN;clear hr hrC hrN ht htN hnk n2;go_wp2;go_quiet (fail);obtain⟨w6,hw6⟩:∃ w6,wr.drewN nq=w6:=⟨_,rfl⟩;have hb6:Below wr.heap.size wr w6:=(by rw[←hw6];exact below_drewN (ygr _ _) nq);rw[hw6];have HDL6:=Zh (HDL2.o.stays hb6);have HB6:=Zh (HB2.o.trans (hb6.mono HB2.o.size));clear hb6 hw6 dk x6 x7 n1 n5;go_wp2;go_loopg [10] L' (fun mm jv wq=>∃ j:Nat,jv = .int .i64 (j:Int)∧j<=L'∧mm=L'-j∧(∀ (j' s':Nat),j'<j->fs'[j']?=some s'->κ s'≠κ t)∧wq=w6)
     case atStart=>exact⟨0,by first | rfl | trivial,ygy _,by first | rfl | trivial,fun j' s' h=>absurd h (yit _),rfl⟩
     case round =>
      obtain⟨j,rfl,hj,hmj,hno,rfl⟩:=hrel;have HMJ:=Zh hmj;have HNO:=Zh hno;clear hmj hno
      by_cases hjL:j<L'
      .have hjL':(j:Int)<(L':Int):=yjz;obtain⟨s',hs'⟩:∃ s',fs'[j]?=some s':=⟨_,ygn (by rw[HL'.o];exact hjL)⟩;have hs'N:=HMET'.o.lt s' (yh1 hs');have hs'N':(s':Int)<(N:Int):=yjz;obtain⟨g9,c9,e9,_,_,cellj⟩:=HDL6.o.rf.at j (by rw[za9,HL'.o];exact hjL);have dj:wr.cell? ⟨gf,j,none⟩=some (.int .i64 (s':Int)):=by
        injection e9 with e1 e2 e3
        injection e1 with e1
        injection e1 with e1 _ _
        rw[e1,cellj];obtain⟨h1,h2⟩:=ygp.1 hs';simp[ns,h2]
       have hmx:=HMX3.o.stays HB6.o;have d1:=hmx.cell s' hs'N;have d2:=(hmx.rows s' hs'N).cell t HTN.o;have htN':(t:Int)<(N:Int):=(by have:=HTN.o;omega);have hkk:(L s' t=true)↔κ s'=κ t:=(HA3.o s' t hs'N HTN.o).trans (HKK.o s' t hs'N HTN.o).symm;obtain⟨gs,hgs⟩:∃ gs,G s'=gs:=⟨_,rfl⟩;rw[hgs] at d1 d2;have HS':=Zh hs';clear hs' e9 cellj hmx hgs;cases hb:L s' t with
       | false =>
        rw[hb] at d2;have HNK:Hid (κ s'≠κ t):=Zh fun e=>by rw[hkk.2 e] at hb;cases hb
        clear hkk hb;go_wp2;go_roundg (L'-(j+1))
        case measure=>have:=HMJ.o;omega
        case rel=>exact⟨j+1,by go_num,by omega,rfl,fun j' s2 h1 h2=>(by rcases Nat.lt_succ_iff_lt_or_eq.1 h1 with h|h;exact HNO.o j' s2 h h2;rw[h,HS'.o] at h2;cases h2;exact HNK.o),rfl⟩
       | true =>
        rw[hb] at d2;have HEK:Hid (κ s'=κ t):=Zh (hkk.1 hb);clear hkk hb;have hge:w3.heap.size<=wr.heap.size:=HDL6.o.ds.hB;have hrl9:(ns row).length+(ns [j]).length<=100000:=(by rw[za9,za9,HRLEN.o];have:=HC9.o;simp;omega);have HRL9:=Zh hrl9;have hjne:¬ (j:Int)=(L':Int):=yjz;clear hrl9;go_wp2_with (first
         | (at_builtin;refine zaw (l:=ns row) (m:=ns [j]) (B:=w3.heap.size) (C:=w3.heap.size) yk5 _ _ yk5 yk5 yk5 (za6 HDL6.o.ds.row ((ygr _ _).alloc (ygo _) _)) (zcz (heap_alloc_new _ _) hge) HRL9.o (ygw hge yk3) ?_;intro v8 w8 h8 hg8 ho8;have H8:=Zh h8;have HG8:=Zh hg8;have HO8:=Zh ho8;clear h8 hg8 ho8;go_simp)
         | fail)
        go_roundg (C-(c+1))
        case measure=>have:=HMC.o;omega
        case rel =>
         have hk8:Kept (fun b=>(Value.slice Ar c cr).ownBlock=some b) wr w8:=((Kept.refl _ _).alloc _).grown HG8.o (fun b e => .inl e);have hd8:=HDL6.o.pushR (k:=j) hk8 ylg ykl;have hb8:=HB6.o.trans (hk8.below HDL6.o.ds.hB (fun b e=>(ygs HDL6.o.ds.row b e).1));refine⟨c+1,_,_,fs',row++[j],rfl,rfl,by go_num,by omega,rfl,?_,HPRE.o,by rw[ygu,HRLEN.o];rfl,HMET'.o,hd8,hb8⟩;rw[←HRO.o,show C-c=(C-(c+1))+1 by omega];refine (zop ?_ fun j' h1 h2=>?_).symm
         .rw[yhj,HS'.o,HDT.o,←HEK.o];rfl
         .rw[yhj] at h2;obtain⟨s2,h3,h4⟩:=Option.map_eq_some_iff.1 h2;exact HNO.o j' s2 h1 h3 (by rw[h4,HDT.o])
      .have hjl:j=L':=yjz;subst hjl;have hge:w3.heap.size<=wr.heap.size:=HDL6.o.ds.hB;have HRL9:Hid ((ns row).length+(ns [j]).length<=100000):=Zh (by rw[za9,za9,HRLEN.o];have:=HC9.o;simp;omega);have HRL8:Hid ((ns fs').length+(ns [t]).length<=100000):=Zh (by rw[za9,za9,HL'.o];simp;omega);have tok1:True:=trivial;go_wp2_with (first
        | (at_builtin;first
         | (have _t:=tok1;refine zaw (l:=ns fs') (m:=ns [t]) (B:=w3.heap.size) (C:=w3.heap.size) yk5 _ _ yk5 yk5 yk5 (za6 HDL6.o.rf ((ygr _ _).alloc (ygo _) _)) (zcz (heap_alloc_new _ _) hge) HRL8.o (ygw hge yk3) ?_;clear tok1;intro v7 w7 h7 hg7 ho7;have hk7:Kept (fun b=>(Value.slice (some ⟨gf,0,none⟩) j cf).ownBlock=some b) wr w7:=((Kept.refl _ _).alloc _).grown hg7 (fun b e => .inl e);have hd7:=HDL6.o.pushF (t:=t) hk7 (by simpa [ns] using h7) (by rcases ho7 with e | e;exact .inl e;exact .inr ⟨_,e,by simp⟩);have hb7:=HB6.o.trans (hk7.below HDL6.o.ds.hB (fun b e=>(ygs HDL6.o.rf b e).1));have HD7:=Zh hd7;have HB7:=Zh hb7;have hge7:=hd7.ds.hB;clear h7 hg7 ho7 hk7 hd7 hb7;go_simp)
         | (refine zaw (l:=ns row) (m:=ns [j]) (B:=w3.heap.size) (C:=w3.heap.size) yk5 _ _ yk5 yk5 yk5 (za6 HD7.o.ds.row ((ygr _ _).alloc (ygo _) _)) (zcz (heap_alloc_new _ _) hge7) HRL9.o (ygw hge7 yk3) ?_;intro v8 w8 h8 hg8 ho8;have H8:=Zh h8;have HG8:=Zh hg8;have HO8:=Zh ho8;clear h8 hg8 ho8;go_simp))
        | fail)
       go_roundg (C-(c+1))
       case measure=>have:=HMC.o;omega
       case rel =>
        have hk8:Kept (fun b=>(Value.slice Ar c cr).ownBlock=some b) w7 w8:=((Kept.refl _ _).alloc _).grown HG8.o (fun b e => .inl e);have hd8:=HD7.o.pushR (k:=j) hk8 ylg ykl;have hb8:=HB7.o.trans (hk8.below HD7.o.ds.hB (fun b e=>(ygs HD7.o.ds.row b e).1));have hnm:κ t∉fs'.map κ:=fun hm=>by
         obtain⟨s2,h1,h2⟩:=yhx.1 hm;obtain⟨j2,h3⟩:=yhu h1;exact HNO.o j2 s2 (by have:=(ygp.1 h3).1;rw[HL'.o] at this;exact this) h3 h2
        refine⟨c+1,_,_,fs'++[t],row++[j],rfl,rfl,by go_num,by omega,rfl,?_,?_,by rw[ygu,HRLEN.o];rfl,HMET'.o.push HTN.o hnm,hd8,hb8⟩
        .rw[←HRO.o,show C-c=(C-(c+1))+1 by omega,←HDT.o];have e:=zoq (κ:=κ) (nx:=dl rows s) (k:=C-(c+1)) (c:=c) (fs:=fs') (row:=row) fun j' h1 h2=>by
          rw[yhj] at h2;obtain⟨s2,h3,h4⟩:=Option.map_eq_some_iff.1 h2;exact HNO.o j' s2 (by rw[←HL'.o];exact h1) h3 (by rw[h4,HDT.o])
         rw[e,HL'.o]
        .obtain⟨lx,hlx⟩:=HPRE.o;exact⟨lx++[t],by rw[hlx,yhe]⟩
    .have hcl:C=c:=yjz;subst hcl;obtain⟨vs,n1,n2,n3,n4⟩:=HDL2.o.ds.nxt.mem;obtain⟨An2,cn2,hvN⟩:=zaf n2;obtain⟨rn,hrn⟩:∃ rn,rs.length=rn:=⟨_,rfl⟩;rw[hrn] at n2 hvN;subst hvN;have hbx:=HDL2.o.ds.box;have c257:=hbx.nxt;have hcn:rn<=100000:=(by have:=HRL.o;have:=HN9.o;have:=HMET.o.few;have:=HLF.o;omega);have hge:=HDL2.o.ds.hB;have HBX:=Zh hbx;have NU:=Zh n2;have N1:=Zh n1;have N3:=Zh n3;have N4:=Zh n4;have HRN:=Zh hrn;clear n1 n2 n3 n4 hbx hrn x6 x7 dk;have hcc:¬ (C:Int)<(C:Int):=yjz;have x6:=(HX2.o.stays HBEL.o).num;go_upto_region 19 with (first
      | (at_builtin;refine zg3 (B:=w3.heap.size) Try.infoRowP Try.underlying35 rfl yk6 yk6 yk5 _ _ yk5 yk5 (za6 NU.o ((ygr _ _).alloc (ygo _) _)) yk5 (heap_alloc_new _ _) rfl yle hcn (ygw hge yk3) ?_;intro v7 w7 h7 hg7 ho7;obtain⟨A7,c7,hf7⟩:=zaf h7;subst hf7;have hk7:Kept (fun b=>(Value.slice An2 rn cn2).ownBlock=some b) wr w7:=((Kept.refl _ _).alloc _).grown hg7 (fun b e => .inl e);have hb7:=HBX.o.oth hk7 (zdb NU.o (l:=[38]) yk6) yk3;have y7:=hb7.nxt;have f7:=hb7.frozen 257;have H7:=Zh h7;have HK7:=Zh hk7;have HBX7:=Zh hb7;clear h7 hg7 ho7 hk7 hb7;go_simp)
      | fail)
     have hk8:Kept (fun b=>(Value.slice An2 rn cn2).ownBlock=some b∨b=gl) wr (w7.setCell ⟨gl,257,none⟩ (.slice A7 (rn+1) c7)):=(HK7.o.mono (fun b e => .inl (.inl e)):Kept (fun b=>(Value.slice An2 rn cn2).ownBlock=some b∨b=gl) wr w7).setCell (a:=⟨gl,257,none⟩) (.inl (.inr rfl)) _;have hr8:(w7.setCell ⟨gl,257,none⟩ (.slice A7 (rn+1) c7)).ownsRow w3.heap.size 44 1 (.slice A7 (rn+1) c7) (rn+1) (vs++[.slice Ar C cr]):=
      zb9 H7.o ((Kept.refl (fun b=>b=gl) w7).setCell (a:=⟨gl,257,none⟩) (.inl rfl) _) (zdm HBX7.o (l:=[44]) yk6) yk3
     obtain⟨O8,hd8⟩:=HDL2.o.pushN N1.o (by rw[HRN.o];exact NU.o) N3.o N4.o hk8 (HBX7.o.setNxt _) (by rw[HRN.o];exact hr8);have hb8:=HB2.o.trans (hk8.below HB2.o.size fun b e=>e.elim (fun e=>(ygs NU.o b e).1) fun e=>by rw[e];exact HDL2.o.ds.gB);obtain⟨w8,hw8⟩:∃ w8,w7.setCell ⟨gl,257,none⟩ (.slice A7 (rn+1) c7)=w8:=⟨_,rfl⟩;rw[hw8] at hd8 hb8 ⊢;obtain⟨vN8,hvN8⟩:∃ v,Value.slice A7 (rn+1) c7=v:=⟨_,rfl⟩;rw[hvN8] at hd8;have hbel8:=HB3.o.trans (hb8.mono HB3.o.size);have hsk8:Hid (fs'[k]?=some s):=Zh (by obtain⟨lx,hlx⟩:=HPRE.o;rw[hlx,ygv HKL.o];exact HSK.o);obtain⟨outs,houts⟩:∃ outs,(fs.take k).map (fun s=>os.getD s (0,0))=outs:=⟨_,rfl⟩;rw[houts] at hd8;have HOUTS:=Zh houts;have n6:=hd8.ds.ots;obtain⟨Ao2,co2,hvO⟩:=zaf n6;obtain⟨on,hon⟩:∃ on,outs.length=on:=⟨_,rfl⟩;rw[hon] at n6 hvO;subst hvO;have hox:=HO2.o.kept (Kept.of_below (fun _=>False) hbel8) (fun _ _ q=>q);obtain⟨p,q',hpq⟩:∃ p q',os[s]?=some (p,q'):=⟨_,_,ygn (by rw[HOL.o];exact HSN.o)⟩;obtain⟨go,hgo⟩:∃ g,Ao=some ⟨g,0,none⟩:=by
      rcases hox.row.2 with ⟨_,h00⟩|⟨g,cap,cur,e,_⟩
      .rw[HOL.o] at h00;omega
      .injection e with e1;exact⟨g,e1⟩
     subst hgo;obtain⟨e1,e2⟩:=hox.cells hpq;have hx8:=HX2.o.stays hbel8;have c1:=hx8.out;obtain⟨g9,c9,e9,_,_,cellk⟩:=hd8.rf.at k (by rw[za9];exact (ygp.1 hsk8.out).1);have c2:w8.cell? ⟨gf,k,none⟩=some (.int .i64 (s:Int)):=by
      injection e9 with z1 z2 z3
      injection z1 with z1
      injection z1 with z1 _ _
      rw[z1,cellk];obtain⟨h1,h2⟩:=ygp.1 hsk8.out;simp[ns,h2]
     have q1:=fun b (e:(Value.slice Ao2 on co2).ownBlock=some b)=>ygs n6 b e
     have hlow:∀ b,b<w3.heap.size->¬ ((Value.slice Ao2 on co2).ownBlock=some b∨b=gl):=fun b hb e=>by
      rcases e with e|e
      .have:=(q1 b e).1;omega
      .have:=hd8.ds.gB;omega
     have hgfn:¬ ((Value.slice Ao2 on co2).ownBlock=some gf∨gf=gl):=fun e=>by
      obtain⟨cu,h1⟩:=za8 hd8.rf (b:=gf) rfl;rcases e with e|e
      .obtain⟨cv2,h2⟩:=za8 n6 e;exact za0 h1 h2 yk6 rfl
      .rw[e] at h1;exact za0 h1 hd8.ds.box yk6 rfl
     have hgln:¬ (Value.slice Ao2 on co2).ownBlock=some gl:=fun e=>by
      obtain⟨cv2,h2⟩:=za8 n6 e;exact za0 h2 hd8.ds.box yk6 rfl
     have hb03:b0<w3.heap.size:=(by have:=HX2.o.lt;have:=HB3.o.size;omega);have hgo3:go<w3.heap.size:=(by have:=(ygs HO2.o.row go rfl).2;have:=HB3.o.size;omega);have c4:=hd8.ds.box.out;have hc1:=fun (W:World) (kk:Kept (fun b=>(Value.slice Ao2 on co2).ownBlock=some b∨b=gl) w8 W)=>kk.cell (a:=⟨b0,258,none⟩) c1 (hlow b0 hb03)
     have hc3:=fun (W:World) (kk:Kept (fun b=>(Value.slice Ao2 on co2).ownBlock=some b∨b=gl) w8 W)=>kk.cell (a:=⟨gf,k,none⟩) c2 hgfn
     have hc2:=fun (W:World) (kk:Kept (fun b=>(Value.slice Ao2 on co2).ownBlock=some b∨b=gl) w8 W)=>kk.cell (a:=⟨go,s*2,none⟩) e1 (hlow go hgo3)
     have hc5:=fun (W:World) (kk:Kept (fun b=>(Value.slice Ao2 on co2).ownBlock=some b∨b=gl) w8 W)=>kk.cell (a:=⟨go,s*2+1,none⟩) e2 (hlow go hgo3)
     have hc4:=fun (W:World) (kk:Kept (fun b=>(Value.slice Ao2 on co2).ownBlock=some b) w8 W)=>kk.cell (a:=⟨gl,258,none⟩) c4 hgln
     have hfz:=fun (W:World) (kk:Kept (fun b=>(Value.slice Ao2 on co2).ownBlock=some b) w8 W)=>(hd8.ds.box.kept kk hgln).frozen
     have HC1:=Zh hc1;have HC2:=Zh hc2;have HC3:=Zh hc3;have HC4:=Zh hc4;have HC5:=Zh hc5;have HFZ:=Zh hfz;have HPO:=Zh n6;have HD8:=Zh hd8;have HB38:=Zh hb8;have HB8:=Zh hb8.size;have HONN:=Zh hon;have HPQ:=Zh hpq;have HNG:=Zh hgln;have hco:on<=100000:=by
      rw[←hon,←houts,yh8,yi9];have:=HLF.o;have:=HMET.o.few;have:=HN9.o;omega
     have HQR:=Zh (fun (W:World) (kk:Kept (fun b=>(Value.slice Ao2 on co2).ownBlock=some b) w8 W)=>(kk.mono (fun b e => .inl (.inl e)):Kept (fun b=>(Value.slice Ao2 on co2).ownBlock=some b∨b=gl) w8 W));have hsN':(s:Int)<(N:Int):=(by have:=HSN.o;omega);clear hw8 hvN8 hk8 hr8 hd8 hb8 hbel8 n6 hox hpq e1 e2 hx8 c1 c2 c4 e9 cellk q1 hlow hgfn hgln hb03 hgo3 hc1 hc2 hc3 hc4 hc5 hfz hon houts y7 f7 c257;have hmx:Try.prog.follows .mixedOrders=true:=yk2;have hS0:Kept (fun b=>(Value.slice Ao2 on co2).ownBlock=some b) w8 w8.drew:=(Kept.refl _ w8).drew;have hR0:=HQR.o _ hS0;refine zcp (R:=fun W=>Kept (fun b=>(Value.slice Ao2 on co2).ownBlock=some b∨b=gl) w8 W) (S:=fun W=>Kept (fun b=>(Value.slice Ao2 on co2).ownBlock=some b) w8 W) (T:=[13]) hmx ?_;refine anyR_tk (i:=0) (v := .pointer (some ⟨gl,258,none⟩)) rfl (Or.inl ⟨by rfl,fun w' hS=>by go_simp⟩) hR0 (fun _=>hS0) ?_;refine anyT_tk (i:=1) (v := .slice Ao2 on co2) rfl (Or.inl ⟨by rfl,fun w' hS=>by have t1:=HC4.o w' hS;go_simp⟩) hR0 hS0 ?_;refine anyR_tk (i:=2) (v := .pointer (some ⟨b0,258,none⟩)) rfl (Or.inl ⟨by rfl,fun w' hS=>by go_simp⟩) hR0 (fun _=>hS0) ?_;refine anyR_tk (i:=3) (v := .slice (some ⟨go,0,none⟩) N co) rfl (Or.inl ⟨by rfl,fun w' hS=>by have t1:=HC1.o w' hS;go_simp⟩) hR0 (fun _=>hS0) ?_;refine anyR_tk (i:=4) (v := .slice (some ⟨gf,0,none⟩) L' cf) rfl (Or.inl ⟨by rfl,fun w' hS=>by go_simp⟩) hR0 (fun _=>hS0) ?_;refine anyR_tk (i:=5) (v := .int .i64 (k:Int)) rfl (Or.inl ⟨by rfl,fun w' hS=>by go_simp⟩) hR0 (fun _=>hS0) ?_;go_simp;refine anyR_tk (i:=6) (v := .pointer (some ⟨gf,k,none⟩)) rfl (Or.inl ⟨by rfl,fun w' hS=>by go_simp⟩) hR0 (fun _=>hS0) ?_;refine anyR_tk (i:=7) (v := .int .i64 (s:Int)) rfl (Or.inl ⟨by rfl,fun w' hS=>by have t1:=HC3.o w' hS;go_simp⟩) hR0 (fun _=>hS0) ?_;refine anyR_tk (i:=8) (v := .pointer (some ⟨go,s*2,none⟩)) rfl (Or.inl ⟨by rfl,fun w' hS=>by go_simp⟩) hR0 (fun _=>hS0) ?_;refine anyR_tk (i:=9) (v := .agg #[.int .u64 (p:Int),.int .u64 (q':Int)]) rfl (Or.inl ⟨by rfl,fun w' hS=>by have t1:=HC2.o w' hS;have t2:=HC5.o w' hS;go_simp⟩) hR0 (fun _=>hS0) ?_;go_simp;refine za2 (rs:=[10]) yk2 yk3 ?_;refine za5 (za4 rfl fun K hK=>?_);go_simp;refine hK.out _ _ (HQR.o _ yk7) (fun _=>yk7) ?_;clear hK K;refine za2 (rs:=[11]) yk2 yk3 ?_;refine za5 (za4 rfl fun K hK=>?_);refine zj0 yk5 _ _ yk5 yk5 (za7 HPO.o fun b e hb=>(show Kept (fun _=>False) w8 _ from (by repeat (first | with_reducible exact Kept.refl _ _ | with_reducible refine Kept.drew ?_ | with_reducible refine Kept.alloc ?_ _))).block b hb fun q=>q) yk5 ykh hco (ygw HB8.o (show Kept (fun b=>(Value.slice Ao2 on co2).ownBlock=some b) w8 _ from yk7).size) ?_;intro v2 W2 r2 g2 o2';obtain⟨A2,c2',rfl⟩:=zaf r2;have R2:=Zh r2;have G2:=Zh g2;clear r2 g2 o2';refine hK.out _ _ (HQR.o _ yk7) (fun _=>yk7) ?_
     clear hK K;refine anyR_tk (i:=12) (v := .pointer (some ⟨gl,258,none⟩)) rfl (Or.inl ⟨by rfl,fun w' hS=>by go_simp⟩) (HQR.o _ yk7) (fun _=>yk7) ?_;have hSe:Kept (fun b=>(Value.slice Ao2 on co2).ownBlock=some b) w8 W2:=yk7;refine za2 (rs:=[13]) yk2 yk3 ?_;refine za5 (za4 rfl fun K hK=>?_);have t3:=HC4.o W2 hSe;have t4:=HFZ.o W2 hSe 258;go_simp;refine hK.out _ _ ((HQR.o _ hSe).setCell (a:=⟨gl,258,none⟩) (.inl (.inr rfl)) _) (zak (t:=13) yk3 yk2) ?_;clear hK K;refine zcb yk2 ?_ _;go_wp2;have hk9:Kept (fun b=>(Value.slice Ao2 on co2).ownBlock=some b∨b=gl) w8 (W2.setCell ⟨gl,258,none⟩ (.slice A2 (on+1) c2')):=(HQR.o _ hSe).setCell (a:=⟨gl,258,none⟩) (.inl (.inr rfl)) _;have hbx2:BoxM W2 gl 38 F (C:Int) vN8 (.slice Ao2 on co2):=HD8.o.ds.box.kept hSe HNG.o;have hr9:=zb9 R2.o ((Kept.refl (fun b=>b=gl) W2).setCell (a:=⟨gl,258,none⟩) (.inl rfl) (.slice A2 (on+1) c2')) (zdm hbx2 (l:=[51]) yk6) yk3;have hd9:=HD8.o.pushO (o:=(p,q')) hk9 (hbx2.setOut _) (by rw[HONN.o];exact hr9);have hb9:=HB38.o.trans (hk9.below HB38.o.size fun b e=>e.elim (fun e=>(ygs HPO.o b e).1) fun e=>by rw[e];exact HD8.o.ds.gB);have HD9:=Zh hd9;have HB9:=Zh hb9;clear hd9 hb9 hr9 hbx2 hk9;obtain⟨fu',hfu'⟩:∃ fu',fu=fu'+1:=⟨fu-1,by have:=HFU.o;have:=HKL.o;have:=HMET.o.few;omega⟩;have HFU':=Zh hfu';clear hfu';go_roundg (N-(k+1))
     case measure=>have:=HMM.o;have:=HFU.o;have:=HFU'.o;omega
     case rel =>
      obtain⟨lx,hlx⟩:=HPRE.o;have hlen:k<fs.length:=HKL.o;refine⟨k+1,fu',.slice (some ⟨gf,0,none⟩) L' cf,vN8,.slice A2 (on+1) c2',O8,fs',rs++[row],rfl,by go_num,by rw[hlx,ygu];omega,rfl,by simp[HRL.o],?_,by have:=HFU.o;have:=HFU'.o;omega,HMET'.o,?_,HB9.o⟩
      .rw[←HLS.o,HFU'.o];refine (zor HSK.o ?_).symm;rw[←HRO.o,yi3];rfl
      .have e:(fs'.take (k+1)).map (fun s=>os.getD s (0,0))=outs++[(p,q')]:=by
        rw[hlx,yje yjz,yh2 hlen,yhl,HOUTS.o];obtain⟨_,he⟩:=ygp.1 HSK.o;rw[he,yhw,yia,ygq,HPQ.o];rfl
       rw[e];exact HD9.o
  .have hkl:k=Lf:=yjz;subst hkl;have htg:TGT=(fs,rs):=(by rw[←HLS.o,zos (yh6 (by rw[HLF.o];exact ygo _))]);have htk:fs.take k=fs:=yhg (by rw[HLF.o];exact ygo _);obtain⟨AN,cN,eN⟩:=HDL1.o.ds.nxt.form;obtain⟨AO,cO,eO⟩:=zaf HDL1.o.ds.ots;obtain⟨nN,hnN0⟩:∃ n,rs.length=n:=⟨_,rfl⟩;obtain⟨nO,hnO0⟩:∃ n,((fs.take k).map fun s=>os.getD s (0,0)).length=n:=⟨_,rfl⟩;rw[hnN0] at eN;rw[hnO0] at eO;subst eN eO;have HTGT:=Zh htg;have HTK:=Zh htk;have hbl:=HB02.o.trans ((HB3.o.trans (HBW.o.mono HB3.o.size)).mono HB02.o.size);have HBL:=Zh hbl;have HY:=Zh (HY2.o.stays (HB3.o.trans (HBW.o.mono HB3.o.size)));have hkk2:¬ (k:Int)<(k:Int):=yjz;clear htg htk hnN0 hbl;go_wp2_with (first
    | (refine zbh yk5 _ yk5 yk5 Try.underlying38 rfl Try.sizeMR HDL1.o.ds.box ?_;go_simp)
    | (refine zab yk5 _ _ yk5 yk5 yk5 Try.sizeMR rfl rfl HY.o ?_;intro hbx;have HBZ:=Zh hbx;clear hbx;go_simp)
    | fail)
   have hb0:=HB0.o;have hbl0:b0+1<w2.heap.size:=HY2.o.lt;have hk2:Kept (fun b=>b=b0+1) wr (wr.setRow (b0+1) (zac F (C:Int) (.slice AN nN cN) (.slice AO nO cO))):=zci (Kept.refl (fun b=>b=b0+1) wr) (.inl rfl) _;have hyb:=zdm HY.o (l:=[51,44,3]) yk6;have hots:=zb9 HDL1.o.ds.ots hk2 hyb yk3;have hnx:=HDL1.o.ds.nxt.oth hk2 (zdm HY.o yk6);have hw3:w.heap.size<=w3.heap.size:=ygw HB02.o.size HB3.o.size;rw[HTK.o,yh8] at hots;refine bodyPost_ret (v := .agg (zac F (C:Int) (.slice AN nN cN) (.slice AO nO cO))) (zf5 Try.results31 rfl Try.underlying38 rfl Try.sizeMR HBZ.o) rfl ⟨_,_,O1,fs,rs,rfl,HTG.o.trans HTGT.o,hnx.low hw3,zb2 hots hw3,below_setRow HBL.o yjz _⟩
end Go.Proofs.Ytipfgpfplakhiaa
