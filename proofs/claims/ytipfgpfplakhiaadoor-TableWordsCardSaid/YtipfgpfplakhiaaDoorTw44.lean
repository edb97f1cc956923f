import Derived.Test.YtipfgpfplakhiaaDoorTw22
import Derived.Test.YtipfgpfplakhiaaDoorTw42
set_option linter.unusedVariables false
set_option linter.unusedSimpArgs false
set_option maxRecDepth 20000
set_option maxHeartbeats 4000000
namespace Go.Proofs.YtipfgpfplakhiaaDoor
open Go Go.RowKit
section
attribute [local go_sem ↓] zil
def zew (L:List (Lay×Str)) (bs:List Bool):Nat->Nat:=numK (keyL ((togP L bs L.length).map Plc.set))
def zef (L:List (Lay×Str)) (bs:List Bool):Nat:=cntK (keyL ((togP L bs L.length).map Plc.set)) 256
def zct (L:List (Lay×Str)) (bs:List Bool) (lam most:Nat):Option (List Sta×List (List Nat)):=ze3 (zhp (RR L bs lam) (zew L bs)) most (zef L bs) (most+1) 0 [[]] []
def errV (c:Int):Value := .iface 74 (.int .i64 c)
def zbm:Array Value:=zaf (fun _=>0) 0 (.slice none 0 0) (.slice none 0 0)
def zqj (w:World) (L:List (Lay×Str)) (bs:List Bool) (lam:Nat) (o:Option (List Sta×List (List Nat))) (e:Ending) (w':World):Prop:=match o with
 | none=>e = .returned (.tuple #[.agg zbm,errV 11])
 | some (ss,rows)=>∃ vN vO O,e = .returned (.tuple #[.agg (zaf (zew L bs) (zef L bs) vN vO),.nilIface])∧Nxt w' w.heap.size O vN rows∧Ots w' w.heap.size O vO (ss.map fun s=>zbb (RR L bs lam) s (0,0))
def yd4 (w:World) (L:List (Lay×Str)) (bs:List Bool) (lam most:Int) (e:Ending) (w':World):Prop:=
 Below w.heap.size w w'∧
 if bs.length≠L.length∨lam<1∨32<lam∨most<1∨1000<most then e = .returned (.tuple #[.agg zbm,errV 1]) else
 zqj w L bs lam.toNat (zct L bs lam.toNat most.toNat) e w'
theorem Tryd.infoIntB:(Tryd.prog.info? 3).map (fun i=>(i.zero,i.size,i.bytes))=some (some (.int .i64 0),1,8):=by kernel_rfl
theorem zwg (w:World):Known ((w.alloc (.map #[] 0)).alloc (.cells #[.slice none 0 0,.map (some w.heap.size)] 86)) (fun b=>w.heap.size<=b∧b<w.heap.size+2) (w.heap.size+1) []:=by
 refine⟨⟨.slice none 0 0,w.heap.size,[],.map [],zav _ _ _ _ yii,rfl,yfx _ _ _ 1,fun i v s e1 e2=>by simp at e1,(World.ownsMap_made w Tryd.prog 9 _).alloc _,MapIs.nil,by omega,by omega,fun b e=>yj0,fun v hv=>by simp at hv⟩,fun b hb=>by simp;omega,by simp⟩
theorem ye6 {w7 w:World} {gm C:Nat} {F:Nat->Nat} (hlt:gm<w.heap.size) (h:BoxM w gm 38 F C (.slice none 0 0) (.slice none 0 0)):
 BS w ((w.alloc (.map #[] 0)).alloc (.cells #[.slice none 0 0,.map (some w.heap.size)] 86)) gm (w.heap.size+1) (fun b=>w.heap.size<=b∧b<w.heap.size+2) (fun _=>False) F C (.slice none 0 0) (.slice none 0 0) (.slice none 0 0) [] [] [] []:=
 ⟨((Kept.refl _ w).alloc _).alloc _,hlt,h.stays (((yf6 _ _).alloc (yez _) _).alloc yii _),Nxt.nil _ _ _,Ots.nil _ _ _,fun b e=>e.elim,zwg w,fun b e=>e.1,Wds.nil _ _,fun b e=>yj0,fun b e=>yj0,fun b e=>e.elim⟩
theorem zz3 {w:World} {A B:Option Addr} {ca cb:Nat} {L:List (Lay×Str)} {bs:List Bool} {lam most:Int} (h:RdNfas w w.heap.size A L) (hb:RdBo w B bs) (hlam : -9223372036854775808<=lam∧lam<=9223372036854775807) (hmost : -9223372036854775808<=most∧most<=9223372036854775807) (hL:∀ s x,(s,x)∈L->zfl s x) (hn:L.length<=64) (hbn:bs.length<=1000):
 Calls Tryd.prog 8 #[.slice A L.length ca,.slice B bs.length cb,.int .i64 lam,.int .i64 most] w (yd4 w L bs lam most):=by
 have hz38:∀ w:World,Sem.run Tryd.prog (zeroValue 38) w = .ok (.agg zbm) w:=fun _=>by kernel_rfl
 obtain⟨N,hN⟩:∃ N,L.length=N:=⟨_,rfl⟩;obtain⟨M,hM⟩:∃ M,bs.length=M:=⟨_,rfl⟩;unfold yd4;rw[hN,hM];have bx0:=BoxM.new w 38 (fun _=>0) 0 (.slice none 0 0) (.slice none 0 0);have hB0:Below w.heap.size w (w.alloc (.cells zbm 38)):=(yf6 _ _).alloc (yez _) _;have HBX0:=Zh bx0;have HB0:=Zh hB0
 by_cases hbad:M≠N∨lam<1∨32<lam∨most<1∨1000<most
 .simp only[if_pos hbad];rcases (show ¬ (M:Int)=(N:Int)∨((M:Int)=(N:Int)∧lam<1)∨((M:Int)=(N:Int)∧¬ lam<1∧32<lam)∨((M:Int)=(N:Int)∧¬ lam<1∧¬ 32<lam∧most<1)∨((M:Int)=(N:Int)∧¬ lam<1∧¬ 32<lam∧¬ most<1∧1000<most) by omega) with d1|⟨d1,d2⟩|⟨d1,d2,d3⟩|⟨d1,d2,d3,d4⟩|⟨d1,d2,d3,d4,d5⟩
  all_goals
   have hq:((M:Int)==(N:Int))=decide ((M:Int)=(N:Int)):=rfl;simp only[d1,decide_true,decide_false] at hq;clear hN hM h hb hbad bx0 hB0;go_enter Tryd.func8,Tryd.ntmps8;go_wp2_with (first
    | (refine zag yik _ _ yik yik yik Tryd.sizeMM rfl rfl HBX0.o ?_;intro hbx;have HBX1:=Zh hbx;clear hbx;go_simp)
    | fail)
   exact bodyPost_ret (v := .tuple #[.agg zbm,errV 1]) (zc8 Tryd.results8 rfl rfl Tryd.underlying38 rfl Tryd.sizeMM HBX1.o) rfl ⟨below_setRow HB0.o (yez _) _,rfl⟩
 simp only[if_neg hbad];obtain⟨ln,rfl⟩:∃ k:Nat,lam=(k:Int):=⟨lam.toNat,by omega⟩;obtain⟨mn,rfl⟩:∃ k:Nat,most=(k:Int):=⟨most.toNat,by omega⟩;rw[yft,yft];obtain rfl:M=N:=by omega
 have d2:¬ (ln:Int)<1:=yie;have d3:¬ (32:Int)<(ln:Int):=yie;have d4:¬ (mn:Int)<1:=yie;have d5:¬ (1000:Int)<(mn:Int):=yie;have hV:=zno (bs:=bs) hL hn (lam:=ln) ⟨by omega,by omega⟩;have htg:=fun (W:World) (hW:Below w.heap.size w W)=>zsp (ca:=ca) (cb:=cb) (lam:=ln) (h.stays hW) (hb.stays hW) yie hn (fun s x e=>(hL s x e).sets) (fun s x e=>(hL s x e).firstN) (fun s x e=>(hL s x e).first)
 unfold yas at htg;rw[hN,hM] at htg;have HTG:=Zh htg;obtain⟨R,hR⟩:∃ R,RR L bs ln=R:=⟨_,rfl⟩;have hRp:togP L bs M=R.places:=(by rw[←hR,←hN];rfl);have hRf:togF L bs M=R.first:=by rw[←hR,←hN];rfl
 have hRl:R.lam=ln:=(by rw[←hR];rfl);rw[hRp,hRf] at HTG;have HV:Hid (zn9 R):=Zh (by rw[←hR];exact hV);obtain⟨F,hF⟩:∃ F,zew L bs=F:=⟨_,rfl⟩;obtain⟨C,hC⟩:∃ C,zef L bs=C:=⟨_,rfl⟩;have hFk:F=numK (keyL (R.places.map Plc.set)):=(by rw[←hF,←hRp,←hN];rfl);have hCk:C=cntK (keyL (R.places.map Plc.set)) 256:=(by rw[←hC,←hRp,←hN];rfl);have hFC:∀ b,b<256->F b<C:=fun b hb=>by rw[hFk,hCk];exact zd7 _ hb
 have hC256:C<=256:=(by rw[hCk];exact zgj _ _);have HFC:=Zh hFC;have HFK:=Zh hFk;have HCK:=Zh hCk;have HSR:=Zh (show zct L bs ln mn=ze3 (zhp R F) mn C (mn+1) 0 [[]] [] by unfold zct;rw[hF,hC,hR]);rw[HSR.o];obtain⟨TGT,hTGT⟩:∃ t,ze3 (zhp R F) mn C (mn+1) 0 [[]] []=t:=⟨_,rfl⟩;rw[hTGT];have HTGT:=Zh hTGT;clear hTGT;have HRL:=Zh hRl;have HCF:=Zh (show zew L bs=F∧zef L bs=C∧RR L bs ln=R from⟨hF,hC,hR⟩);clear hN hM h hb hbad bx0 hB0 hV htg hR hRp hRf hRl hF hC hFk hCk hFC HSR hL hn;go_enter Tryd.func8,Tryd.ntmps8;go_upto_region 4 with (first
  | (go_at_call 19;(with_reducible refine (HTG.o _ HB0.o).mono ?_);rintro e w1 ⟨v,v1,C1,rfl,hC1,hp1,hf1,hb1⟩;obtain⟨Ap,cp,hfp,_⟩:=hp1.form;obtain⟨Af,cf,hff⟩:=hf1.form;subst hfp hff;have hn1:HasO (w1.alloc (.cells #[.slice none 0 0,.slice none 0 0,.int .i64 0] 77)) w1.heap.size (.cells #[.slice none 0 0,.slice none 0 0,.int .i64 0] 77 (0,0)):=zav _ _ _ _ rfl;have hst:=zun (ty:=77) (cs:=#[.slice Ap R.places.length cp,.slice Af (ns R.first).length cf,.int .i64 (ln:Int)]) hn1 yih rfl (by simp[Value.oneCell']);have hy:=zq3 (cs:=#[.slice Ap R.places.length cp,.slice Af (ns R.first).length cf,.int .i64 (ln:Int)]) hn1;have HN1:=Zh hn1;have HY:=Zh hy;have HC1:=Zh hC1;have HP1:=Zh hp1;have HF1:=Zh hf1;have HB1:=Zh (gro HB0.o hb1);have HBX1:=Zh (HBX0.o.stays hb1);clear hn1 hy hC1 hp1 hf1 hb1)
  | fail)
 have hbs:Below w1.heap.size w1 (stoW (w1.alloc (.cells #[.slice none 0 0,.slice none 0 0,.int .i64 0] 77)) (.pointer (some ⟨w1.heap.size,0,none⟩)) (.agg #[.slice Ap R.places.length cp,.slice Af (ns R.first).length cf,.int .i64 (ln:Int)])):=zk5 ((yf6 _ _).alloc (yez _) _) (yez _);have hR2:RulesIn (stoW (w1.alloc (.cells #[.slice none 0 0,.slice none 0 0,.int .i64 0] 77)) (.pointer (some ⟨w1.heap.size,0,none⟩)) (.agg #[.slice Ap R.places.length cp,.slice Af (ns R.first).length cf,.int .i64 (ln:Int)])) w1.heap.size R:=by
  have:=(HP1.o.stays HC1.o hbs).rules (HF1.o.stays hbs) (gr:=w1.heap.size) (lam:=ln) HY.o;have e:(⟨R.places,R.first,ln⟩:RSt)=R:=(by rw[←HRL.o]);rw[e] at this;exact this
 clear hst;generalize stoW (w1.alloc (.cells #[.slice none 0 0,.slice none 0 0,.int .i64 0] 77)) (.pointer (some ⟨w1.heap.size,0,none⟩)) (.agg #[.slice Ap R.places.length cp,.slice Af (ns R.first).length cf,.int .i64 (ln:Int)])=w2 at *;have HR2:=Zh hR2;have HB2:=Zh (gro HB1.o hbs);have HBX2:=Zh (HBX1.o.stays hbs);have HS2:=Zh (show w1.heap.size<w2.heap.size from za0 HY.o);clear hR2 hbs HY HN1 HP1 HF1 HC1 HTG HBX1 HBX0;obtain⟨gr,hgr⟩:∃ gr,w1.heap.size=gr:=⟨_,rfl⟩;rw[hgr] at HR2 HS2 ⊢;have bx3:=BoxM.new w2 38 (fun _=>0) 0 (.slice none 0 0) (.slice none 0 0);have HB3:Hid (Below w2.heap.size w2 (w2.alloc (.cells zbm 38))):=Zh ((yf6 _ _).alloc (yez _) _);have HBX3:=Zh bx3;have hms:=ybp (HR2.o.stays HB3.o) HV.o.P;have HMS:=Zh hms;have hco:=fun (W:World) (A:Option Addr) (c:Nat) (hr:RdS W W.heap.size A (R.places.map Plc.set))=>zx8 W A c _ hr (by rw[yfr];have:=HV.o.P;omega)
 unfold yat at hco;rw[←HFK.o,←HCK.o,yfr] at hco;have HCO:=Zh hco;have HME:=Zh (fun W:World=>ybu (w:=W) F C yie HFC.o);clear bx3 hms hco hgr;obtain⟨P,hP⟩:∃ P,R.places.length=P:=⟨_,rfl⟩;rw[hP] at HMS HCO;go_upto_region 5 with fail
 go_upto_region 6 with (first
  | (go_at_call 21;(with_reducible refine HMS.o.mono ?_);rintro e w4 ⟨g4,rfl,s4,b4⟩;have HB4:=Zh (gro HB3.o b4);have HBX4:=Zh (HBX3.o.stays b4);have HS4:=Zh s4;clear s4 b4)
  | (go_at_call 20;(with_reducible refine (HCO.o _ _ _ HS4.o.rd).mono ?_);rintro e w5 ⟨rfl,b5⟩;have HB5:=Zh (gro HB4.o b5);have HBX5:=Zh (HBX4.o.stays b5);clear b5)
  | (refine zpf yik _ _ yik yik yik HBX5.o ?_;intro w6 hb6 hk6 hs6;have y6:=hb6.num;have f6:=hb6.frozen 256;have HBX6:=Zh hb6;have HK6:=Zh hk6;have HS6:=Zh hs6;clear hb6 hk6 hs6;go_simp)
  | fail)
 have hb7:BoxM (w6.setCell ⟨w2.heap.size,256,none⟩ (.int .i64 (C:Int))) w2.heap.size 38 F (C:Int) (.slice none 0 0) (.slice none 0 0):=HBX6.o.setNum _;have hk7:Below w2.heap.size w2 (w6.setCell ⟨w2.heap.size,256,none⟩ (.int .i64 (C:Int))):=Below.setCell (p:=⟨w2.heap.size,256,none⟩) (HB5.o.trans (HK6.o.below HB5.o.size fun b e=>by omega)) (yez _) _;generalize w6.setCell ⟨w2.heap.size,256,none⟩ (.int .i64 (C:Int))=w7 at *;have HBX7:=Zh hb7;have HB7:=Zh hk7;have y7:=hb7.num;clear hb7 hk7 y6 f6 HBX6 HK6 HS6 HB5 HBX5 HS4 HBX4 HB4 HMS HCO HB3 HBX3;have hmm := @run_makeMap Tryd.prog;go_upto_region 8 with (first
  | (refine zi4 yik _ yik yik HBX7.o ?_;go_simp)
  | (go_at_call 22;(with_reducible refine (HME.o _).mono ?_);rintro e w8 ⟨g8,rfl,s8,b8⟩;have HB8:=Zh (gro HB7.o b8);have HBX8:=Zh (HBX7.o.stays b8);have HS8:=Zh s8;clear s8 b8)
  | fail)
 have hb9:=ye6 (w7:=w7) HBX8.o.lt HBX8.o;have hmt:=zvn hb9.kn (Wds.nil _ 0) (fun b e=>yj0) (show okSt [] from fun x hx=>by simp at hx) yii yii;have HB9:=Zh hb9;have HMT:=Zh hmt;have hru8:=HR2.o.stays HB8.o;have hru:∀ W,Kept (fun b=>b=w2.heap.size) w8 W->RulesIn W gr R:=fun W k=>hru8.kept k fun b e hb=>by
  subst e;exact⟨_,_,HBX8.o,by decide,by decide,by decide⟩
 have hres:∀ W,Kept (fun b=>b=w2.heap.size) w8 W->BoxM W w.heap.size 38 (fun _=>0) 0 (.slice none 0 0) (.slice none 0 0):=fun W k=>(HBX2.o.stays HB8.o).kept k fun e=>by have:=HBX2.o.lt;omega
 have hsam:∀ W,Kept (fun b=>b=w2.heap.size) w8 W->∀ c,c<C->W.cell? ⟨g8,c,none⟩=some (.int .u8 (lastB F 256 c:Nat)):=fun W k c hc=>by
  have h8:=HS8.o;refine k.cell (a:=⟨g8,c,none⟩) ((yf7 h8 c yie).trans (zff C _ c hc)) fun e=>?_
  have h1:=(yf5 h8 g8 rfl).1;have h2:=HBX7.o.lt;have e':g8=w2.heap.size:=e;omega
 have HRU:=Zh hru;have HRES:=Zh hres;have HSAM:=Zh hsam;have HGM:=Zh (show w.heap.size<w2.heap.size from HBX2.o.lt);clear hb9 hmt hru hres hsam hru8 y7 HBX7 HB7 HS8 HR2 HBX2;generalize hw9:(w8.alloc (.map #[] 0)).alloc (.cells #[.slice none 0 0,.map (some w8.heap.size)] 86)=w9 at *;obtain⟨gs,hgs⟩:∃ gs,w8.heap.size+1=gs:=⟨_,rfl⟩;rw[hgs] at HMT HB9 ⊢;go_wp2_with (first
  | (go_at_call 23;(with_reducible refine HMT.o.mono ?_);rintro e w10 ⟨i10,ss10,K10,rfl,hi10,hs10,hn10,hK10,hk10⟩;have hss:ss10=[[]]:=hs10.elim (fun h=>by rw[h] at hi10;simp at hi10) (fun h=>by simpa using h.2);subst hss;have HB10:=Zh (HB9.o.met hn10 hk10 hK10);clear hi10 hs10 hn10 hK10 hk10)
  | fail)
 clear HMT HB9 hw9 w9;go_loopg [14,15] (mn+1) (fun mm vr i wr=>∃ (k:Nat) (K O:Nat->Prop) (vN vO:Value) (rows:List (List Nat)) (ss:List Sta) (l0:Sta),i = .int .i64 (k:Int)∧k<=ss.length∧mm=mn+1-k∧BS w8 wr w2.heap.size gs K O F C vN vO vr rows ((ss.take k).map fun s=>zbb R s (0,0)) ss l0∧(∀ s∈ss,May R s∧s.length<=100000)∧ss.length<=mn∧rows.length=k∧ze3 (zhp R F) mn C (mn+1-k) k ss rows=TGT)
 case atStart=>exact⟨0,K10,_,_,_,_,_,_,by first | rfl | trivial,by simp,by first | rfl | trivial,HB10.o,fun s hs=>by simp at hs;subst hs;exact⟨fun x hx=>by simp at hx,by simp⟩,by simp;omega,rfl,HTGT.o⟩
 case round =>
  obtain⟨k,K,O,vN,vO,rows,ss,l0,rfl,hk,hmk,hbs,hmay,hsl,hrl,htg⟩:=hrel;generalize wr=wo at *;have HMK:=Zh hmk;have HBS:=Zh hbs;have HMAY:=Zh hmay;have HTG:=Zh htg;have HRW:=Zh hrl;obtain⟨va,bm,vs,D,q1,q2,q3,q4,_⟩:=hbs.kn.mem;obtain⟨S,hS⟩:∃ S,ss.length=S:=⟨_,rfl⟩;rw[hS] at q2 q3 hk hsl;have HS:=Zh hS;obtain⟨Aa,ca',hfa⟩:=zas q3;subst hfa;have p0:wo.cell? ⟨gs,0,none⟩=some (.slice Aa S ca'):=cell_of_row wo gs 0 _ _ (0,0) q1;have hmS:(mn:Int)+1<=2000:=yie;have hcls:=hbs.box.num;clear hmk hbs hmay htg hrl hS
  by_cases hkS:k<S
  .obtain⟨s,hs⟩:∃ s,ss[k]?=some s:=⟨_,yey (by rw[HS.o];exact hkS)⟩;obtain⟨vi,hvi⟩:∃ vi,vs[k]?=some vi:=⟨_,yey yie⟩;have hws:=q4 k vi s hvi hs;obtain⟨ga,rfl⟩:∃ ga,Aa=some ⟨ga,0,none⟩:=by
    rcases q3.2 with ⟨_,h0⟩|⟨g,cap,cur,e,_⟩
    .omega
    .injection e with e1;exact⟨g,e1⟩
   have p1:wo.cell? ⟨ga,k,none⟩=some vi:=(yf7 q3 k yie).trans hvi;obtain⟨hms,hml⟩:=HMAY.o s (yfh hs);have hah:=zz5 (HRU.o wo HBS.o.keep) HV.o hws hms hml;have HAH:=Zh hah;obtain⟨i0,hi,hi0,hi1,hi2⟩:=info_parts Tryd.infoIntB;have hmkr:=fun (W:World) (hW:w8.heap.size<=W.heap.size)=>run_make_full (P:=Tryd.prog) W w8.heap.size 68 3 i0 _ 1 Tryd.underlying68 hi hi0 hi1 .i64 .i64 C (by rw[hi2];omega) yin hW
   have HMKR:=Zh hmkr;obtain⟨Av,cv,hfv⟩:=hws.form;subst hfv;have i1:(0:Int)<=(k:Int):=yie;have i2:(k:Int)<(S:Int):=yie;clear hah hmkr q1 q2 q3 q4 hms hml hws hvi hi hi0 hi1 hi2;go_upto_region 14 with (first
    | (go_at_call 24;(with_reducible refine HAH.o.mono ?_);rintro e w11 ⟨va1,rfl,h11,b11⟩;have HAW:=Zh h11;have B11:=Zh b11;have hcls11:=za4 hcls b11;clear h11 b11)
    | fail)
   have hw11:w8.heap.size<=w11.heap.size:=yfa HBS.o.keep.size B11.o.size;obtain⟨w12,hr12,ho12,hg12⟩:=HMKR.o w11 hw11;have hb12:Below w11.heap.size w11 w12:=(yf6 _ _).grown hg12 (yez _) fun b e=>by cases e
   have hxs:(madeCells (Value.int .i64 0).cells (C*1)).toList=(ns (List.replicate C 0)).map (Value.int .i64):=by
    rw[ygl]
    show (madeCells #[Value.int .i64 0] C).toList=_
    rw[toList_madeCells_one];simp[ns]
   rw[hxs] at ho12;have his:IS w8 w12 w2.heap.size gs K O F C vN vO u14 rows ((ss.take k).map fun s=>zbb R s (0,0)) ss l0 va1 (zf0 R s) w11.heap.size C (List.replicate C 0):=by
    have hk11:=HBS.o.keep.size;have hlt:=zgl HAW.o;refine⟨(HBS.o.stays B11.o).stays hb12,za6 (zbh HAW.o hk11) hb12,fun b e k=>?_,fun b e e'=>?_,?_,fun k=>?_,fun e=>?_,fun e=>?_,fun k=>?_⟩
    .have h1:=(hlt b e).1;have h2:=HBS.o.kn.lt b k;omega
    .have h1:=(hlt b e).1;have h2:=(zgl HBS.o.room b e').2;omega
    .unfold Ints;rw[zaj,ygw];exact ho12
    .have h2:=HBS.o.kn.lt _ k;have:=B11.o.size;omega
    .have h2:=(zgl HBS.o.room _ e).2;have:=B11.o.size;omega
    .have h2:=(hlt _ e).2;omega
    .have h2:=(HBS.o.olt _ k).2;have:=B11.o.size;omega
   have HIS:=Zh his;have HMS:=Zh hs;obtain⟨gx,hgx⟩:∃ gx,w11.heap.size=gx:=⟨_,rfl⟩;rw[hgx] at HIS hr12;clear hxs ho12 hg12 his hs hgx hb12;go_upto_region 16 with fail
   have HFA:=Zh (ziq HV.o (fun x hx=>zp9 R HV.o s x hx:May R (zf0 R s)));have HLA:=Zh (yfa (zpa R s) HV.o.P);have HMT:=Zh (fun j=>zqt R HV.o F s j);have HLT:=Zh (fun j=>yfa (zya R F s j) HV.o.P);have HSS:=Zh HS.o;go_loopg [14,80] C (fun mm vr c wr=>∃ (j:Nat) (K:Nat->Prop) (ss':List Sta) (l0:Sta) (row:List Nat),c = .int .i64 (j:Int)∧j<=C∧mm=C-j∧IS w8 wr w2.heap.size gs K O F C vN vO vr rows ((ss.take k).map fun s=>zbb R s (0,0)) ss' l0 va1 (zf0 R s) gx C (row++List.replicate (C-j) 0)∧row.length=j∧(∀ s∈ss',May R s∧s.length<=100000)∧ss'.length<=mn∧rowS (zhp R F s) mn (C-j) j ss' row=rowS (zhp R F s) mn C 0 ss []∧∃ z,ss'=ss++z)
   case atStart=>exact⟨0,K,ss,l0,[],by first | rfl | trivial,yf8 _,by first | rfl | trivial,HIS.o,rfl,HMAY.o,by rw[HS.o];exact hsl,rfl,[],by simp⟩
   case round =>
    obtain⟨j,K',ss',l1,row,rfl,hj,hmj,hin,hrow,hmay,hsl',hrs,hz⟩:=hrel;have HMJ:=Zh hmj;have HIN:=Zh hin;have HRO:=Zh hrow;have HMY:=Zh hmay;have HRS:=Zh hrs;have HZ:=Zh hz;have HSL:=Zh hsl';clear hmj hrow hmay hrs hz hsl'
    by_cases hjC:j<C
    .have z1:=HSAM.o wr hin.bs.keep j hjC;have hbl:lastB F 256 j<=255:=zwe F j;have hby:=yeo (b:=((lastB F 256 j:Nat):Int)) (HRU.o wr hin.bs.keep) hin.ah hin.bs.room hin.aR hin.bs.keep.size HFA.o HLA.o HV.o.P yie yie;rw[yft] at hby;obtain⟨t,ht⟩:∃ t,zhp R F s j=t:=⟨_,rfl⟩;rw[show (zf0 R s).filter (zgf R (lastB F 256 j))=t from ht] at hby;have hmayt:=HMT.o j;have hlent:=HLT.o j;rw[ht] at hmayt hlent;have hmeet:=fun (W:World) (K1:Nat->Prop) (D:Nat) (v:Value) (h1:Known W K1 gs ss') (h2:Wds W D v t) (h3:∀ b,v.ownBlock=some b->¬ K1 b)=>(zvn h1 h2 h3 (yds HV.o hmayt) hlent (by have:=HSL.o;omega)).mono fun e w' h=>ybt h h1.nodup
     obtain⟨ix,hix⟩:∃ n,idxM (ze7 ss' t) t=n:=⟨_,rfl⟩;obtain⟨sm,hsm⟩:∃ l,ze7 ss' t=l:=⟨_,rfl⟩;rw[hsm] at hix;simp only[hsm,hix] at hmeet;have hcj:C-j=(C-(j+1))+1:=yie;have hro:=HRS.o;rw[hcj,rowS,ht,hsm,hix] at hro;have hsmay:∀ s∈sm,May R s∧s.length<=100000:=(by rw[←hsm];exact zvx HMY.o ⟨hmayt,hlent⟩);have hsmz:∃ z,sm=ss++z:=by
      obtain⟨z,hz⟩:=HZ.o;obtain⟨z',hz'⟩:=zof ss' t;exact⟨z++z',by rw[←hsm,hz',hz,yfl]⟩
     have hsml:sm.length<=mn+1:=(by rw[←hsm];have:=zz2 ss' t;have:=HSL.o;omega);obtain⟨b,hb⟩:∃ b,lastB F 256 j=b:=⟨_,rfl⟩;rw[hb] at z1 hbl hby;have i3:(0:Int)<=(j:Int):=yie;have i4:(j:Int)<(C:Int):=yie;have i4':j<C:=hjC;have hngs:gs≠gx:=fun e=>by
      obtain⟨va',bm',vs',D',y1,_⟩:=hin.bs.kn.mem;obtain⟨cur,y2⟩:=hin.row.kind (b:=gx) rfl;exact za1 y1 y2 yij e
     have HBY:=Zh hby;have HME2:=Zh hmeet;have HRO2:=Zh hro;have HSMAY:=Zh hsmay;have HSMZ:=Zh hsmz;have HSML:=Zh hsml;obtain⟨SL,hSL⟩:∃ n,sm.length=n:=⟨_,rfl⟩;have HSL2:=Zh hSL;rw[hSL] at HSML HRO2;have hsml2:=HSML.o;clear hby hmeet hro hsmay hsmz hsml hin ht hmayt hlent hix hsm hb hSL hcj
     by_cases hbig:SL>mn
     .have HRO3:=Zh (HRO2.o.symm.trans (if_pos hbig));have hbg:(mn:Int)<(SL:Int):=yie;clear hbig;go_wp2_with (first
       | (go_at_call 25;(with_reducible refine HBY.o.mono ?_);rintro e w13 ⟨v13,rfl,h13,k13,n13⟩;have HI13:=Zh (HIN.o.by' h13 k13 n13);clear h13 k13 n13)
       | (go_at_call 23;(with_reducible refine (HME2.o _ _ _ _ HI13.o.bs.kn HI13.o.bs.room HI13.o.bs.rK).mono ?_);rintro e w14 ⟨K14,rfl,n14,q14,k14⟩;have h14:=HI13.o.met n14 k14 q14;obtain⟨va14,bm14,vs14,D14,u1,u2,u3,_⟩:=h14.bs.kn.mem;obtain⟨A14,c14,hf14⟩:=zas u3;rw[HSL2.o] at hf14;subst hf14;have u4:w14.cell? ⟨gs,0,none⟩=some (.slice A14 SL c14):=cell_of_row w14 gs 0 _ _ (0,0) u1;obtain⟨y14,x14,f14⟩:=h14.cell j i4';have HI14:=Zh h14;clear n14 q14 k14 u1 u2 u3 h14)
       | (refine zag yik _ _ yik yik yik Tryd.sizeMM rfl rfl (HRES.o _ (((HI14.o.set j ix).bs.keep))) ?_;intro hbx;have HBX1:=Zh hbx;clear hbx;go_simp)
       | fail)
      have hfin:TGT=none:=by
       rw[←HTG.o,show mn+1-k=(mn-k)+1 by omega,ze3,HMS.o];simp only;rw[HRO3.o]
      subst hfin;refine bodyPost_ret (v := .tuple #[.agg zbm,errV 11]) (zc8 Tryd.results8 rfl rfl Tryd.underlying38 rfl Tryd.sizeMM HBX1.o) rfl ⟨below_setRow ((HB2.o.trans (HB8.o.mono HB2.o.size)).trans ((HI14.o.set j ix).bs.keep.below (yfa HB2.o.size HB8.o.size) fun b e=>by subst e;exact HB2.o.size)) (yez _) _,rfl⟩
     .have HRO3:=Zh (HRO2.o.symm.trans (if_neg hbig));have hbg:¬ (mn:Int)<(SL:Int):=yie;have hbg2:SL<=mn:=yie;clear hbig;go_wp2_with (first
       | (go_at_call 25;(with_reducible refine HBY.o.mono ?_);rintro e w13 ⟨v13,rfl,h13,k13,n13⟩;have HI13:=Zh (HIN.o.by' h13 k13 n13);clear h13 k13 n13)
       | (go_at_call 23;(with_reducible refine (HME2.o _ _ _ _ HI13.o.bs.kn HI13.o.bs.room HI13.o.bs.rK).mono ?_);rintro e w14 ⟨K14,rfl,n14,q14,k14⟩;have h14:=HI13.o.met n14 k14 q14;obtain⟨va14,bm14,vs14,D14,u1,u2,u3,_⟩:=h14.bs.kn.mem;obtain⟨A14,c14,hf14⟩:=zas u3;rw[HSL2.o] at hf14;subst hf14;have u4:w14.cell? ⟨gs,0,none⟩=some (.slice A14 SL c14):=cell_of_row w14 gs 0 _ _ (0,0) u1;obtain⟨y14,x14,f14⟩:=h14.cell j i4';have HI14:=Zh h14;clear n14 q14 k14 u1 u2 u3 h14)
       | fail)
      go_roundg (C-(j+1))
      case measure=>have:=HMJ.o;omega
      case rel =>
       have hi:=HI14.o.set j ix;have hx:=zye row C ix (by rw[HRO.o];exact hjC);rw[HRO.o] at hx;rw[hx] at hi;exact⟨j+1,K14,sm,t,row++[ix],by go_num,by omega,rfl,hi,by simp[HRO.o],HSMAY.o,by rw[HSL2.o];exact hbg2,HRO3.o.symm,HSMZ.o⟩
    .have hjC':j=C:=yie;subst hjC';generalize wr=wp at *;rw[ygf,List.replicate_zero,ygm] at hin;have hro:=HRS.o;rw[ygf,rowS] at hro;obtain⟨z,hz⟩:=HZ.o;have hsk:ss'[k]?=some s:=(by rw[hz,yfb (by rw[HSS.o];exact hkS)];exact HMS.o);have hkl:k<ss'.length:=(yf4.1 hsk).1;have htk:(ss.take k).map (fun s=>zbb R s (0,0))++[zbb R s (0,0)]=(ss'.take (k+1)).map fun s=>zbb R s (0,0):=by
      rw[List.take_add_one,hsk,hz,List.take_append_of_le_length (by rw[HSS.o];omega)];simp
     have htg:ze3 (zhp R F) mn j (mn+1-(k+1)) (k+1) ss' (rows++[row])=TGT:=by
      rw[←HTG.o,show mn+1-k=(mn-k)+1 by omega,show mn+1-(k+1)=mn-k by omega,ze3,HMS.o];simp only;rw[←hro]
     obtain⟨vs,n1,n2,n3,n4⟩:=hin.bs.nxt.mem;obtain⟨va',bm',vs',D',q1,q2,q3,q4,_,_,kg,_,kv,k4⟩:=hin.bs.kn.mem;obtain⟨vi',hvi'⟩:∃ vi,vs'[k]?=some vi:=⟨_,yey yie⟩;have hws':=q4 k vi' s hvi' hsk;obtain⟨Av',cv',hfv'⟩:=hws'.form;subst hfv';obtain⟨Aa',ca'',hfa'⟩:=zas q3;subst hfa';obtain⟨ga',rfl⟩:∃ ga,Aa'=some ⟨ga,0,none⟩:=by
      rcases q3.2 with ⟨_,h0⟩|⟨g,cap,cur,e,_⟩
      .omega
      .injection e with e1;exact⟨g,e1⟩
     obtain⟨S',hS'⟩:∃ n,ss'.length=n:=⟨_,rfl⟩;rw[hS'] at q3 hkl q2 q1;obtain⟨An,cn,hfn⟩:=hin.bs.nxt.form;obtain⟨Ao,co,hfo⟩:=hin.bs.ots.form;subst hfn hfo;obtain⟨rn,hrn⟩:∃ n,rows.length=n:=⟨_,rfl⟩;obtain⟨on,hon⟩:∃ n,((ss.take k).map fun s=>zbb R s (0,0)).length=n:=⟨_,rfl⟩;have hon':on=k:=(by rw[←hon,yfr,yg8,HSS.o];omega);have hrn':rn=k:=(by rw[←hrn];exact HRW.o);have HRN:=Zh hrn;have HON:=Zh hon;rw[hrn] at n2;have n6:=hin.bs.ots.row;rw[hrn,hon] at hin;rw[hon] at n6;have hOq:∀ b,((Value.slice An rn cn).ownBlock=some b∨(Value.slice Ao on co).ownBlock=some b)->O b:=fun b e=>e.elim (hin.bs.nxt.inO b) (hin.bs.ots.inO b)
     have c1:wp.cell? ⟨gs,0,none⟩=some (.slice (some ⟨ga',0,none⟩) S' ca''):=cell_of_row wp gs 0 _ _ (0,0) q1;have c2:wp.cell? ⟨ga',k,none⟩=some (.slice Av' s.length cv'):=(yf7 q3 k yie).trans hvi';have c3:=hin.bs.box.nxt;have c4:=hin.bs.box.out;have hkm:∀ W,Kept (fun b=>(Value.slice An rn cn).ownBlock=some b∨(Value.slice Ao on co).ownBlock=some b) wp W->Kept (fun b=>b=w2.heap.size) w8 W:=fun W kk=>hin.bs.keep.trans kk fun b e => .inr (hin.bs.olt b (hOq b e)).1
     have hout:=fun (W:World) (kk:Kept (fun b=>(Value.slice An rn cn).ownBlock=some b∨(Value.slice Ao on co).ownBlock=some b) wp W)=>ydp (HRU.o W (hkm W kk)) (za8 hws' (fun b e hb=>kk.block b hb fun q=>hin.bs.oK b (hOq b q) (k4 _ (yfh hvi') b e)):Wds W 0 (.slice Av' s.length cv') s) (ziq HV.o (HMAY.o s (yfh HMS.o)).1) (HMAY.o s (yfh HMS.o)).2 HV.o.P
     have hgmq:¬ ((Value.slice An rn cn).ownBlock=some w2.heap.size∨(Value.slice Ao on co).ownBlock=some w2.heap.size):=fun e=>by have h1:=(hin.bs.olt _ (hOq _ e)).1;have h2:=hin.bs.gmlt;omega
     have hgk:∀ b,K' b->¬ b=w2.heap.size:=fun b e e'=>by have h1:=hin.bs.kge b e;have h2:=hin.bs.gmlt;omega
     have hc1:=fun (W:World) (kk:Kept (fun b=>((Value.slice An rn cn).ownBlock=some b∨(Value.slice Ao on co).ownBlock=some b)∨b=w2.heap.size) wp W)=>kk.cell (a:=⟨gs,0,none⟩) c1 (fun e=>e.elim (fun e=>hin.bs.oK gs (hOq gs e) kg) (hgk gs kg))
     have hc2:=fun (W:World) (kk:Kept (fun b=>((Value.slice An rn cn).ownBlock=some b∨(Value.slice Ao on co).ownBlock=some b)∨b=w2.heap.size) wp W)=>kk.cell (a:=⟨ga',k,none⟩) c2 (fun e=>e.elim (fun e=>hin.bs.oK ga' (hOq ga' e) (kv ga' rfl)) (hgk ga' (kv ga' rfl)))
     have hc3:=fun (W:World) (kk:Kept (fun b=>(Value.slice An rn cn).ownBlock=some b∨(Value.slice Ao on co).ownBlock=some b) wp W)=>kk.cell (a:=⟨w2.heap.size,257,none⟩) c3 hgmq
     have hc4:=fun (W:World) (kk:Kept (fun b=>(Value.slice An rn cn).ownBlock=some b∨(Value.slice Ao on co).ownBlock=some b) wp W)=>kk.cell (a:=⟨w2.heap.size,258,none⟩) c4 hgmq
     have hfz:=fun (W:World) (kk:Kept (fun b=>(Value.slice An rn cn).ownBlock=some b∨(Value.slice Ao on co).ownBlock=some b) wp W)=>(hin.bs.box.kept kk hgmq).frozen
     obtain⟨oa,hoa⟩:∃ o,zbb R s (0,0)=o:=⟨_,rfl⟩;rw[hoa] at hout htk;obtain⟨o1,o2⟩:=oa;simp only at hout;have HOUT:=Zh hout;have HC1:=Zh hc1;have HC2:=Zh hc2;have HC3:=Zh hc3;have HC4:=Zh hc4;have HFZ:=Zh hfz;have HPN:=Zh n2;have HPO:=Zh n6;have HIQ:=Zh hin;have HN1:=Zh n1;have HN3:=Zh n3;have HN4:=Zh n4;have HTK:=Zh htk;have HTG2:=Zh htg;have HKL:=Zh hkl;have HSS2:=Zh hS';have i5:(k:Int)<(S':Int):=yie;have hcn:rn<=100000:=yie;have hco:on<=100000:=yie;have hw8p:=hin.bs.keep.size;clear hrn' hon';clear hgk hout hc1 hc2 hc3 hc4 hfz n1 n2 n3 n4 n6 hin htk htg hkm hws' hvi' q1 q2 q3 q4 kg kv k4 hgmq hOq hro hz hsk hrn hon hoa;have hne0:∀ b,(Value.slice An rn cn).ownBlock=some b->(Value.slice Ao on co).ownBlock=some b->False:=fun b e e'=>by
      obtain⟨cu,h1⟩:=za7 HPN.o e;obtain⟨cv,h2⟩:=za7 HPO.o e';exact za1 h1 h2 yij rfl
     have HNE:=Zh hne0;have HNE2:=Zh (fun b e e'=>hne0 b e' e);have HLN:=Zh (fun b (e:(Value.slice An rn cn).ownBlock=some b)=>(yf5 HPN.o b e).2);have HLO:=Zh (fun b (e:(Value.slice Ao on co).ownBlock=some b)=>(yf5 HPO.o b e).2);have HQR:=Zh (fun (W:World) (kk:Kept (fun b=>(Value.slice An rn cn).ownBlock=some b∨(Value.slice Ao on co).ownBlock=some b) wp W)=>(kk.mono (fun b e => .inl (.inl e)):Kept (fun b=>((Value.slice An rn cn).ownBlock=some b∨(Value.slice Ao on co).ownBlock=some b)∨b=w2.heap.size) wp W));clear hne0;go_upto_region 23 with fail
     have hmx:Tryd.prog.follows .mixedOrders=true:=yih;have hS0:Kept (fun b=>(Value.slice An rn cn).ownBlock=some b∨(Value.slice Ao on co).ownBlock=some b) wp wp.drew:=(Kept.refl _ wp).drew;have hR0:=HQR.o _ hS0;refine zdb (R:=fun W=>Kept (fun b=>((Value.slice An rn cn).ownBlock=some b∨(Value.slice Ao on co).ownBlock=some b)∨b=w2.heap.size) wp W) (S:=fun W=>Kept (fun b=>(Value.slice An rn cn).ownBlock=some b∨(Value.slice Ao on co).ownBlock=some b) wp W) (T:=[16,18]) hmx ?_;refine anyR_tk (i:=0) (v := .pointer (some ⟨w2.heap.size,257,none⟩)) rfl (Or.inl ⟨by rfl,fun w' hS=>by go_simp⟩) hR0 (fun _=>hS0) ?_;refine anyT_tk (i:=1) (v := .slice An rn cn) rfl (Or.inl ⟨by rfl,fun w' hS=>by have t1:=HC3.o w' hS;go_simp⟩) hR0 hS0 ?_;refine anyR_tk (i:=2) (v := .slice (some ⟨gx,0,none⟩) j j) rfl (Or.inl ⟨by rfl,fun w' hS=>by go_simp⟩) hR0 (fun _=>hS0) ?_;refine anyR_tk (i:=5) (v := .pointer (some ⟨w2.heap.size,258,none⟩)) rfl (Or.inl ⟨by rfl,fun w' hS=>by go_simp⟩) hR0 (fun _=>hS0) ?_;refine anyT_tk (i:=6) (v := .slice Ao on co) rfl (Or.inl ⟨by rfl,fun w' hS=>by have t1:=HC4.o w' hS;go_simp⟩) hR0 hS0 ?_;refine anyR_tk (i:=7) (v := .pointer (some ⟨gs,0,none⟩)) rfl (Or.inl ⟨by rfl,fun w' hS=>by go_simp⟩) hR0 (fun _=>hS0) ?_;refine anyR_tk (i:=8) (v := .slice (some ⟨ga',0,none⟩) S' ca'') rfl (Or.inl ⟨by rfl,fun w' hS=>by have t1:=HC1.o w' hS;go_simp⟩) hR0 (fun _=>hS0) ?_;refine anyR_tk (i:=9) (v := .int .i64 (k:Int)) rfl (Or.inl ⟨by rfl,fun w' hS=>by go_simp⟩) hR0 (fun _=>hS0) ?_;refine anyR_tk (i:=10) (v := .pointer (some ⟨ga',k,none⟩)) rfl (Or.inl ⟨by rfl,fun w' hS=>by go_simp⟩) hR0 (fun _=>hS0) ?_;refine anyR_tk (i:=11) (v := .slice Av' s.length cv') rfl (Or.inl ⟨by rfl,fun w' hS=>by have t1:=HC2.o w' hS;go_simp⟩) hR0 (fun _=>hS0) ?_;refine za2 (rs:=[3]) yih yii ?_;refine za5 (za3 rfl fun K hK=>?_);go_simp;refine hK.out _ _ (HQR.o _ yif) (fun _=>yif) ?_;clear hK K;refine za2 (rs:=[4]) yih yii ?_;refine za5 (za3 rfl fun K hK=>?_);have hr4:=fun (W:World) (kk:Kept (fun b=>(Value.slice Ao on co).ownBlock=some b) wp W)=>za8 HPN.o fun b e hb=>kk.block b hb fun q=>HNE.o b e q
     refine zqs yik _ _ yik yik (hr4 _ yip) yik yio rfl hcn (yfa hw8p (show Kept (fun b=>(Value.slice An rn cn).ownBlock=some b∨(Value.slice Ao on co).ownBlock=some b) wp _ from yif).size) ?_;intro v1 W1 r1 g1 o1';have E1:=Zh (zmh HNE.o HLO.o o1' (show Kept (fun b=>(Value.slice An rn cn).ownBlock=some b∨(Value.slice Ao on co).ownBlock=some b) wp _ from yif).size);obtain⟨A1,c1',rfl⟩:=zas r1;have R1:=Zh r1;have G1:=Zh g1;clear r1 g1 o1' hr4;refine hK.out _ _ (HQR.o _ yif) (fun _=>yif) ?_;clear hK K;refine anyR_tk (i:=15) (v := .pointer (some ⟨w2.heap.size,257,none⟩)) rfl (Or.inl ⟨by rfl,fun w' hS=>by go_simp⟩) (HQR.o _ yif) (fun _=>yif) ?_;refine za2 (rs:=[12]) yih yii ?_;refine za5 (za3 rfl fun K hK=>?_);go_simp;go_at_call 26
     with_reducible refine (HOUT.o _ yif).mono ?_
     rintro e w15 ⟨rfl,b15⟩;have BB:=Zh b15;have KB:=Zh (Kept.of_below (fun _=>False) b15);clear b15;refine hK.out _ _ (HQR.o _ yif) (fun _=>yif) ?_;clear hK K;refine za2 (rs:=[13]) yih yii ?_;refine za5 (za3 rfl fun K hK=>?_);go_simp;refine hK.out _ _ (HQR.o _ yif) (fun _=>yif) ?_;clear hK K;refine za2 (rs:=[14]) yih yii ?_;refine za5 (za3 rfl fun K hK=>?_);have hr4:=fun (W:World) (kk:Kept (fun b=>(Value.slice An rn cn).ownBlock=some b) wp W)=>za8 HPO.o fun b e hb=>kk.block b hb fun q=>HNE.o b q e
     refine zqr yik _ _ yik yik (hr4 _ (by repeat (first | with_reducible exact Kept.refl _ _ | with_reducible refine Kept.drew ?_ | with_reducible refine Kept.alloc ?_ _ | with_reducible refine Kept.grown ?_ G1.o (fun b e => .inl e) | with_reducible refine Kept.trans ?_ KB.o (fun b e=>e.elim)))) yik yio hco (yfa hw8p (show Kept (fun b=>(Value.slice An rn cn).ownBlock=some b∨(Value.slice Ao on co).ownBlock=some b) wp _ from yif).size) ?_;intro v2 W2 r2 g2 o2';have E2:=Zh (zmh HNE2.o HLN.o o2' (show Kept (fun b=>(Value.slice An rn cn).ownBlock=some b∨(Value.slice Ao on co).ownBlock=some b) wp _ from yif).size);obtain⟨A2,c2',rfl⟩:=zas r2;have R2:=Zh r2;have G2:=Zh g2;clear r2 g2 o2' hr4;refine hK.out _ _ (HQR.o _ yif) (fun _=>yif) ?_;clear hK K;have hSe:Kept (fun b=>(Value.slice An rn cn).ownBlock=some b∨(Value.slice Ao on co).ownBlock=some b) wp W2:=yif;have hK1:Kept (fun b=>(Value.slice Ao on co).ownBlock=some b) W1 W2:=yip;refine za2 (rs:=[16]) yih yii ?_;refine za5 (za3 rfl fun K hK=>?_);have t1:=HC3.o W2 hSe;have t2:=HFZ.o W2 hSe 257;go_simp;have hR16:Kept (fun b=>((Value.slice An rn cn).ownBlock=some b∨(Value.slice Ao on co).ownBlock=some b)∨b=w2.heap.size) wp (W2.setCell ⟨w2.heap.size,257,none⟩ (.slice A1 (rn+1) c1')):=(HQR.o _ hSe).setCell (a:=⟨w2.heap.size,257,none⟩) (.inl (.inr rfl)) _;refine hK.out _ _ hR16 (zai (t:=16) yii yih) ?_;clear hK K;refine anyR_tk (i:=17) (v := .pointer (some ⟨w2.heap.size,258,none⟩)) rfl (Or.inl ⟨by rfl,fun w' hS=>by go_simp⟩) hR16 (zai (t:=16) yii yih) ?_;refine za2 (rs:=[18]) yih yii ?_;refine za5 (za3 rfl fun K hK=>?_)
     have t3:=HC4.o W2 hSe;have t4:=HFZ.o W2 hSe 258;go_simp;refine hK.out _ _ (hR16.setCell (a:=⟨w2.heap.size,258,none⟩) (.inl (.inr rfl)) _) (zai (t:=16) yii yih) ?_;clear hK K;refine zci yih ?_ _;go_wp2;have hr1:=za8 R1.o fun b e hb=>hK1.block b hb (E1.o.1 b e)
     obtain⟨O',hb'⟩:=HIQ.o.push (vs:=vs) (o:=(o1,o2)) HN1.o (by rw[HRN.o];exact HPN.o) HN3.o HN4.o hSe (by rw[HRN.o];exact hr1) E1.o.2 (by rw[HON.o];exact R2.o) E2.o.2;rw[HTK.o] at hb';go_roundg (mn+1-(k+1))
     case measure=>have:=HMK.o;omega
     case rel=>exact⟨k+1,K',O',_,_,rows++[row],ss',l1,by go_num,by rw[HSS2.o];omega,rfl,hb',HMY.o,HSL.o,by simp[HRW.o],HTG2.o⟩
  .have hkS':k=S:=yie;subst hkS';have hnone:ss[k]?=none:=yfj (by rw[HS.o];exact yez _);have hfin:TGT=some (ss,rows):=by
    rw[←HTG.o,show mn+1-k=(mn-k)+1 by omega,ze3,hnone]
   have htk:ss.take k=ss:=yg0 (by rw[HS.o];exact yez _);obtain⟨An,cn,hfn⟩:=HBS.o.nxt.form;obtain⟨Ao,co,hfo⟩:=HBS.o.ots.form;have HFN:=Zh hfn;have HFO:=Zh hfo;have HTK:=Zh htk;clear hnone q1 q2 q3 q4 hfn hfo htk;go_wp2_with (first
    | (refine zcs yik _ yik yik Tryd.underlying38 rfl Tryd.sizeMM HBS.o.box ?_;go_simp)
    | (refine zag yik _ _ yik yik yik Tryd.sizeMM (by rw[HFN.o];rfl) (by rw[HFO.o];rfl) (HRES.o _ HBS.o.keep) ?_;intro hbx;have HBX1:=Zh hbx;clear hbx;go_simp)
    | fail)
   subst hfin;have hw8:w.heap.size<w8.heap.size:=yff HGM.o HB8.o.size;refine bodyPost_ret (v := .tuple #[.agg (zaf F C vN vO),.nilIface]) (zc8 Tryd.results8 rfl rfl Tryd.underlying38 rfl Tryd.sizeMM HBX1.o) rfl ⟨below_setRow ((HB2.o.trans (HB8.o.mono HB2.o.size)).trans (HBS.o.keep.below (yfa HB2.o.size HB8.o.size) fun b e=>by subst e;exact HB2.o.size)) (yez _) _,?_⟩;have hkp:Kept (fun b=>b=w.heap.size) wo (wo.setRow w.heap.size (zaf F C vN vO)):=zet (Kept.refl (fun b=>b=w.heap.size) wo) (.inl rfl) _;have hO:∀ b,O b->¬ b=w.heap.size:=fun b e e'=>by have:=(HBS.o.olt b e).1;omega
   have hn:=(HBS.o.nxt.kept hkp hO).low (yhh hw8);have ho:=(HBS.o.ots.kept hkp hO).low (yhh hw8);rw[HTK.o] at ho
   show ∃ vN vO O,_
   rw[HCF.o.1,HCF.o.2.1,HCF.o.2.2];exact⟨vN,vO,O,rfl,hn,ho⟩
end
end Go.Proofs.YtipfgpfplakhiaaDoor
