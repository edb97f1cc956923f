import Derived.Test.YtipfgpfplakhiaaDoorTw45
import Derived.Test.YtipfgpfplakhiaaDoorTw35
set_option linter.unusedVariables false
set_option linter.unusedSimpArgs false
set_option maxRecDepth 20000
set_option maxHeartbeats 4000000
namespace Go.Proofs.YtipfgpfplakhiaaDoor
open Go Go.RowKit
theorem zsx:zct [] [] 5 1=some ([[]],[[0]]):=by
 unfold zct;rw[show zef [] []=1 from zhb 255];rfl
theorem zst (W:World):Calls Tryd.prog 12 #[.slice none 0 0,.int .i64 5,.int .i64 1] W fun e w'=>Below W.heap.size W w'∧∃ F A c B d,e = .returned (.tuple #[.agg (zaf F 1 (.slice A 1 c) (.slice B 1 d)),.nilIface]):=by
 have h:=zm0 (w:=W) (A:=none) (c:=0) (l:=[]) (lam:=5) (most:=1) (RdRules.nil W none) (fun r e=>by simp at e) yii yie yie;refine h.mono fun e w' h=>?_
 unfold zlr at h;rw[if_neg yii,show ((5:Int).toNat)=5 from rfl,show ((1:Int).toNat)=1 from rfl,show zad []=[] from rfl,show ([]:List (T×Bool)).map (·.2)=[] from rfl,zsx] at h;obtain⟨h1,q,B,vN,vO,O,fs,rows',rfl,_,_,hls,hN,hO⟩:=h;have hdl:=ye4 (rows:=[[0]]) (N:=1) (C:=1) rfl (fun i r e=>by
  cases i with
  | zero=>simp at e;subst e;exact⟨rfl,fun x hx=>by simp at hx;omega⟩
  | succ i=>simp at e)
 rw[show zef [] []=1 from zhb 255] at hls;obtain⟨h5,h2,h3,h4⟩:=zdp (N:=1) (C:=1) hdl yie hls;obtain⟨_,_,_,z,hz⟩:=zmm (N:=1) (C:=1) hdl _ _ _ _ _ _ hls (zjf _ yie) rfl yii yii (fun r hr=>by cases hr);have hl:fs.length=1:=by
  have:fs.length=1+z.length:=by rw[hz,yfd];rfl
  omega
 obtain⟨A,c,e1⟩:=hN.form;obtain⟨B,d,e2⟩:=hO.form;rw[h2,hl] at e1;rw[yfr,hl] at e2;exact⟨h1,zew [] [],A,c,B,d,by rw[e1,e2,show zef [] []=1 from zhb 255];rfl⟩
theorem zsu (W:World):Calls Tryd.prog 12 #[.slice none 0 0,.int .i64 5,.int .i64 0] W fun e w'=>Below W.heap.size W w'∧e = .returned (.tuple #[.agg zbm,errV 1]):=by
 have h:=zm0 (w:=W) (A:=none) (c:=0) (l:=[]) (lam:=5) (most:=0) (RdRules.nil W none) (fun r e=>by simp at e) yii yie yie;refine h.mono fun e w' h=>?_
 unfold zlr at h;rw[if_pos yie] at h;exact h
theorem ydb (w:World):Calls Tryd.prog 11 #[] w fun e w'=>e = .returned (.bool true)∧Below w.heap.size w w':=by
 have hz38:∀ w:World,Sem.run Tryd.prog (zeroValue 38) w = .ok (.agg zbm) w:=fun _=>by kernel_rfl
 have HB:=Zh zst;have HD:=Zh zsu;have hc:∀ W,Calls Tryd.prog 9 #[.iface 74 (.int .i64 1)] W fun e w'=>e = .returned (.int .i64 1)∧W=w':=fun W=>zqc W 1 yie yie
 have HC:=Zh hc;clear hc;go_enter Tryd.func11,Tryd.ntmps11;go_upto_region 2 with (first
  | (go_at_call 12;(with_reducible refine (HB.o _).mono ?_);rintro e w1 ⟨b1,F,A,c,B,d,rfl⟩;have B1:=Zh b1;clear b1)
  | (refine zag yik _ _ yik yik yik Tryd.sizeMM rfl rfl (BoxM.new w1 38 (fun _=>0) 0 (.slice none 0 0) (.slice none 0 0)) ?_;intro hbx;have HX1:=Zh hbx;clear hbx;go_simp)
  | fail)
 have hb2:Below w.heap.size w ((w1.alloc (.cells zbm 38)).setRow w1.heap.size (zaf F 1 (.slice A 1 c) (.slice B 1 d))):=below_setRow (B1.o.alloc B1.o.size _) B1.o.size _;have hx2:=HX1.o;change BoxM ((w1.alloc (.cells zbm 38)).setRow w1.heap.size (zaf F 1 (.slice A 1 c) (.slice B 1 d))) _ _ _ _ _ _ at hx2;generalize (w1.alloc (.cells zbm 38)).setRow w1.heap.size (zaf F 1 (.slice A 1 c) (.slice B 1 d))=w2 at *;have HX2:=Zh hx2;have HB2:=Zh hb2;clear hx2 hb2 HX1;go_upto_region 3 with (first
  | (go_at_call 12;(with_reducible refine (HD.o _).mono ?_);rintro e w3 ⟨b3,rfl⟩;have B3:=Zh b3;have HX3:=Zh (HX2.o.stays b3);have HB3:=Zh (gro HB2.o b3);clear b3)
  | (refine zag yik _ _ yik yik yik Tryd.sizeMM rfl rfl (BoxM.new w3 38 (fun _=>0) 0 (.slice none 0 0) (.slice none 0 0)) ?_;intro hbx;clear hbx;go_simp)
  | fail)
 have hb4:Below w3.heap.size w3 ((w3.alloc (.cells zbm 38)).setRow w3.heap.size (zaf (fun _=>0) 0 (.slice none 0 0) (.slice none 0 0))):=below_setRow ((yf6 _ _).alloc (yez _) _) (yez _) _;generalize (w3.alloc (.cells zbm 38)).setRow w3.heap.size (zaf (fun _=>0) 0 (.slice none 0 0) (.slice none 0 0))=w5 at *;have hx4:=HX3.o.stays hb4;have hb5:=gro HB3.o hb4;have c1:=hx4.num;have c2:=hx4.nxt;have c3:=hx4.out;have HB5:=Zh hb5;clear hb4 hx4 hb5;unfold errV;go_wp2_with (first
  | (go_at_call 9;(with_reducible refine (HC.o _).mono ?_);rintro e w6 ⟨rfl,rfl⟩)
  | fail)
 go_ret;exact⟨rfl,HB5.o⟩
section
attribute [local go_sem ↓] Go.wp_at_zero Go.wp_at_succ
attribute [local go_sem ↓] zil
theorem zgc {w w':World} {B:Nat} {O:Nat->Prop} {vN:Value} {rows:List (List Nat)} (h:Nxt w B O vN rows) (hb:Below w.heap.size w w'):Nxt w' B O vN rows:=h.kept (Kept.of_below (fun _=>False) hb) fun b _ e=>e
theorem zgb {w w':World} {B:Nat} {O:Nat->Prop} {vO:Value} {outs:List (Nat×Nat)} (h:Ots w B O vO outs) (hb:Below w.heap.size w w'):Ots w' B O vO outs:=h.kept (Kept.of_below (fun _=>False) hb) fun b _ e=>e
theorem zie {ops:Array Oper} {S:World->Prop} {op:Oper} {a:Act} {g:Nat} {t:TypeId} {F:Nat->Nat} {n:Int} {vN vO:Value} (hw:Region.wanted op (yielded ops a.tmps)=true) (x:Operand) (ho:op.op = .load t x) (hx:a.eval x = .pointer (some ⟨g,0,none⟩)) (hS:∀ w,S w->BoxM w g t F n vN vO)
 {d:TypeDesc} (hu:Tryd.prog.underlying t=some d) (hd:d.isRow=true) (hs:(Tryd.prog.info? t).map (·.size)=some 259):YieldsIf Tryd.prog ops S op (.agg (zaf F n vN vO)) a:=by
 have:=yieldsIf_load_mid hw t x ho g 0 hx (zaf F n vN vO).toList d (fun w h=>(hS w h).whole) hu hd (by rw[hs];simp[zbk])
 simpa using this
theorem zn6 (w:World):Below w.heap.size w w.drew:=⟨rfl,rfl,rfl,yez _,fun _ _=>rfl⟩
theorem zn4 (n:Int) (A:Option Addr) (m c:Nat) (B:Option Addr) (k d:Nat) (w:World):(Instr.build 62 #[(1,.int .i64 n),(2,.slice A m c),(3,.slice B k d)]).run Tryd.prog w = .ok (.agg (zaf (fun _=>0) n (.slice A m c) (.slice B k d))) w:=by
 refine run_build w _ _ _ ?_
 kernel_rfl
theorem ziv {w:World} {ops:Array Oper} {rest:List Oper} {o:Oper} {a:Act} {Q:Exit->Act->World->Prop} {n:Int} {A:Option Addr} {m c:Nat} {B:Option Addr} {k d:Nat} (hgd:o.guard=none) (x1 x2 x3:Operand) (ho:o.op = .build 62 #[(1,x1),(2,x2),(3,x3)])
 (h1:a.eval x1 = .int .i64 n) (h2:a.eval x2 = .slice A m c) (h3:a.eval x3 = .slice B k d)
 (hk:wpList Tryd.prog ops Q rest (a.put o.dst (.agg (zaf (fun _=>0) n (.slice A m c) (.slice B k d)))) w):wpList Tryd.prog ops Q (o::rest) a w:=by
 refine wpList_plain hgd fun _ hK=>?_
 unfold Oper.wp execOp;have e:(#[(1,x1),(2,x2),(3,x3)]:Array (Nat×Operand)).map (fun (i,x)=>(i,a.eval x))=#[(1,.int .i64 n),(2,.slice A m c),(3,.slice B k d)]:=(by simp[h1,h2,h3]);simp only[ho,e,Sem.run_bind,Sem.run_pure,Result.andThen_ok,zn4];exact hK _ _ hk
theorem zy4 {R:List (T×Bool)} (hf:Few R) {lam:Int} (hlam:1<=lam) {most:Nat} (hm:1<=most∧most<=1000) {ss:List Sta} {rows rows':List (List Nat)} {fs:List Nat} {κ:Nat->Nat} (h:zct (zad R) (R.map (·.2)) lam.toNat most=some (ss,rows))
 (hL:Lst κ rows (ss.map fun s=>zbb (RR (zad R) (R.map (·.2)) lam.toNat) s (0,0)) rows.length (zef (zad R) (R.map (·.2))) fs rows') {xs:List Int} (hx:∀ k,k<xs.length->0<=xs.getD k 0∧xs.getD k 0<=255):
 (∀ k,((zhu (ss.map fun s=>zbb (RR (zad R) (R.map (·.2)) lam.toNat) s (0,0)) fs).getD (runN (zew (zad R) (R.map (·.2))) rows' xs 0) (0,0)).1.testBit k=zig R lam false xs k)∧
 (∀ k,((zhu (ss.map fun s=>zbb (RR (zad R) (R.map (·.2)) lam.toNat) s (0,0)) fs).getD (runN (zew (zad R) (R.map (·.2))) rows' xs 0) (0,0)).2.testBit k=zig R lam true xs k):=by
 have hok:=(zpn hm h).1;rw[hL.run (F:=zew (zad R) (R.map (·.2))) hok.cls hx];have key:=fun k=>zut hf (lam:=lam.toNat) yie hm.1 h hx k
 refine⟨fun k=>?_,fun k=>?_⟩
 .rw[ygc,(key k).1,wantB_iff];constructor
  .rintro⟨a,b,d,e⟩;exact⟨a,by omega,d,e⟩
  .rintro⟨a,b,d,e⟩;exact⟨a,by omega,d,e⟩
 .rw[ygc,(key k).2,wantB_iff];constructor
  .rintro⟨a,b,d,e⟩;exact⟨a,by omega,d,e⟩
  .rintro⟨a,b,d,e⟩;exact⟨a,by omega,d,e⟩
theorem znq {w:World} {A B C:Option Addr} {ca cb cc:Nat} {L:List ByteArray} {bs:List Bool} {lam:Int} {xs:List Int} (hs:RdStr w A L) (hb:RdBo w B bs) (hL:L.length<=9223372036854775807) (hbs:bs.length<=9223372036854775807) (hsz:∀ s∈L,s.size<=9223372036854775807)
 (hlam : -9223372036854775808<=lam∧lam<=9223372036854775807) (hx:RdB w w.heap.size C xs) (hby:∀ k,k<xs.length->0<=xs.getD k 0∧xs.getD k 0<=255) (hxl:xs.length<=cc∧cc<=9223372036854775807) (htab:Tab w):
 Calls Tryd.prog 4 #[.slice A L.length ca,.slice B bs.length cb,.int .i64 lam,.slice C xs.length cc] w fun e w'=>e = .returned (.bool true)∧Below w.heap.size w w':=by
 have HR:=Zh (fun W (h:Below w.heap.size w W)=>yb8 (ca:=ca) (cb:=cb) (hs.stays h) (hb.stays h) hL hbs hsz);obtain⟨X,hX⟩:∃ X,xs.length=X:=⟨_,rfl⟩;have HX:=Zh hX;have HXB:=Zh hx;have HBY:=Zh hby;have HTB:=Zh htab;obtain⟨R,hR⟩:∃ R,zbn L bs (min L.length 4)=R:=⟨_,rfl⟩;have hfew:=zwy L bs (min L.length 4) yie;rw[hR] at HR hfew;obtain⟨N1,hN1⟩:∃ n,L.length=n:=⟨_,rfl⟩;obtain⟨N2,hN2⟩:∃ n,bs.length=n:=⟨_,rfl⟩;rw[hX] at hxl ⊢;rw[hN1,hN2] at HR ⊢;have HFW:=Zh hfew;clear hs hb hsz hX hx hby hR hfew hN1 hN2 hL hbs htab;have HUP:=Zh (ydb w)
 by_cases hm1:60<X
 .have hm4:(60:Int)<(X:Int):=yie;clear HR HXB HBY HFW HX hm1 hxl;go_enter Tryd.func4,Tryd.ntmps4;go_wp2_with (first
   | (go_at_call 11;(with_reducible refine HUP.o.mono ?_);rintro e w1 ⟨rfl,b1⟩;have B1:=Zh b1;clear b1)
   | fail)
  go_ret;exact⟨rfl,B1.o⟩
 have hX60:¬ (60:Int)<(X:Int):=yie;have HX6L:Hid (X<=60):=Zh yie;obtain⟨n,hn⟩:∃ n,R.length=n:=⟨_,rfl⟩;have HN:=Zh hn;have hn4:n<=4:=(by rw[←hn];exact HFW.o.len);have hT0:∀ (W:World) (A:Option Addr) (c:Nat),RdRules W A R->Calls Tryd.prog 12 #[.slice A R.length c,.int .i64 lam,.int .i64 300] W fun e w'=>zlr W R lam 300 e w':=fun W A c hr=>zm0 hr HFW.o.nfas (by have:=HFW.o.len;omega) hlam yie
 unfold zsh at HR;unfold zlr at hT0;rw[hn] at HR hT0;clear hn hm1;have hz38:∀ w:World,Sem.run Tryd.prog (zeroValue 38) w = .ok (.agg zbm) w:=fun _=>by kernel_rfl
 by_cases hbad:lam<1∨32<lam
 .have HTA:Hid (∀ (W:World) (A:Option Addr) (c:Nat),RdRules W A R->Calls Tryd.prog 12 #[.slice A n c,.int .i64 lam,.int .i64 300] W fun e w'=>e = .returned (.tuple #[.agg zbm,errV 1])∧Below W.heap.size W w'):=Zh fun W A c hr=>(hT0 W A c hr).mono fun e w' h=>by rw[if_pos yie] at h;exact⟨h.2,h.1⟩
  have HCD:Hid (∀ W:World,Calls Tryd.prog 9 #[.iface 74 (.int .i64 1)] W fun e w'=>e = .returned (.int .i64 1)∧W=w'):=Zh fun W=>zqc W 1 yie yie
  clear hT0;unfold errV at HTA;go_enter Tryd.func4,Tryd.ntmps4;go_upto_region 6 with (first
   | (go_at_call 11;(with_reducible refine HUP.o.mono ?_);rintro e w1 ⟨rfl,b1⟩;have B1:=Zh b1;clear b1)
   | (go_at_call 6;(with_reducible refine (HR.o _ B1.o).mono ?_);rintro e w2 ⟨A2,c2,A2',c2',rfl,_,_,hr1,hr2,b2⟩;have B2:=Zh (gro B1.o b2);have HR2:=Zh hr1;clear hr1 hr2 b2)
   | (go_at_call 12;(with_reducible refine (HTA.o _ _ _ HR2.o).mono ?_);rintro e w5 ⟨rfl,b5⟩;have HB5:=Zh (gro B2.o b5);clear b5)
   | (refine zag yik _ _ yik yik yik Tryd.sizeMM rfl rfl (BoxM.new w5 38 (fun _=>0) 0 (.slice none 0 0) (.slice none 0 0)) ?_;intro hbx;clear hbx;go_simp)
   | fail)
  have hb6:Below w5.heap.size w5 ((w5.alloc (.cells zbm 38)).setRow w5.heap.size (zaf (fun _=>0) 0 (.slice none 0 0) (.slice none 0 0))):=below_setRow ((yf6 _ _).alloc (yez _) _) (yez _) _;generalize (w5.alloc (.cells zbm 38)).setRow w5.heap.size (zaf (fun _=>0) 0 (.slice none 0 0) (.slice none 0 0))=w6 at *;have HB6:=Zh (gro HB5.o hb6);clear hb6 HTA
  by_cases hl1:lam<1
  .clear hbad;go_wp2_with (first | (go_at_call 9;(with_reducible refine (HCD.o _).mono ?_);rintro e w9 ⟨rfl,rfl⟩) | fail);go_ret;exact⟨rfl,HB6.o⟩
  .have hl2:32<lam:=yie;clear hbad;go_wp2_with (first | (go_at_call 9;(with_reducible refine (HCD.o _).mono ?_);rintro e w9 ⟨rfl,rfl⟩) | fail);go_ret;exact⟨rfl,HB6.o⟩
 have hbad2:¬ (lam<1∨32<lam∨(300:Int)<1∨(1000:Int)<300):=yie;simp only[if_neg hbad2,show (300:Int).toNat=300 from rfl] at hT0;clear hbad2;cases hT:zct (zad R) (R.map (·.2)) lam.toNat 300 with
 | none =>
  have HTA:Hid (∀ (W:World) (A:Option Addr) (c:Nat),RdRules W A R->Calls Tryd.prog 12 #[.slice A n c,.int .i64 lam,.int .i64 300] W fun e w'=>e = .returned (.tuple #[.agg zbm,errV 11])∧Below W.heap.size W w'):=Zh fun W A c hr=>(hT0 W A c hr).mono fun e w' h=>by rw[hT] at h;exact⟨h.2,h.1⟩
  have HCD:Hid (∀ W:World,Calls Tryd.prog 9 #[.iface 74 (.int .i64 11)] W fun e w'=>e = .returned (.int .i64 11)∧W=w'):=Zh fun W=>zqc W 11 yie yie
  clear hT0 hT hbad;unfold errV at HTA;go_enter Tryd.func4,Tryd.ntmps4;go_upto_region 6 with (first
   | (go_at_call 11;(with_reducible refine HUP.o.mono ?_);rintro e w1 ⟨rfl,b1⟩;have B1:=Zh b1;clear b1)
   | (go_at_call 6;(with_reducible refine (HR.o _ B1.o).mono ?_);rintro e w2 ⟨A2,c2,A2',c2',rfl,_,_,hr1,hr2,b2⟩;have B2:=Zh (gro B1.o b2);have HR2:=Zh hr1;clear hr1 hr2 b2)
   | (go_at_call 12;(with_reducible refine (HTA.o _ _ _ HR2.o).mono ?_);rintro e w5 ⟨rfl,b5⟩;have HB5:=Zh (gro B2.o b5);clear b5)
   | (refine zag yik _ _ yik yik yik Tryd.sizeMM rfl rfl (BoxM.new w5 38 (fun _=>0) 0 (.slice none 0 0) (.slice none 0 0)) ?_;intro hbx;clear hbx;go_simp)
   | fail)
  have hb6:Below w5.heap.size w5 ((w5.alloc (.cells zbm 38)).setRow w5.heap.size (zaf (fun _=>0) 0 (.slice none 0 0) (.slice none 0 0))):=below_setRow ((yf6 _ _).alloc (yez _) _) (yez _) _;generalize (w5.alloc (.cells zbm 38)).setRow w5.heap.size (zaf (fun _=>0) 0 (.slice none 0 0) (.slice none 0 0))=w6 at *;have HB6:=Zh (gro HB5.o hb6);clear hb6 HTA;go_wp2_with (first | (go_at_call 9;(with_reducible refine (HCD.o _).mono ?_);rintro e w9 ⟨rfl,rfl⟩) | fail);go_ret;exact⟨rfl,HB6.o⟩
 | some v =>
  obtain⟨ss,rows⟩:=v;obtain⟨hok,hr1,hr2⟩:=zpn yie hT;have hK6:zef (zad R) (R.map (·.2))<=256:=zgj _ _;have hrows:rows.length<=300:=by
   unfold zct at hT;obtain⟨h1,h2,z,h3⟩:=zhf hT yie (yf8 _) yii ⟨by simp,rfl,fun j hj=>by omega⟩;have:=h1.len;omega
  have hT1:∀ (W:World) (A:Option Addr) (c:Nat),RdRules W A R->Calls Tryd.prog 12 #[.slice A n c,.int .i64 lam,.int .i64 300] W fun e w'=>Below W.heap.size W w'∧zkc W (zad R) (R.map (·.2)) lam.toNat (some (ss,rows)) e w':=fun W A c hr=>(hT0 W A c hr).mono fun e w' h=>by rw[hT] at h;exact h
  unfold zkc at hT1;simp only at hT1;have hwant:=fun (κ:Nat->Nat) (fs:List Nat) (rows':List (List Nat)) (hL:Lst κ rows (ss.map fun s=>zbb (RR (zad R) (R.map (·.2)) lam.toNat) s (0,0)) rows.length (zef (zad R) (R.map (·.2))) fs rows') (ys:List Int) (hy:∀ k,k<ys.length->0<=ys.getD k 0∧ys.getD k 0<=255)=>zy4 HFW.o yie yie hT hL hy
  generalize zew (zad R) (R.map (·.2))=F at *;generalize zef (zad R) (R.map (·.2))=K at *;generalize (ss.map fun s=>zbb (RR (zad R) (R.map (·.2)) lam.toNat) s (0,0))=outs at *;have hrow:∀ (i:Nat) r,rows[i]?=some r->r.length=K∧∀ x∈r,x<rows.length:=fun i r e=>hok.row i r e
  have HMK:Hid (∀ (κ:Nat->Nat) (fs:List Nat) (rows':List (List Nat)),(∀ s t,s<rows.length->t<rows.length->(κ s=κ t↔Alk (dl rows) (fun s=>outs[s]?) rows.length K s t))->zf9 κ (dl rows) K (rows.length+1) 0 [0] []=(fs,rows')->Lst κ rows outs rows.length K fs rows'):=Zh fun κ fs rows' h1 h2=>⟨ye4 rfl hrow,h1,h2,hok.some,hok.out⟩
  have HTA:=Zh hT1;have HWA:=Zh hwant;have HCL:=Zh hok.cls;have HRW:=Zh hrows;have HK6:=Zh hK6;clear hT1 hwant hT hT0 hok hr1 hr2 hK6 hrows hrow hbad;go_enter Tryd.func4,Tryd.ntmps4;go_upto_region 6 with (first
   | (go_at_call 11;(with_reducible refine HUP.o.mono ?_);rintro e w1 ⟨rfl,b1⟩;have B1:=Zh b1;clear b1)
   | (go_at_call 6;(with_reducible refine (HR.o _ B1.o).mono ?_);rintro e w2 ⟨A2,c2,A2',c2',rfl,_,_,hr1,hr2,b2⟩;have B2:=Zh (gro B1.o b2);have HR2:=Zh hr1;clear hr1 hr2 b2)
   | (go_at_call 12;(with_reducible refine (HTA.o _ _ _ HR2.o).mono ?_);rintro e w5 ⟨b5,q,B5,vN,vO,O,fs,rows',rfl,_,hq,hls,hn5,ho5⟩;have HLST:=Zh (HMK.o _ _ _ hq hls);obtain⟨AN,cN,e1⟩:=hn5.form;obtain⟨AO,cO,e2⟩:=ho5.form;obtain⟨rm,hrm⟩:∃ m,fs.length=m:=⟨_,rfl⟩;rw[HLST.o.len,hrm] at e1;rw[yfr,hrm] at e2;subst e1 e2;have HRM:=Zh hrm;have HB5:=Zh (gro B2.o b5);have HR5:=Zh (HR2.o.stays b5);have HN5:=Zh hn5;have HO5:=Zh (show Ots w5 B5 O (.slice AO rm cO) (zhu outs fs) from ho5);clear b5 hn5 ho5 hq hls hrm)
   | (refine zag yik _ _ yik yik yik Tryd.sizeMM rfl rfl (BoxM.new w5 38 (fun _=>0) 0 (.slice none 0 0) (.slice none 0 0)) ?_;intro hbx;have HX5:=Zh hbx;clear hbx;go_simp)
   | fail)
  have hb6:Below w5.heap.size w5 ((w5.alloc (.cells zbm 38)).setRow w5.heap.size (zaf F K (.slice AN rm cN) (.slice AO rm cO))):=below_setRow ((yf6 _ _).alloc (yez _) _) (yez _) _;have hx6:=HX5.o;change BoxM ((w5.alloc (.cells zbm 38)).setRow w5.heap.size (zaf F K (.slice AN rm cN) (.slice AO rm cO))) _ _ _ _ _ _ at hx6;generalize (w5.alloc (.cells zbm 38)).setRow w5.heap.size (zaf F K (.slice AN rm cN) (.slice AO rm cO))=w6 at *;have HX6:=Zh hx6;have HB6:=Zh (gro HB5.o hb6);have HR6:=Zh (HR5.o.stays hb6);have HN6:=Zh (zgc HN5.o hb6);have HO6:=Zh (zgb HO5.o hb6);have HTB6:=Zh (show Tab w6 from⟨yff HTB.o.1 HB6.o.size,fun k hk=>za4 (HTB.o.2 k hk) HB6.o⟩);obtain⟨g5,hg5⟩:∃ g,w5.heap.size=g:=⟨_,rfl⟩;rw[hg5] at HX6 ⊢;clear hx6 hb6 HX5 hg5 HN5 HO5 HR5 HTA HMK;have hmx:Tryd.prog.follows .mixedOrders=true:=yih;have hrn3:rm<=300:=(by have h1:=HLST.o.few;have h2:=HRM.o;have h3:=HRW.o;omega);have HOK:=Zh (HLST.o.okM HCL.o (by have h3:=HRW.o;omega));have HRU:=Zh (fun (W:World) (hW:Below w6.heap.size w6 W) (k:Nat) (hk:k<=X)=>by
   have hlen:(xs.take k).length=k:=(by rw[yg8,HX.o];omega);have hby:∀ j,j<(xs.take k).length->0<=(xs.take k).getD j 0∧(xs.take k).getD j 0<=255:=fun j hj=>by
    rw[yf0,ygt yie,←yf0];exact HBY.o j (by rw[HX.o];omega)
   have hb:=gro HB6.o hW;have h:=ydo (c:=cc) HOK.o (zgc HN6.o hW) (zgb HO6.o hW) (((HXB.o.below hb).more hb.size).take k) hby (by rw[hlen];have:=HX6L.o;omega);rw[hlen] at h;exact (⟨h,HWA.o _ _ _ HLST.o _ hby⟩:_∧_))
  go_wp2_with fail;go_loopg [15] (X+1) (fun mm i wr=>∃ e:Nat,i = .int .i64 (e:Int)∧e<=X+1∧mm=X+1-e∧Below w6.heap.size w6 wr)
  case atStart=>exact⟨0,by first | rfl | trivial,yf8 _,by first | rfl | trivial,yf6 _ _⟩
  case round =>
   obtain⟨e,rfl,he,hme,hbw⟩:=hrel;have HME:=Zh hme;have HBW:=Zh hbw;clear hme hbw
   by_cases heX:e<=X
   .have heX':(e:Int)<=(X:Int):=yie;have he0:(0:Int)<=(e:Int):=yie;have hec:(e:Int)<=(cc:Int):=yie;have HU:=Zh (fun (W:World) (hW:Below w6.heap.size w6 W)=>(HRU.o W hW e heX).1);obtain⟨hp1,hq1⟩:=(HRU.o w6 (yf6 _ _) e heX).2;generalize (zhu outs fs).getD (runN F rows' (xs.take e) 0) (0,0)=o at *;have HP:=Zh hp1;have HQ:=Zh hq1;clear hp1 hq1;have hXW:=HX6.o.stays HBW.o;have HXW:=Zh hXW;clear hXW;go_upto_region 12 with fail
    go_cut [16] from 63 to 152 (fun s16 wx=>∃ g9:Nat,s16 = .pointer (some ⟨g9,0,none⟩)∧wx.heap[g9]?=some (.cells #[.int .u64 (o.1:Int),.int .u64 (o.2:Int)] 49 (0,0))∧Below wr.heap.size wr wx)
    case first =>
     have hR0:=zn6 wr;refine zdb (R:=fun W=>Below wr.heap.size wr W) (S:=fun _=>True) (T:=[]) hmx ?_;refine anyR_tk (i:=0) (v := .agg (zaf F K (.slice AN rm cN) (.slice AO rm cO))) rfl (zie yik _ yik yik (fun W hW=>HXW.o.stays hW) Tryd.underlying38 rfl Tryd.sizeMM) hR0 (fun _=>trivial) ?_;refine anyR_tk (i:=1) (v := .slice C X cc) rfl (Or.inl ⟨by kernel_rfl,fun w' hS=>by go_simp⟩) hR0 (fun _=>trivial) ?_;refine anyR_tk (i:=2) (v := .int .i64 (e:Int)) rfl (Or.inl ⟨by kernel_rfl,fun w' hS=>by go_simp⟩) hR0 (fun _=>trivial) ?_;refine anyR_tk (i:=3) (v := .slice C e cc) rfl (Or.inl ⟨by kernel_rfl,fun w' hS=>by go_simp⟩) hR0 (fun _=>trivial) ?_;go_simp;refine za2 (rs:=[4,5]) yih yii ?_;refine zc6 (za3 rfl fun K' hK=>?_) (za3 rfl fun K' hK=>?_)
     .go_simp;go_at_call 13
      with_reducible refine (HU.o _ (gro HBW.o hR0)).mono ?_
      rintro e w9 ⟨rfl,b9⟩;have h9:=gro hR0 b9;refine hK.out _ _ h9 (fun _=>trivial) ?_;clear hK K' b9;refine za2 (rs:=[5]) yih yii ?_;refine za5 (za3 rfl fun K' hK=>?_);go_simp;refine hK.out _ _ (h9.alloc h9.size _) (fun _=>trivial) ?_;clear hK K';have hn0:HasO (w9.alloc (.cells #[.int .u64 0,.int .u64 0] 49)) w9.heap.size (.cells #[.int .u64 0,.int .u64 0] 49 (0,0)):=zav _ _ _ _ rfl;have hst:=zun (ty:=49) (cs:=#[.int .u64 (o.1:Int),.int .u64 (o.2:Int)]) hn0 yih rfl (by simp[Value.oneCell']);have hy:=zq3 (cs:=#[.int .u64 (o.1:Int),.int .u64 (o.2:Int)]) hn0;have hbb:=zk5 (cs:=#[.int .u64 (o.1:Int),.int .u64 (o.2:Int)]) (h9.alloc h9.size (.cells #[.int .u64 0,.int .u64 0] 49)) h9.size;refine za2 (rs:=[6]) yih yii ?_;refine za5 (za3 rfl fun K' hK=>?_);go_simp;refine hK.out _ _ hbb (fun _=>trivial) ?_;clear hK K';refine zci yih ?_ _;go_wp2;go_meet;exact⟨_,rfl,hy,hbb⟩
     .go_simp;have h5:Below wr.heap.size wr ((wr.alloc (.cells #[.int .u64 0,.int .u64 0] 49)).drew):=((yf6 _ _).alloc (yez _) _).drew;have hn5:HasO ((wr.alloc (.cells #[.int .u64 0,.int .u64 0] 49)).drew) wr.heap.size (.cells #[.int .u64 0,.int .u64 0] 49 (0,0)):=zcg (zav _ _ _ _ rfl);refine hK.out _ _ h5 (fun _=>trivial) ?_;clear hK K';refine za2 (rs:=[4]) yih yii ?_;refine za5 (za3 rfl fun K' hK=>?_);go_simp;go_at_call 13
      with_reducible refine (HU.o _ (gro HBW.o h5)).mono ?_
      rintro e w9 ⟨rfl,b9⟩;have h9:=gro h5 b9;refine hK.out _ _ h9 (fun _=>trivial) ?_;clear hK K';have hn0:HasO w9 wr.heap.size (.cells #[.int .u64 0,.int .u64 0] 49 (0,0)):=(b9.block _ (za0 hn5)).trans hn5;have hst:=zun (ty:=49) (cs:=#[.int .u64 (o.1:Int),.int .u64 (o.2:Int)]) hn0 yih rfl (by simp[Value.oneCell']);have hy:=zq3 (cs:=#[.int .u64 (o.1:Int),.int .u64 (o.2:Int)]) hn0;have hbb:=zk5 (cs:=#[.int .u64 (o.1:Int),.int .u64 (o.2:Int)]) h9 (yez _);refine za2 (rs:=[6]) yih yii ?_;refine za5 (za3 rfl fun K' hK=>?_);go_simp;refine hK.out _ _ hbb (fun _=>trivial) ?_;clear hK K';refine zci yih ?_ _;go_wp2;go_meet;exact⟨_,rfl,hy,hbb⟩
    case rest =>
     obtain⟨g9,rfl,ho3,hbc⟩:=hcut;have HO3:=Zh ho3;have HB3:=Zh (gro HBW.o hbc);have HBE:=Zh (gro HB6.o (gro HBW.o hbc));obtain⟨ys,hys⟩:∃ ys,xs.take e=ys:=⟨_,rfl⟩;have hyl:ys.length=e:=(by rw[←hys,yg8,HX.o];omega);have HYL:=Zh hyl;have HYS:=Zh hys;have hyx:=HXB.o.take e;rw[hys] at hyx;have HYX:=Zh hyx;have hyb:∀ j,j<ys.length->0<=ys.getD j 0∧ys.getD j 0<=255:=fun j hj=>by
      rw[←hys,yf0,ygt yie,←yf0];exact HBY.o j (by rw[HX.o];omega)
     have HYB:=Zh hyb;rw[hys] at HP HQ;clear ho3 hbc hyl hys hyx hyb HU HRU HXW hX60;generalize wc=w3 at *;go_wp2;go_loopg [17] 41 (fun mm i wr=>∃ k:Nat,i = .int .i64 (k:Int)∧k<=41∧mm=41-k∧Below w3.heap.size w3 wr)
     case atStart=>exact⟨0,by first | rfl | trivial,yf8 _,by first | rfl | trivial,yf6 _ _⟩
     case round =>
      obtain⟨k,rfl,hk,hmk,hbw⟩:=hrel;have HMK:=Zh hmk;have HBW2:=Zh hbw;clear hmk hbw
      by_cases hk41:k<41
      .have hk1:(k:Int)<=40:=yie;have hk0:(0:Int)<=(k:Int):=yie;go_wp2
       by_cases hok:1<=k∧(k:Int)<=lam∧k<=e
       .obtain⟨d1,d2,d3⟩:=hok;have d1':(1:Int)<=(k:Int):=yie;have d3':(k:Int)<=(e:Int):=yie;have z0:zgh R false ys k 0=false:=zlc R false ys k;have z1:zgh R true ys k 0=false:=zlc R true ys k;go_loopg [18,19,20] n (fun m2 p q i wr2=>∃ j:Nat,i = .int .i64 (j:Int)∧j<=n∧m2=n-j∧p = .bool (zgh R false ys k j)∧q = .bool (zgh R true ys k j)∧Below w3.heap.size w3 wr2)
        case atStart=>exact⟨0,by first | rfl | trivial,yf8 _,by first | rfl | trivial,by rw[z0],by rw[z1],HBW2.o⟩
        case round =>
         obtain⟨j,rfl,hj,hmj,rfl,rfl,hbj⟩:=hrel;have HMJ:=Zh hmj;have HBJ:=Zh hbj;clear hmj hbj z0 z1
         by_cases hjM:j<n
         .have hjM':(j:Int)<(n:Int):=yie;have hj0:(0:Int)<=(j:Int):=yie;obtain⟨r,hr⟩:∃ r,R[j]?=some r:=⟨_,yey (by rw[HN.o];exact hjM)⟩;have hwfr:=(HFW.o.ok r (yfh hr)).1;have hb6:Below w6.heap.size w6 wr:=gro HB3.o HBJ.o;have hbB:Below w.heap.size w wr:=gro HBE.o HBJ.o;obtain⟨g,off,kk,e1,hg,hcg,htg⟩:=(HR6.o.stays hb6) j r hr;subst e1;obtain⟨A1,n1,c1,rfl⟩:=htg.form;have x0:wr.cell? ⟨g,off+j*9,none⟩=some (.int .i64 r.1.op):=hcg 0 _ rfl;have x1:=hcg 1 _ rfl;have x2:=hcg 2 _ rfl;have x3:=hcg 3 _ rfl;have x4:=hcg 4 _ rfl;have x5:=hcg 5 _ rfl;have x6:=hcg 6 _ rfl;have x7:=hcg 7 _ rfl;have HX8:=Zh (hcg 8 _ rfl);obtain⟨b,o2,rfl,hbl,hcc⟩:=HYX.o.at (k:=0) (by rw[HYL.o];omega);clear hcc hbl;obtain⟨d,hd⟩:∃ d,e-k=d:=⟨_,rfl⟩;have s0:(0:Int)<=(d:Int):=yie;have s1:(d:Int)<=(e:Int):=yie;have s2:(e:Int)<=(cc:Int):=yie;have s3:¬ cc=d:=yie;have s4:(e:Int)-(k:Int)=(d:Int):=yie;have s5:(d:Int).toNat=d:=yie;have s6:IntKind.i64.wrap (d:Int)=(d:Int):=IntWalk.i64_in _ yie;have s7:(e:Int).toNat=e:=yie;have HDD:=Zh hd;clear hd;have hlen:(ys.drop d).length=e-d:=(by rw[List.length_drop,HYL.o]);have hdx:ys.length-k=d:=(by rw[HYL.o];exact HDD.o);have hby2:∀ i,i<(ys.drop d).length->0<=(ys.drop d).getD i 0∧(ys.drop d).getD i 0<=255:=fun i hi=>by
           have:=HYB.o (d+i) (by rw[hlen] at hi;rw[HYL.o];omega);rw[yf0,List.getElem?_drop,←yf0];exact this
          have hbB2:Below w.heap.size w wr.drew:=hbB.drew;have hb62:Below w6.heap.size w6 wr.drew:=hb6.drew;have hlast:=yej hwfr ys k (by rw[HYL.o];omega);rw[hdx] at hlast;have hHas:=(zwf (w:=wr.drew) (c:=cc-d) (A:=some ⟨b,o2+d,none⟩) (xs:=ys.drop d) hwfr (htg.stays (yf6 _ _).drew) (((HYX.o.below hbB2).more hbB2.size).drop d) hby2 (by rw[hlen];omega) ⟨yff HTB6.o.1 hb62.size,fun i hi=>za4 (HTB6.o.2 i hi) hb62⟩).mono fun e w' h=>(show ∃ bb:Bool,e = .returned (.bool bb)∧(bb=true↔E ys r.1 (ys.length-k) ys.length)∧Below wr.drew.heap.size wr.drew w' from by
           obtain⟨bb,h1,h2,h3⟩:=h;exact⟨bb,h1,by rw[hdx];exact h2.trans hlast,h3⟩)
          unfold zcu at hHas;rw[hlen] at hHas;have HHAS:=Zh hHas;have HS0:=Zh (fun (bb:Bool) hb=>zld (c:=false) (xs:=ys) (k:=k) hr (b:=bb) hb);have HS1:=Zh (fun (bb:Bool) hb=>zld (c:=true) (xs:=ys) (k:=k) hr (b:=bb) hb);clear hcg htg hHas hlast hbB2 hb62 hb6 hbB hby2 hdx hlen hr hwfr;generalize zgh R false ys k j=P0 at *;generalize zgh R true ys k j=Q0 at *;go_wp2_with fail;go_still_tail 11,yih;change wpList _ _ _ _ _ (World.drew _);go_upto_region 22 with (go_at_call 14;(with_reducible refine HHAS.o.mono ?_);rintro e w5 ⟨bb,rfl,hbb,hb5⟩;have HB5:=Zh (zez hb5);have E0:=Zh (HS0.o bb hbb);have E1:=Zh (HS1.o bb hbb);clear hb5 hbb)
          have x8:=za4 HX8.o HB5.o;clear HS0 HS1 HHAS HX8 x0 x1 x2 x3 x4 x5 x6 x7;obtain⟨c9,hc9⟩:∃ c9,r.2=c9:=⟨_,rfl⟩;rw[hc9] at x8 E0 E1;clear hc9;cases P0 <;> cases Q0 <;> cases bb <;> cases c9
          all_goals
           go_wp2;go_roundg (n-(j+1))
           case measure=>have:=HMJ.o;omega
           case rel=>exact⟨j+1,by go_num,by omega,rfl,by rw[E0.o];rfl,by rw[E1.o];rfl,gro HBJ.o HB5.o⟩
         .have hjM':¬ (j:Int)<(n:Int):=yie;have hjn:j=n:=yie;have hq0:∀ c,zgh R c ys k j=zig R lam c ys k:=fun c=>by
           unfold zig;rw[HN.o,hjn,decide_eq_true ⟨d1,d2,by rw[HYL.o];exact d3⟩,yhx]
          have t1:(((o.1:Int) / 2 ^ k).tmod 2==1)=zig R lam false ys k:=(by rw[zit,HP.o k]);have t2:(((o.2:Int) / 2 ^ k).tmod 2==1)=zig R lam true ys k:=(by rw[zit,HQ.o k]);rw[hq0,hq0];have o3:=(HBJ.o.block g9 (za0 HO3.o)).trans HO3.o;have o1:wr.cell? ⟨g9,0,none⟩=some (.int .u64 (o.1:Int)):=cell_of_row wr _ 0 _ 49 (0,0) o3;have o2:wr.cell? ⟨g9,1,none⟩=some (.int .u64 (o.2:Int)):=cell_of_row wr _ 1 _ 49 (0,0) o3;clear hq0 o3 hjn;generalize zig R lam false ys k=P0 at *;generalize zig R lam true ys k=Q0 at *;cases P0 <;> cases Q0
          all_goals
           go_wp2;go_roundg (41-(k+1))
           case measure=>have:=HMK.o;omega
           case rel=>exact⟨k+1,by go_num,by omega,rfl,HBJ.o⟩
       .have hw:∀ c,zig R lam c ys k=false:=fun c=>by
         cases h:zig R lam c ys k
         .rfl
         .have:=wantB_iff.1 h;exact absurd ⟨this.1,this.2.1,by have:=HYL.o;omega⟩ hok
        have t1:(((o.1:Int) / 2 ^ k).tmod 2==1)=false:=(by rw[zit,HP.o k,hw]);have t2:(((o.2:Int) / 2 ^ k).tmod 2==1)=false:=(by rw[zit,HQ.o k,hw]);have o3:=(HBW2.o.block g9 (za0 HO3.o)).trans HO3.o;have o1:wr.cell? ⟨g9,0,none⟩=some (.int .u64 (o.1:Int)):=cell_of_row wr _ 0 _ 49 (0,0) o3;have o2:wr.cell? ⟨g9,1,none⟩=some (.int .u64 (o.2:Int)):=cell_of_row wr _ 1 _ 49 (0,0) o3;have hno:(¬ (0:Int)<(n:Int))∨((0:Int)<(n:Int)∧¬ (1:Int)<=(k:Int))∨((0:Int)<(n:Int)∧(1:Int)<=(k:Int)∧¬ (k:Int)<=lam)∨((0:Int)<(n:Int)∧(1:Int)<=(k:Int)∧(k:Int)<=lam∧¬ (k:Int)<=(e:Int)):=yie;clear hok hw o3;rcases hno with d1|⟨d1,d2⟩|⟨d1,d2,d3⟩|⟨d1,d2,d3,d4⟩
        all_goals
         refine wp_loop_rounds 1 ?_;rw[rounds_succ];go_wp2;go_roundg (41-(k+1))
         case measure=>have:=HMK.o;omega
         case rel=>exact⟨k+1,by go_num,by omega,rfl,HBW2.o⟩
      .have hk1:¬ (k:Int)<=40:=yie;go_wp2;go_roundg (X+1-(e+1))
       case measure=>have:=HME.o;omega
       case rel=>exact⟨e+1,by go_num,by omega,rfl,gro HB3.o HBW2.o⟩
   .have heX':¬ (e:Int)<=(X:Int):=yie;have hb7:=gro HB6.o HBW.o;have hX7:=HX6.o.stays HBW.o;have HB7:=Zh hb7;have HN7:=Zh (zgc HN6.o HBW.o);have HO7:=Zh (zgb HO6.o HBW.o);have c1:=hX7.num;have c2:=hX7.nxt;have c3:=hX7.out;have hpos:=HLST.o.pos;have hml:rows'.length=rm:=(by rw[HLST.o.len,HRM.o]);have hmo:(zhu outs fs).length=rm:=(by rw[HLST.o.outLen,HRM.o]);rw[HRM.o] at hpos;have hri:=HLST.o.rowsIn;rw[HRM.o] at hri;have hap:=fun i j=>HLST.o.apart (i:=i) (j:=j)
    rw[HRM.o] at hap;have hda:=zzw (F:=fun _=>0) (C:=K) HN7.o HO7.o hml hmo hpos hri yie (by have:=HK6.o;omega);unfold yef at hda;have HDA:=Zh hda;have HAP:=Zh hap;have HPOS:=Zh hpos;clear hX7 hb7 hml hmo hri hap hda hpos HRU HN6 HO6 HOK HTB6 HR6 HXB HBY HFW HWA HLST HRW HK6
    by_cases hr1:100<rm
    .have hr2:(100:Int)<(rm:Int):=yie;go_wp2;go_ret;exact⟨rfl,HB7.o⟩
    have hr2:¬ (100:Int)<(rm:Int):=yie;go_upto_region 29 with (first
     | (refine ziv yik _ _ _ yik yik yik yik ?_;go_simp)
     | (go_at_call 15;(with_reducible refine HDA.o.mono ?_);rintro e9 w11 ⟨gv,cv,G,M,rfl,mx,hM,b11⟩;have HMX:=Zh mx;have HM:=Zh hM;have HB11:=Zh (gro HB7.o b11);clear mx hM b11)
     | fail)
    clear c1 c2 c3 HDA;go_wp2;go_loopg [23] rm (fun mm i wr=>∃ k:Nat,i = .int .i64 (k:Int)∧k<=rm∧mm=rm-k∧w11=wr)
    case atStart=>exact⟨0,by first | rfl | trivial,yf8 _,by first | rfl | trivial,rfl⟩
    case round =>
     obtain⟨k,rfl,hk,hmk,rfl⟩:=hrel;have HMK:=Zh hmk
     by_cases hkS:k<rm
     .have hk1:(k:Int)<(rm:Int):=yie;have hk0:(0:Int)<=(k:Int):=yie;have d1:=HMX.o.cell k hkS;have D1:=Zh d1;clear hmk d1;go_wp2;go_loopg [24] k (fun mm i wj=>∃ c:Nat,i = .int .i64 (c:Int)∧c<=k∧mm=k-c∧w11=wj)
      case atStart=>exact⟨0,by first | rfl | trivial,yf8 _,by first | rfl | trivial,rfl⟩
      case round =>
       obtain⟨c,rfl,hc,hmc,rfl⟩:=hrel;have HMC:=Zh hmc;clear hmc
       by_cases hck:c<k
       .have hc1:(c:Int)<(k:Int):=yie;have hc0:(0:Int)<=(c:Int):=yie;have hc2:(c:Int)<(rm:Int):=yie;have hf:M k c=false:=by
         cases e:M k c with
         | false=>rfl
         | true =>
          have:=(HAP.o k c yie yie).1 ((HM.o k c yie yie).1 e);omega
        have d2:=(HMX.o.rows k hkS).cell c yie;rw[hf] at d2;have d1:=D1.o;clear hf;go_wp2;go_roundg (k-(c+1))
        case measure=>have:=HMC.o;omega
        case rel=>exact⟨c+1,by go_num,by omega,rfl,rfl⟩
       .have hcl:k=c:=yie;clear hck hc;subst hcl;go_wp2;go_roundg (rm-(k+1))
        case measure=>have:=HMK.o;omega
        case rel=>exact⟨k+1,by go_num,by omega,rfl,rfl⟩
     .have hkl:rm=k:=yie;clear hk hkS hmk;subst hkl;go_wp2;go_ret;exact⟨rfl,HB11.o⟩
end
end Go.Proofs.YtipfgpfplakhiaaDoor
