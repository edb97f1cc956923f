import Derived.Test.YtipfgpfplakhiaaTc45
set_option linter.unusedVariables false
set_option linter.unusedSimpArgs false
set_option maxRecDepth 20000
set_option maxHeartbeats 4000000
namespace Go.Proofs.Ytipfgpfplakhiaa
open Go Go.RowKit
theorem ztf:zd6 [] [] 5 1=some ([[]],[[0]]):=by
 unfold zd6;rw[show zdi [] []=1 from zhp 255];rfl
theorem zt9 (W:World):Calls Try.prog 17 #[.slice none 0 0,.int .i64 5,.int .i64 1] W fun e w'=>Below W.heap.size W w'∧∃ F A c B d,e = .returned (.tuple #[.agg (zac F 1 (.slice A 1 c) (.slice B 1 d)),.nilIface]):=by
 have h:=zmk (w:=W) (A:=none) (c:=0) (l:=[]) (lam:=5) (most:=1) (RdRules.nil W none) (fun r e=>by simp at e) yk3 yjz yjz;refine h.mono fun e w' h=>?_
 unfold ziu at h;rw[if_neg yk3,show ((5:Int).toNat)=5 from rfl,show ((1:Int).toNat)=1 from rfl,show zaj []=[] from rfl,show ([]:List (T×Bool)).map (·.2)=[] from rfl,ztf] at h;obtain⟨h1,q,B,vN,vO,O,fs,rows',rfl,_,_,hls,hN,hO⟩:=h;have hdl:=yfp (rows:=[[0]]) (N:=1) (C:=1) rfl (fun i r e=>by
  cases i with
  | zero=>simp at e;subst e;exact⟨rfl,fun x hx=>by simp at hx;omega⟩
  | succ i=>simp at e)
 rw[show zdi [] []=1 from zhp 255] at hls;obtain⟨h5,h2,h3,h4⟩:=zk6 (N:=1) (C:=1) hdl yjz hls;obtain⟨_,_,_,z,hz⟩:=zmz (N:=1) (C:=1) hdl _ _ _ _ _ _ hls (zoj _ yjz) rfl yk3 yk3 (fun r hr=>by cases hr);have hl:fs.length=1:=by
  have:fs.length=1+z.length:=by rw[hz,ygu];rfl
  omega
 obtain⟨A,c,e1⟩:=hN.form;obtain⟨B,d,e2⟩:=hO.form;rw[h2,hl] at e1;rw[yh8,hl] at e2;exact⟨h1,zhr [] [],A,c,B,d,by rw[e1,e2,show zdi [] []=1 from zhp 255];rfl⟩
theorem zta (W:World):Calls Try.prog 17 #[.slice none 0 0,.int .i64 5,.int .i64 0] W fun e w'=>Below W.heap.size W w'∧e = .returned (.tuple #[.agg zcq,errV 1]):=by
 have h:=zmk (w:=W) (A:=none) (c:=0) (l:=[]) (lam:=5) (most:=0) (RdRules.nil W none) (fun r e=>by simp at e) yk3 yjz yjz;refine h.mono fun e w' h=>?_
 unfold ziu at h;rw[if_pos yjz] at h;exact h
theorem yes (w:World):Calls Try.prog 16 #[] w fun e w'=>e = .returned (.bool true)∧Below w.heap.size w w':=by
 have hz38:∀ w:World,Sem.run Try.prog (zeroValue 41) w = .ok (.agg zcq) w:=fun _=>by kernel_rfl
 have HB:=Zh zt9;have HD:=Zh zta;have hc:∀ W,Calls Try.prog 19 #[.iface 93 (.int .i64 1)] W fun e w'=>e = .returned (.int .i64 1)∧W=w':=fun W=>zy5 W 1 yjz yjz
 have HC:=Zh hc;clear hc;go_enter Try.func16,Try.ntmps16;go_upto_region 2 with (first
  | (go_at_call 17;(with_reducible refine (HB.o _).mono ?_);rintro e w1 ⟨b1,F,A,c,B,d,rfl⟩;have B1:=Zh b1;clear b1)
  | (refine zab yk5 _ _ yk5 yk5 yk5 Try.sizeMM rfl rfl (BoxM.new w1 41 (fun _=>0) 0 (.slice none 0 0) (.slice none 0 0)) ?_;intro hbx;have HX1:=Zh hbx;clear hbx;go_simp)
  | fail)
 have hb2:Below w.heap.size w ((w1.alloc (.cells zcq 41)).setRow w1.heap.size (zac F 1 (.slice A 1 c) (.slice B 1 d))):=below_setRow (B1.o.alloc B1.o.size _) B1.o.size _;have hx2:=HX1.o;change BoxM ((w1.alloc (.cells zcq 41)).setRow w1.heap.size (zac F 1 (.slice A 1 c) (.slice B 1 d))) _ _ _ _ _ _ at hx2;generalize (w1.alloc (.cells zcq 41)).setRow w1.heap.size (zac F 1 (.slice A 1 c) (.slice B 1 d))=w2 at *;have HX2:=Zh hx2;have HB2:=Zh hb2;clear hx2 hb2 HX1;go_upto_region 3 with (first
  | (go_at_call 17;(with_reducible refine (HD.o _).mono ?_);rintro e w3 ⟨b3,rfl⟩;have B3:=Zh b3;have HX3:=Zh (HX2.o.stays b3);have HB3:=Zh (gro HB2.o b3);clear b3)
  | (refine zab yk5 _ _ yk5 yk5 yk5 Try.sizeMM rfl rfl (BoxM.new w3 41 (fun _=>0) 0 (.slice none 0 0) (.slice none 0 0)) ?_;intro hbx;clear hbx;go_simp)
  | fail)
 have hb4:Below w3.heap.size w3 ((w3.alloc (.cells zcq 41)).setRow w3.heap.size (zac (fun _=>0) 0 (.slice none 0 0) (.slice none 0 0))):=below_setRow ((ygr _ _).alloc (ygo _) _) (ygo _) _;generalize (w3.alloc (.cells zcq 41)).setRow w3.heap.size (zac (fun _=>0) 0 (.slice none 0 0) (.slice none 0 0))=w5 at *;have hx4:=HX3.o.stays hb4;have hb5:=gro HB3.o hb4;have c1:=hx4.num;have c2:=hx4.nxt;have c3:=hx4.out;have HB5:=Zh hb5;clear hb4 hx4 hb5;unfold errV;go_wp2_with (first
  | (go_at_call 19;(with_reducible refine (HC.o _).mono ?_);rintro e w6 ⟨rfl,rfl⟩)
  | fail)
 go_ret;exact⟨rfl,HB5.o⟩
end Go.Proofs.Ytipfgpfplakhiaa
