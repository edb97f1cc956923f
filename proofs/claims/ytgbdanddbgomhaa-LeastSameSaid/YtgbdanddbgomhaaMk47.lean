import Derived.Test.YtgbdanddbgomhaaMk36
import Derived.Test.YtgbdanddbgomhaaMk46
set_option linter.unusedVariables false
set_option linter.unusedSimpArgs false
namespace Go.Proofs.Ytgbdanddbgomhaa
open Go Go.RowKit
theorem zmf (R:List (T×Bool)):checksOf R=(R.map (·.2)).map Value.bool:=by simp[checksOf]
theorem zuo {w:World} {A:Option Addr} {L:List Bool} (h:RdBo w A L):RdTr w A L:=fun i x e=>h i x e
theorem zc8 {ops:Array Oper} {S:World->Prop} {op:Oper} {a:Act} {g:Nat} {t:TypeId} {F:Nat->Nat} {n:Int} {vN vO:Value} (hw:Region.wanted op (yielded ops a.tmps)=true) (x:Operand) (ho:op.op = .load t x) (hx:a.eval x = .pointer (some ⟨g,0,none⟩)) (hS:∀ w,S w->BoxM w g t F n vN vO)
   {d:TypeDesc} (hu:Try.prog.underlying t=some d) (hd:d.isRow=true) (hs:(Try.prog.info? t).map (·.size)=some 259):YieldsIf Try.prog ops S op (.agg (machC F n vN vO)) a:=by
 have:=yieldsIf_load_mid hw t x ho g 0 hx (machC F n vN vO).toList d (fun w h=>(hS w h).whole) hu hd (by rw[hs];simp[zba])
 simpa using this
theorem zh9 (w:World):Below w.heap.size w w.drew:=⟨rfl,rfl,rfl,Nat.le_refl _,fun _ _=>rfl⟩
set_option maxRecDepth 20000 in
theorem zl9 (n:Int) (A:Option Addr) (m c:Nat) (B:Option Addr) (k d:Nat) (w:World):(Instr.build 38 #[(1,.int .i64 n),(2,.slice A m c),(3,.slice B k d)]).run Try.prog w = .ok (.agg (machC (fun _=>0) n (.slice A m c) (.slice B k d))) w:=by
 refine run_build w _ _ _ ?_
 kernel_rfl
theorem zhg {w:World} {ops:Array Oper} {rest:List Oper} {o:Oper} {a:Act} {Q:Exit->Act->World->Prop} {n:Int} {A:Option Addr} {m c:Nat} {B:Option Addr} {k d:Nat} (hgd:o.guard=none) (x1 x2 x3:Operand) (ho:o.op = .build 38 #[(1,x1),(2,x2),(3,x3)])
   (h1:a.eval x1 = .int .i64 n) (h2:a.eval x2 = .slice A m c) (h3:a.eval x3 = .slice B k d)
   (hk:wpList Try.prog ops Q rest (a.put o.dst (.agg (machC (fun _=>0) n (.slice A m c) (.slice B k d)))) w):wpList Try.prog ops Q (o::rest) a w:=by
 refine wpList_plain hgd fun _ hK=>?_
 unfold Oper.wp execOp;have e:(#[(1,x1),(2,x2),(3,x3)]:Array (Nat×Operand)).map (fun (i,x)=>(i,a.eval x))=#[(1,.int .i64 n),(2,.slice A m c),(3,.slice B k d)]:=(by simp[h1,h2,h3]);simp only[ho,e,Sem.run_bind,Sem.run_pure,Result.andThen_ok,zl9];exact hK _ _ hk
theorem zd9 {ops:Array Oper} {S:World->Prop} {op:Oper} {a:Act} {g:Nat} {t:TypeId} {F:Nat->Nat} {n:Int} {vN vO:Value} {m:Array Value} (e:machC F n vN vO=m) (hw:Region.wanted op (yielded ops a.tmps)=true) (x:Operand) (ho:op.op = .load t x) (hx:a.eval x = .pointer (some ⟨g,0,none⟩)) (hS:∀ w,S w->BoxM w g t F n vN vO)
   {d:TypeDesc} (hu:Try.prog.underlying t=some d) (hd:d.isRow=true) (hs:(Try.prog.info? t).map (·.size)=some 259):YieldsIf Try.prog ops S op (.agg m) a:=by
 subst e;exact zc8 hw x ho hx hS hu hd hs
theorem zuz (a0 a1:Int) (w:World):(binOp .eql 51 (.agg #[.int .u64 a0,.int .u64 a1]) (.agg #[.int .u64 a0,.int .u64 a1])).run Try.prog w = .ok (.bool true) w:=by
 have p0:∀ (c0 c1:Int) (w:World),(part 49 #[.int .u64 c0,.int .u64 c1] 0).run Try.prog w = .ok (.int .u64 c0) w:=fun _ _ _=>by kernel_rfl
 have p1:∀ (c0 c1:Int) (w:World),(part 49 #[.int .u64 c0,.int .u64 c1] 1).run Try.prog w = .ok (.int .u64 c1) w:=fun _ _ _=>by kernel_rfl
 have pe:∀ (a b:Int) (w:World),(Op.equalIn 9999 49 (.int .u64 a) (.int .u64 b)).run Try.prog w = .ok (a==b) w:=fun a b w=>run_equalIn_int (P:=Try.prog) w 9998 49 .u64 .u64 a b Try.underlying49
 have key:(Op.equalIn 10000 51 (.agg #[.int .u64 a0,.int .u64 a1]) (.agg #[.int .u64 a0,.int .u64 a1])).run Try.prog w = .ok true w:=by
   rw[show (10000:Nat)=9999+1 from rfl,run_equalIn_struct w 9999 _ _ _ (by kernel_rfl) (by kernel_rfl)];simp only[Program.fieldsOf,Try.underlying51];simp[Op.eqFields,p0,p1,pe,go_sem]
 show (do pure (.bool (←Op.equal 51 (.agg #[.int .u64 a0,.int .u64 a1]) (.agg #[.int .u64 a0,.int .u64 a1]))):Sem Value).run Try.prog w=_
 rw[Sem.run_bind,show Op.equal 51 (.agg #[.int .u64 a0,.int .u64 a1]) (.agg #[.int .u64 a0,.int .u64 a1])=Op.equalIn 10000 51 (.agg #[.int .u64 a0,.int .u64 a1]) (.agg #[.int .u64 a0,.int .u64 a1]) from rfl,key];rfl
theorem zio {ops:Array Oper} {S:World->Prop} {op:Oper} {a:Act} {a0 a1:Int} (hw:Region.wanted op (yielded ops a.tmps)=true) (x y:Operand) (z:TypeId) (ho:op.op = .binOp .eql 51 x y z) (hx:a.eval x = .agg #[.int .u64 a0,.int .u64 a1]) (hy:a.eval y = .agg #[.int .u64 a0,.int .u64 a1]):YieldsIf Try.prog ops S op (.bool true) a:=
 .inl ⟨hw,fun w _=>by
   have hm:Try.prog.eqGuardType Try.prog.depth 51=false:=(by kernel_rfl);unfold execOp;simp only[ho,hx,hy,Sem.run_bind,run_eqGuard_agg (P:=Try.prog) (hm:=hm),zuz,Result.andThen_ok,Sem.run_pure]⟩
set_option maxRecDepth 20000 in
set_option maxHeartbeats 4000000 in
theorem zm0 {w:World} {A B C:Option Addr} {ca cb cc:Nat} {L:List ByteArray} {bs:List Bool} {lam:Int} {xs:List Int} (hs:RdStr w A L) (hb:RdBo w B bs) (hL:L.length<=9223372036854775807) (hbs:bs.length<=9223372036854775807) (hsz:∀ s∈L,s.size<=9223372036854775807) (hlam : -9223372036854775808<=lam∧lam<=9223372036854775807)
   (hx:RdB w w.heap.size C xs) (hby:∀ k,k<xs.length->0<=xs.getD k 0∧xs.getD k 0<=255) (hxl:xs.length<=9223372036854775807):
   Calls Try.prog 3 #[.slice A L.length ca,.slice B bs.length cb,.int .i64 lam,.slice C xs.length cc] w fun e w'=>e = .returned (.bool true)∧Below w.heap.size w w':=by
 have HR:=Zh (fun W (h:Below w.heap.size w W)=>zxg (ca:=ca) (cb:=cb) (hs.stays h) (hb.stays h) hL hbs hsz);obtain⟨X,hX⟩:∃ X,xs.length=X:=⟨_,rfl⟩;have HX:=Zh hX;have HXB:=Zh hx;have HBY:=Zh hby;obtain⟨R,hR⟩:∃ R,rulesN L bs (min L.length 4)=R:=⟨_,rfl⟩;have hfew:=zt4 L bs (min L.length 4) (by omega);rw[hR] at HR hfew;obtain⟨N1,hN1⟩:∃ n,L.length=n:=⟨_,rfl⟩;obtain⟨N2,hN2⟩:∃ n,bs.length=n:=⟨_,rfl⟩;rw[hX] at hxl ⊢;rw[hN1,hN2] at HR ⊢;have HFW:=Zh hfew;clear hs hb hsz hX hx hby hR hfew hN1 hN2 hL hbs;obtain⟨n,hn⟩:∃ n,R.length=n:=⟨_,rfl⟩;have HN:=Zh hn;have hn4:n<=4:=(by rw[←hn];exact HFW.out.len);have HUP:=Zh (zyi w);have hnf:=fun (W:World) (A:Option Addr) (c:Nat) (h:RdRules W A R)=>zyt (c:=c) h HFW.out.nfas (by omega)
 unfold RetRules at HR;rw[hn] at HR hnf;unfold RetNfas at hnf;rw[hn] at hnf;have HNF:=Zh hnf;clear hn hnf;have hz43:∀ w:World,Sem.run Try.prog (zeroValue 38) w = .ok (.agg zeroD) w:=fun _=>by kernel_rfl
 have hz38:∀ w:World,Sem.run Try.prog (zeroValue 41) w = .ok (.agg zeroM) w:=fun _=>by kernel_rfl
 go_enter Try.func3,Try.ntmps3;go_upto_region 4 with (first
   | (go_at_call 5;(with_reducible refine HUP.out.mono ?_);rintro e w1 ⟨rfl,b1⟩;have B1:=Zh b1;clear b1)
   | (go_at_call 6;(with_reducible refine (HR.out _ B1.out).mono ?_);rintro e w2 ⟨A2,c2,A2',c2',rfl,_,_,_,hr2,b2⟩;have B2:=Zh (gro B1.out b2);have HR2:=Zh hr2;clear hr2 b2)
   | (go_at_call 7;(with_reducible refine (HNF.out _ _ _ HR2.out).mono ?_);rintro e w3 ⟨A3,c3,A4,c4,A5,c5,rfl,h3,h4,h5,b3⟩;have B3:=Zh (gro B2.out b3);have HL4:=Zh h4;have HC5:=Zh h5;clear h3 h4 h5 b3)
   | fail)
 have hbo:=HC5.out;rw[zmf] at hbo;have HBO:=Zh (zwh hbo);obtain⟨cs,hcs⟩:∃ cs,R.map (·.2)=cs:=⟨_,rfl⟩;have hcl:cs.length=n:=(by rw[←hcs,List.length_map,HN.out]);obtain⟨Ls,hLs⟩:∃ Ls,laysOf R=Ls:=⟨_,rfl⟩;have hll:Ls.length=n:=(by rw[←hLs,zi3,HN.out]);have hfl:=HFW.out.lay;have hfn:=HFW.out.nodup;have hff:=HFW.out.few;rw[hcs] at HBO;rw[hLs] at HL4 hfl hfn hff;generalize w3=w4 at *;have HB4:=B3;have hDB:=zup (ca:=c4) (cb:=c5) (L:=Ls) (bs:=cs) (most:=100) HL4.out (zuo HBO.out) hlam (by omega) hfl hfn (by omega) (by omega) hff;have hV:1<=lam∧lam<=32->Valid (RR Ls cs lam.toNat):=fun h=>zjy hfl (by omega) (by omega)
 unfold RetDB at hDB;simp only[hcl,hll] at hDB;clear hbo hcs hLs hfl hfn hff HC5 HL4 HBO HNF HR HUP HN HFW B3 B2 B1 HR2
 by_cases hbad:n≠n∨lam<1∨32<lam∨(100:Int)<1∨(1000:Int)<100
 . obtain⟨c,hce,hc1⟩:∃ c:Nat,1=c∧1<=c:=⟨1,rfl,by omega⟩;have hce1:(1:Int)=(c:Int):=(by omega);have HDB:Hid (Calls Try.prog 8 #[.slice A4 n c4,.slice A5 n c5,.int .i64 lam,.int .i64 100] w4 fun e w'=>e = .returned (.tuple #[.agg zeroD,.int .i64 (c:Int)])∧Below w4.heap.size w4 w'):=Zh (hDB.mono fun e w' h=>by rw[if_pos hbad] at h;rw[←hce1];exact⟨h.2,h.1⟩);clear hce hce1 hDB hbad hV;have hc0:((c:Int) != 0)=true:=(by simp;omega);have hc9:¬ (c:Int)=0:=(by omega);go_wp2_with (first
     | (go_at_call 8;(with_reducible refine HDB.out.mono ?_);rintro e w5 ⟨rfl,b5⟩;have B5:=Zh b5;have HB5:=Zh (gro HB4.out b5);clear b5)
     | (refine zam (by rfl) _ _ (by rfl) (by rfl) (by rfl) Try.sizeMR rfl rfl (BoxM.new w5 38 (fun _=>0) 0 (.slice none 0 0) (.slice none 0 0)) ?_;intro hbx;clear hbx;go_simp)
     | fail)
   have hb6:Below w5.heap.size w5 ((w5.alloc (.cells zeroD 38)).setRow w5.heap.size (machC (fun _=>0) 0 (.slice none 0 0) (.slice none 0 0))):=zah ((Below.refl _ _).alloc (Nat.le_refl _) _) (Nat.le_refl _) _;go_ret;exact⟨rfl,gro HB5.out hb6⟩
 . simp only[if_neg hbad] at hDB;have hlm:1<=lam∧lam<=32:=(by omega);have hval:=hV hlm;rw[show ((100:Int).toNat)=100 from rfl] at hDB;cases hT:srchOf Ls cs lam.toNat 100 with
   | none =>
     simp only[hT] at hDB;obtain⟨c,hce,hc1⟩:∃ c:Nat,11=c∧1<=c:=⟨11,rfl,by omega⟩;have hce1:(11:Int)=(c:Int):=(by omega);have HDB:Hid (Calls Try.prog 8 #[.slice A4 n c4,.slice A5 n c5,.int .i64 lam,.int .i64 100] w4 fun e w'=>e = .returned (.tuple #[.agg zeroD,.int .i64 (c:Int)])∧Below w4.heap.size w4 w'):=Zh (hDB.mono fun e w' h=>by rw[←hce1];exact⟨h.2,h.1⟩);clear hce hce1 hDB hbad hV hval hT hlm;have hc0:((c:Int) != 0)=true:=(by simp;omega);have hc9:¬ (c:Int)=0:=(by omega);go_wp2_with (first
       | (go_at_call 8;(with_reducible refine HDB.out.mono ?_);rintro e w5 ⟨rfl,b5⟩;have B5:=Zh b5;have HB5:=Zh (gro HB4.out b5);clear b5)
       | (refine zam (by rfl) _ _ (by rfl) (by rfl) (by rfl) Try.sizeMR rfl rfl (BoxM.new w5 38 (fun _=>0) 0 (.slice none 0 0) (.slice none 0 0)) ?_;intro hbx;clear hbx;go_simp)
       | fail)
     have hb6:Below w5.heap.size w5 ((w5.alloc (.cells zeroD 38)).setRow w5.heap.size (machC (fun _=>0) 0 (.slice none 0 0) (.slice none 0 0))):=zah ((Below.refl _ _).alloc (Nat.le_refl _) _) (Nat.le_refl _) _;go_ret;exact⟨rfl,gro HB5.out hb6⟩
   | some v =>
     obtain⟨ss,rows⟩:=v;obtain⟨hok,hr1,hr2⟩:=zxb (by omega) hT;have hoo:=zqg hval hT;simp only[hT] at hDB;unfold RetSrchD at hDB;simp only at hDB;have hK6:cntOf Ls cs<=256:=zd6 _ _;generalize clsOf Ls cs=F at *;generalize cntOf Ls cs=K at *;generalize (ss.map fun s=>mOutP (RR Ls cs lam.toNat) s (0,0))=outs at *;have HDB:=Zh hDB;obtain⟨rn,hrn⟩:∃ m,rows.length=m:=⟨_,rfl⟩;have HRN:=Zh hrn;have h0:0<rn:=(by rw[←hrn];exact hok.some);have hon':outs.length=rn:=(by rw[hok.out,hrn]);have HON:=Zh hon';have hrow:∀ (i:Nat) r,rows[i]?=some r->r.length=K∧∀ x∈r,x<rn:=fun i r e=>by rw[←hrn];exact hok.row i r e
     have hNC:rn*K<=1000000:=Nat.le_trans (Nat.mul_le_mul (show rn<=1000 by omega) hK6) (by decide);have HLE:=Zh (fun (W:World) (B B':Nat) (O O':Nat->Prop) (vN vO:Value) (hN:Nxt W B O vN rows) (hO:Ots W B' O' vO outs)=>zm1 (F:=F) hN hO hrn hon' h0 hoo hrow hNC (by omega) (by omega));have HDLT:=Zh (zw9 hrn hrow);have hr1k:rn<=1000:=(by omega);have HR1:=Zh hr1k;have HK6:=Zh hK6;have H0:=Zh h0;have HOK:=Zh hok;have HOO:=Zh hoo;have hKi:(K:Int)<=256:=(by omega);clear hDB hok hT hr1 hr2 hbad hcl hll hrn h0 hon' hrow hNC hoo hK6 hval hlm hV;go_upto_region 5 with (first
       | (go_at_call 8;(with_reducible refine HDB.out.mono ?_);rintro e w5 ⟨b5,vN,vO,O,rfl,hn5,ho5⟩;obtain⟨AN,cN,hfN⟩:=hn5.form;obtain⟨AO,cO,hfO⟩:=ho5.form;rw[HRN.out] at hfN;rw[HON.out] at hfO;subst hfN hfO;have B5:=Zh b5;have HB5:=Zh (gro HB4.out b5);have HN5:=Zh hn5;have HO5:=Zh ho5;clear b5 hn5 ho5)
       | (refine zam (by rfl) _ _ (by rfl) (by rfl) (by rfl) Try.sizeMR rfl rfl (BoxM.new w5 38 (fun _=>0) 0 (.slice none 0 0) (.slice none 0 0)) ?_;intro hbx;have HX5:=Zh hbx;clear hbx;go_simp)
       | fail)
     have hb6:Below w5.heap.size w5 ((w5.alloc (.cells zeroD 38)).setRow w5.heap.size (machC F K (.slice AN rn cN) (.slice AO rn cO))):=zah ((Below.refl _ _).alloc (Nat.le_refl _) _) (Nat.le_refl _) _;have hx6:=HX5.out;change BoxM ((w5.alloc (.cells zeroD 38)).setRow w5.heap.size (machC F K (.slice AN rn cN) (.slice AO rn cO))) _ _ _ _ _ _ at hx6;generalize (w5.alloc (.cells zeroD 38)).setRow w5.heap.size (machC F K (.slice AN rn cN) (.slice AO rn cO))=w6 at *;have HX6:=Zh hx6;have HB6:=Zh (gro HB5.out hb6);have HN6:=Zh (HN5.out.oth (Kept.of_below (fun _=>False) hb6) zau);have HO6:=Zh (HO5.out.kept (Kept.of_below (fun _=>False) hb6) fun b e e'=>e');obtain⟨g5,hg5⟩:∃ g,w5.heap.size=g:=⟨_,rfl⟩;rw[hg5] at HX6 ⊢;clear hx6 hb6 HX5 HDB hg5 HN5 HO5 HB5 B5
     by_cases hX1:100<X
     . have hX1':(100:Int)<(X:Int):=(by omega);go_wp2;go_ret;exact⟨rfl,HB6.out⟩
     have hX1':¬ (100:Int)<(X:Int):=(by omega);have HMA:=Zh (fun W:World=>zrz W F K AN rn cN AO rn cO);go_upto_region 8 with (first
       | (refine zbe (by rfl) _ (by rfl) (by rfl) Try.underlying38 rfl Try.sizeMR HX6.out ?_;go_simp)
       | (go_at_call 10;(with_reducible refine (HMA.out _).mono ?_);rintro e w7 ⟨rfl,b7⟩;have HN7:=Zh (HN6.out.oth (Kept.of_below (fun _=>False) b7) zau);have HO7:=Zh (HO6.out.kept (Kept.of_below (fun _=>False) b7) fun b e e'=>e');have HX7:=Zh (HX6.out.stays b7);have HB7:=Zh (gro HB6.out b7);clear b7)
       | (go_at_call 9;(with_reducible refine (HLE.out _ _ _ _ _ _ _ HN7.out HO7.out).mono ?_);rintro e w8 ⟨q,uN,uO,U,fs,rows',rfl,hq,hls,hn8,ho8,b8⟩;obtain⟨EN,dN,e1⟩:=hn8.form;obtain⟨EO,dO,e2⟩:=ho8.form;obtain⟨rm,hrm⟩:∃ m,fs.length=m:=⟨_,rfl⟩;rw[(zbx HDLT.out H0.out hls).2.1,hrm] at e1;rw[List.length_map,hrm] at e2;subst e1 e2;have HN8:=Zh (HN7.out.oth (Kept.of_below (fun _=>False) b8) zau);have HO8:=Zh (HO7.out.kept (Kept.of_below (fun _=>False) b8) fun b e e'=>e');have HX8:=Zh (HX7.out.stays b8);have HB8:=Zh (gro HB7.out b8);have KN8:=Zh hn8;have KO8:=Zh (show Ots w8 w7.heap.size U (.slice EO rm dO) (outsN outs fs) from ho8);have HLST:=Zh (show Lst q.grp rows outs rn K fs rows' from⟨HDLT.out,hq,hls,H0.out,HON.out⟩);have HRM:=Zh hrm;clear b8 hn8 ho8 hq hls hrm)
       | (refine zam (by rfl) _ _ (by rfl) (by rfl) (by rfl) Try.sizeMM rfl rfl (BoxM.new w8 41 (fun _=>0) 0 (.slice none 0 0) (.slice none 0 0)) ?_;intro hbx;have HY8:=Zh hbx;clear hbx;go_simp)
       | fail)
     have hb9:Below w8.heap.size w8 ((w8.alloc (.cells zeroM 41)).setRow w8.heap.size (machC F K (.slice EN rm dN) (.slice EO rm dO))):=zah ((Below.refl _ _).alloc (Nat.le_refl _) _) (Nat.le_refl _) _;have hy9:=HY8.out;change BoxM ((w8.alloc (.cells zeroM 41)).setRow w8.heap.size (machC F K (.slice EN rm dN) (.slice EO rm dO))) _ _ _ _ _ _ at hy9;generalize (w8.alloc (.cells zeroM 41)).setRow w8.heap.size (machC F K (.slice EN rm dN) (.slice EO rm dO))=w9 at *;have HY9:=Zh hy9;have HX9:=Zh (HX8.out.stays hb9);have HB9:=Zh (gro HB8.out hb9);have HN9:=Zh (HN8.out.oth (Kept.of_below (fun _=>False) hb9) zau);have HO9:=Zh (HO8.out.kept (Kept.of_below (fun _=>False) hb9) fun b e e'=>e');have KN9:=Zh (KN8.out.oth (Kept.of_below (fun _=>False) hb9) zau);have KO9:=Zh (KO8.out.kept (Kept.of_below (fun _=>False) hb9) fun b e e'=>e');obtain⟨g8,hg8⟩:∃ g,w8.heap.size=g:=⟨_,rfl⟩;obtain⟨g7,hg7⟩:∃ g,w7.heap.size=g:=⟨_,rfl⟩;rw[hg8] at HY9 ⊢;rw[hg7] at KN9 KO9;clear hy9 hb9 HY8 HX8 HX7 HX6 HN8 HO8 KN8 KO8 HN7 HO7 HN6 HO6 hg8 hg7 HB8 HB7 HB6 HMA HLE;have hfm:rm<=rn∧0<rm:=(by have h1:=HLST.out.few;have h2:=HLST.out.pos;have h3:=HRM.out;omega);have hd1:¬ (rn:Int)<(rm:Int):=(by omega);have hd2:¬ (rm:Int)=0:=(by omega);have hd3:((rm:Int)==0)=false:=(by simp;omega);have hrmi:(rm:Int)<=1000:=(by omega);have C1:=Zh HX9.out.num;have C4:=Zh HY9.out.num;have C5:=Zh HY9.out.nxt;have C6:=Zh HY9.out.out;have c1:=C1.out;have c2:=HX9.out.nxt;have c4:=C4.out;have c5:=C5.out;have c6:=C6.out;go_upto_region 10 with fail
     clear c1 c2 c4 c5 c6 hd1 hd2 hd3;obtain⟨vs,n1,n2,n3,n4⟩:=KN9.out.mem;have HV1:=Zh n1;have HV2:=Zh n2;have HV3:=Zh n3;clear n1 n2 n3 n4;go_wp2;go_loopg [18] rm (fun mm i wr=>∃ k:Nat,i = .int .i64 (k:Int)∧k<=rm∧mm=rm-k∧Below w9.heap.size w9 wr)
     case atStart=>exact⟨0,by first | rfl | trivial,Nat.zero_le _,by first | rfl | trivial,Below.refl _ _⟩
     case round =>
       obtain⟨k,rfl,hk,hmk,hbw⟩:=hrel;generalize wr=wo at *;have HMK:=Zh hmk;have HBW:=Zh hbw;have c1:=za5 C1.out hbw;have c5:=za5 C5.out hbw
       by_cases hkS:k<rm
       . have hkl:k<rows'.length:=(by rw[HLST.out.len,HRM.out];exact hkS);obtain⟨r,hr⟩:∃ r,rows'[k]?=some r:=⟨_,List.getElem?_eq_getElem hkl⟩;obtain⟨u,hu⟩:∃ u,vs[k]?=some u:=⟨_,List.getElem?_eq_getElem (by rw[HV1.out];exact hkl)⟩;have r1:=za7 (HV3.out k u r hu hr) hbw;have hrl:r.length=K:=(HLST.out.rowsIn k r hr).1;have hrx:=(HLST.out.rowsIn k r hr).2;rw[HRM.out] at hrx;rw[zag,hrl] at r1;have hv2:=za7 HV2.out hbw;rw[HLST.out.len,HRM.out] at hv2;obtain⟨Au,cu,hfu⟩:=zaf r1;subst hfu;obtain⟨g1,rfl⟩:∃ g,EN=some ⟨g,0,none⟩:=by
           rcases hv2.2 with ⟨_,h0⟩|⟨g,cap,cur,e,_⟩
           . omega
           . injection e with e1;exact⟨g,e1⟩
         have d1:wo.cell? ⟨g1,k,none⟩=some (.slice Au K cu):=(World.ownsRow.cellAt hv2 k (by omega)).trans hu;have i0:(0:Int)<=(k:Int):=(by omega);have i1:(k:Int)<(rm:Int):=(by omega);have R1:=Zh r1;have RL:=Zh hrl;have RX:=Zh hrx;clear hr hu r1 hv2 hrl hrx hkl;go_wp2;go_quiet (fail);have HWI:=Zh (show Below wo.heap.size wo (wo.drewN nq) from zat (Below.refl _ _) nq);generalize wo.drewN nq=wi at *;go_wp2;have D1:=Zh d1;have E1:=Zh c1;have E5:=Zh c5;clear d1 c1 c5 hmk hbw;go_loopg [19] K (fun mm i wj=>∃ c:Nat,i = .int .i64 (c:Int)∧c<=K∧mm=K-c∧Below wo.heap.size wo wj)
         case atStart=>exact⟨0,by first | rfl | trivial,Nat.zero_le _,by first | rfl | trivial,HWI.out⟩
         case round =>
           obtain⟨c,rfl,hc,hmc,hbc⟩:=hrel;have HMC:=Zh hmc;have HBC:=Zh hbc;have d1:=za5 D1.out hbc;have c1:=za5 E1.out hbc;have c5:=za5 E5.out hbc
           by_cases hcr:c<K
           . have r1:=za7 R1.out hbc;obtain⟨g6,rfl⟩:∃ g,Au=some ⟨g,0,none⟩:=by
               rcases r1.2 with ⟨_,h0⟩|⟨g,cap,cur,e,_⟩
               . omega
               . injection e with e1;exact⟨g,e1⟩
             obtain⟨y,hy⟩:∃ y,r[c]?=some y:=⟨_,List.getElem?_eq_getElem (by rw[RL.out];exact hcr)⟩;have hyl:=RX.out y (List.mem_of_getElem? hy);have d3:wr.cell? ⟨g6,c,none⟩=some (.int .i64 (y:Int)):=by
               rw[World.ownsRow.cellAt r1 c (by omega)];simp[ns,hy]
             have i2:(0:Int)<=(c:Int):=(by omega);have i3:(c:Int)<(K:Int):=(by omega);have y1:¬ (y:Int)<0:=(by omega);have y2:¬ (rm:Int)<=(y:Int):=(by omega);have y3:decide ((y:Int)<0)=false:=(by simp);have y4:decide ((rm:Int)<=(y:Int))=false:=(by simp;omega);clear r1 hy hmc hbc;go_wp2;go_quiet (fail);go_wp2;go_roundg (K-(c+1))
             case measure=>have:=HMC.out;omega
             case rel=>exact⟨c+1,by go_num,by omega,rfl,zat HBC.out nq⟩
           . have hcl:c=K:=(by omega);subst hcl;go_wp2;go_roundg (rm-(k+1))
             case measure=>have:=HMK.out;omega
             case rel=>exact⟨k+1,by go_num,by omega,rfl,HBW.out.trans (HBC.out.mono HBW.out.size)⟩
       . have hkl:rm=k:=(by omega);clear c1 c5 hk hkS hmk;subst hkl;have HX10:=Zh (HX9.out.stays hbw);have HY10:=Zh (HY9.out.stays hbw);have HB10:=Zh (gro HB9.out hbw);have HN10:=Zh (HN9.out.oth (Kept.of_below (fun _=>False) hbw) zau);have HO10:=Zh (HO9.out.kept (Kept.of_below (fun _=>False) hbw) fun b e e'=>e');have KN10:=Zh (KN9.out.oth (Kept.of_below (fun _=>False) hbw) zau);have KO10:=Zh (KO9.out.kept (Kept.of_below (fun _=>False) hbw) fun b e e'=>e');have hml:rows'.length=rm:=(by rw[HLST.out.len,HRM.out]);have hmo:(outsN outs fs).length=rm:=(by rw[HLST.out.outLen,HRM.out]);have hri:=HLST.out.rowsIn;rw[HRM.out] at hri;have hap:=fun i j=>HLST.out.apart (i:=i) (j:=j)
         rw[HRM.out] at hap;have hda:=zwa (F:=fun _=>0) (C:=K) KN10.out KO10.out hml hmo hfm.2 hri (by omega) (by omega);have HDA:=Zh hda;have HRI:=Zh hri;have HAP:=Zh hap;have HML:=Zh hml;have HMO:=Zh hmo;have HFM:=Zh hfm;have c1:=HX10.out.num;have c5:=HY10.out.nxt;have c6:=HY10.out.out;clear hbw hml hmo hri hap hda hfm HX9 HY9 HB9 HN9 HO9 KN9 KO9 C1 C4 C5 C6 HV1 HV2 HV3 HMK HBW;go_upto_region 21 with (first
           | (refine zhg (by rfl) _ _ _ (by rfl) (by rfl) (by rfl) (by rfl) ?_;go_simp)
           | (go_at_call 11;(with_reducible refine HDA.out.mono ?_);rintro e w11 ⟨gv,cv,G,M,rfl,mx,hM,b11⟩;have HMX:=Zh mx;have HM:=Zh hM;have B11:=Zh b11;clear mx hM b11)
           | fail)
         have HX11:=Zh (HX10.out.stays B11.out);have HY11:=Zh (HY10.out.stays B11.out);have HB11:=Zh (gro HB10.out B11.out);have HN11:=Zh (HN10.out.oth (Kept.of_below (fun _=>False) B11.out) zau);have HO11:=Zh (HO10.out.kept (Kept.of_below (fun _=>False) B11.out) fun b e e'=>e');have KN11:=Zh (KN10.out.oth (Kept.of_below (fun _=>False) B11.out) zau);have KO11:=Zh (KO10.out.kept (Kept.of_below (fun _=>False) B11.out) fun b e e'=>e');clear c1 c5 c6 HDA HX10 HY10 HB10 HN10 HO10 KN10 KO10 B11;go_wp2;go_loopg [21] rm (fun mm i wr=>∃ k:Nat,i = .int .i64 (k:Int)∧k<=rm∧mm=rm-k∧w11=wr)
         case atStart=>exact⟨0,by first | rfl | trivial,Nat.zero_le _,by first | rfl | trivial,rfl⟩
         case round =>
           obtain⟨k,rfl,hk,hmk,rfl⟩:=hrel;have HMK:=Zh hmk
           by_cases hkS:k<rm
           . have hk1:(k:Int)<(rm:Int):=(by omega);have hk0:(0:Int)<=(k:Int):=(by omega);have d1:=HMX.out.cell k hkS;have D1:=Zh d1;clear hmk d1;go_wp2;go_loopg [22] k (fun mm i wj=>∃ c:Nat,i = .int .i64 (c:Int)∧c<=k∧mm=k-c∧w11=wj)
             case atStart=>exact⟨0,by first | rfl | trivial,Nat.zero_le _,by first | rfl | trivial,rfl⟩
             case round =>
               obtain⟨c,rfl,hc,hmc,rfl⟩:=hrel;have HMC:=Zh hmc;clear hmc
               by_cases hck:c<k
               . have hc1:(c:Int)<(k:Int):=(by omega);have hc0:(0:Int)<=(c:Int):=(by omega);have hc2:(c:Int)<(rm:Int):=(by omega);have hf:M k c=false:=by
                   cases e:M k c with
                   | false=>rfl
                   | true =>
                     have:=(HAP.out k c (by omega) (by omega)).1 ((HM.out k c (by omega) (by omega)).1 e);omega
                 have d2:=(HMX.out.rows k hkS).cell c (by omega);rw[hf] at d2;have d1:=D1.out;clear hf;go_wp2;go_roundg (k-(c+1))
                 case measure=>have:=HMC.out;omega
                 case rel=>exact⟨c+1,by go_num,by omega,rfl,rfl⟩
               . have hcl:k=c:=(by omega);clear hck hc;subst hcl;go_wp2;go_roundg (rm-(k+1))
                 case measure=>have:=HMK.out;omega
                 case rel=>exact⟨k+1,by go_num,by omega,rfl,rfl⟩
           . have hkl:rm=k:=(by omega);clear hk hkS hmk;subst hkl;clear HMX HM HAP HMK;go_upto_region 31 with (first
               | (refine zb7 (by rfl) _ (by rfl) (by rfl) HY11.out ?_;go_simp)
               | (refine zb7 (by rfl) _ (by rfl) (by rfl) HX11.out ?_;go_simp)
               | (refine zea (by rfl) (by rfl) ?_;go_simp)
               | fail)
             have hmx:Try.prog.follows .mixedOrders=true:=(by kernel_rfl);have hrK:rm*K<=1000000:=Nat.le_trans (Nat.mul_le_mul (show rm<=1000 by have:=HFM.out.1;omega) HK6.out) (by decide);have HLE:=Zh (fun (W:World) (B B':Nat) (O O':Nat->Prop) (vN vO:Value) (hN:Nxt W B O vN rows') (hO:Ots W B' O' vO (outsN outs fs))=>zm1 (F:=F) (C:=K) hN hO HML.out HMO.out HFM.out.2 (HLST.out.okOs HOO.out) HRI.out hrK (by omega) (by omega));have HLK:=Zh (fun W:World=>zx2 W F K EN rm dN EO rm dO);have HCT:=Zh (show (outsN outs fs).length=rows'.length∧rows'.length<=100000∧(∀ r∈rows',r.length<=100000) from⟨by have h1:=HML.out;have h2:=HMO.out;omega,by have h1:=HML.out;omega,fun r hr=>by have:=HLST.out.wide r hr;omega⟩);clear hrK;have hR0:=zh9 w11;refine zbn (R:=fun W=>Below w11.heap.size w11 W) (S:=fun _=>True) (T:=[]) hmx ?_;refine za8 (i:=0) (v := .agg (machC F K (.slice EN rm dN) (.slice EO rm dO))) rfl (by kernel_rfl) (by kernel_rfl) (by kernel_rfl) (fun _ _ _ h=>h) (by simp) (zc8 (by rfl) _ (by rfl) (by rfl) (fun W hW=>HY11.out.stays hW) Try.underlying41 rfl Try.sizeMM) hR0 (fun _=>trivial) ?_;refine za8 (i:=3) (v := .agg (machC F K (.slice EN rm dN) (.slice EO rm dO))) rfl (by kernel_rfl) (by kernel_rfl) (by kernel_rfl) (fun _ _ _ h=>h) (by simp) (zc8 (by rfl) _ (by rfl) (by rfl) (fun W hW=>HY11.out.stays hW) Try.underlying41 rfl Try.sizeMM) hR0 (fun _=>trivial) ?_;have hn12:=KN11.out.oth (Kept.of_below (fun _=>False) hR0) zau;have ho12:=KO11.out.kept (Kept.of_below (fun _=>False) hR0) fun b e e'=>e'
             have HL12:=Zh (HLE.out _ _ _ _ _ _ _ hn12 ho12);clear hn12 ho12;refine za1 (rs:=[1]) (by kernel_rfl) (by simp) ?_;refine za2 (za0 rfl fun K' hK=>?_);go_simp;go_at_call 9
             with_reducible refine HL12.out.mono ?_
             rintro e w13 ⟨q2,uN2,uO2,U2,fs2,rows2,rfl,hq2,hls2,hn13,ho13,b13⟩;have hag:=HLST.out.again (κ':=q2.grp) (fs2:=fs2) (rows2:=rows2);rw[HRM.out] at hag;obtain⟨e1,e2⟩:=hag hq2 hls2;have ho13':Ots w13 w11.drew.heap.size U2 uO2 (outsN outs fs):=(by rw[←e2];exact ho13);rw[e1] at hn13;clear hag e1 e2 ho13 hq2 hls2;obtain⟨PN,pN,e1⟩:=hn13.form;obtain⟨PO,pO,e2⟩:=ho13'.form;rw[HML.out] at e1;rw[HMO.out] at e2;subst e1 e2;have h13:=gro hR0 b13;refine hK.out _ _ h13 (fun _=>trivial) ?_;clear hK K' b13 HL12 hR0;have HN13:=Zh hn13;have HO13:=Zh ho13';have HLP:=Zh (fun W:World=>zx2 W F K PN rm pN PO rm pO);clear hn13 ho13';refine za1 (rs:=[2]) (by kernel_rfl) (by simp) ?_;refine za2 (za0 rfl fun K' hK=>?_);go_simp;go_at_call 13
             with_reducible refine (HLP.out _).mono ?_
             rintro e w14 ⟨rfl,b14⟩;have HN14:=Zh (HN13.out.oth (Kept.of_below (fun _=>False) b14) zau);have HO14:=Zh (HO13.out.kept (Kept.of_below (fun _=>False) b14) fun b e e'=>e');have h14:=gro h13 b14;refine hK.out _ _ h14 (fun _=>trivial) ?_;clear hK K' b14 h13 HN13 HO13;refine za1 (rs:=[4]) (by kernel_rfl) (by simp) ?_;refine za2 (za0 rfl fun K' hK=>?_);go_simp;go_at_call 13
             with_reducible refine (HLK.out _).mono ?_
             rintro e w15 ⟨rfl,b15⟩;have h15:=gro h14 b15;have hn15:=HN14.out.oth (Kept.of_below (fun _=>False) b15) zau;have ho15:=HO14.out.kept (Kept.of_below (fun _=>False) b15) fun b e e'=>e'
             have kn15:=KN11.out.oth (Kept.of_below (fun _=>False) h15) zau;have ko15:=KO11.out.kept (Kept.of_below (fun _=>False) h15) fun b e e'=>e'
             have HSM:=Zh (zxh (n:=K) (F:=F) hn15 ho15 kn15 ko15 HCT.out.1 HCT.out.2.1 HCT.out.2.2);refine hK.out _ _ h15 (fun _=>trivial) ?_;clear hK K' b15 h14 HN14 HO14 hn15 ho15 kn15 ko15;refine za1 (rs:=[5]) (by kernel_rfl) (by simp) ?_;refine za2 (za0 rfl fun K' hK=>?_);go_simp;go_at_call 12
             with_reducible refine HSM.out.mono ?_
             rintro e w16 ⟨rfl,b16⟩;have h16:=gro h15 b16;refine hK.out _ _ h16 (fun _=>trivial) ?_;clear hK K' b16 h15 HSM;refine za1 (rs:=[6]) (by kernel_rfl) (by simp) ?_;refine za2 (za0 rfl fun K' hK=>?_);go_simp;refine hK.out _ _ h16 (fun _=>trivial) ?_;clear hK K';refine zao (by kernel_rfl) ?_ _;have HB16:=Zh (gro HB11.out h16);have HX16:=Zh (HX11.out.stays h16);have HY16:=Zh (HY11.out.stays h16);have HN16:=Zh (HN11.out.oth (Kept.of_below (fun _=>False) h16) zau);have HO16:=Zh (HO11.out.kept (Kept.of_below (fun _=>False) h16) fun b e e'=>e');have KN16:=Zh (KN11.out.oth (Kept.of_below (fun _=>False) h16) zau);have KO16:=Zh (KO11.out.kept (Kept.of_below (fun _=>False) h16) fun b e e'=>e');clear h16 HN11 HO11 KN11 KO11 HX11 HY11 HLK HLP HLE HB11;go_upto_region 32 with fail
             have hru:=HLST.out.run HOK.out.cls HBY.out;have hok':=HLST.out.okM HOK.out.cls (by omega);obtain⟨oo,hoo⟩:∃ o,outs.getD (runN F rows xs 0) (0,0)=o:=⟨_,rfl⟩;rw[hoo] at hru;obtain⟨mA,hmA⟩:∃ m,machC F K (.slice EN rm dN) (.slice EO rm dO)=m:=⟨_,rfl⟩;obtain⟨mB,hmB⟩:∃ m,machC F K (.slice AN rn cN) (.slice AO rn cO)=m:=⟨_,rfl⟩;have HRU:=Zh (fun (W:World) (hW:Below w16.heap.size w16 W)=>by
               have hb:=gro HB16.out hW;have h:=zyw (c:=cc) hok' (KN16.out.oth (Kept.of_below (fun _=>False) hW) zau) (KO16.out.kept (Kept.of_below (fun _=>False) hW) fun b e e'=>e') ((HXB.out.below hb).more hb.size) HBY.out (by rw[HX.out];exact hxl);rw[hru,HX.out,hmA] at h;exact h)
             have HRV:=Zh (fun (W:World) (hW:Below w16.heap.size w16 W)=>by
               have hb:=gro HB16.out hW;have h:=zym (c:=cc) HOK.out (HN16.out.oth (Kept.of_below (fun _=>False) hW) zau) (HO16.out.kept (Kept.of_below (fun _=>False) hW) fun b e e'=>e') ((HXB.out.below hb).more hb.size) HBY.out (by rw[HX.out];exact hxl);rw[hoo,HX.out,hmB] at h;exact h)
             have HMA:=Zh hmA;have HMB2:=Zh hmB;clear hmA hmB hru hok' hoo;have hR0:=zh9 w16;refine zbn (R:=fun W=>Below w16.heap.size w16 W) (S:=fun _=>True) (T:=[]) hmx ?_;refine za8 (i:=0) (v := .bool true) rfl (by kernel_rfl) (by kernel_rfl) (by kernel_rfl) (fun _ _ _ h=>h) (by simp) (Or.inl ⟨by kernel_rfl,fun w' hS=>by go_simp⟩) hR0 (fun _=>trivial) ?_;refine za8 (i:=1) (v := .bool true) rfl (by kernel_rfl) (by kernel_rfl) (by kernel_rfl) (fun _ _ _ h=>h) (by simp) (Or.inl ⟨by kernel_rfl,fun w' hS=>by go_simp⟩) hR0 (fun _=>trivial) ?_;refine za8 (i:=2) (v := .bool true) rfl (by kernel_rfl) (by kernel_rfl) (by kernel_rfl) (fun _ _ _ h=>h) (by simp) (Or.inl ⟨by kernel_rfl,fun w' hS=>by go_simp⟩) hR0 (fun _=>trivial) ?_;refine za8 (i:=3) (v := .bool true) rfl (by kernel_rfl) (by kernel_rfl) (by kernel_rfl) (fun _ _ _ h=>h) (by simp) (Or.inl ⟨by kernel_rfl,fun w' hS=>by go_simp⟩) hR0 (fun _=>trivial) ?_;refine za8 (i:=4) (v := .bool true) rfl (by kernel_rfl) (by kernel_rfl) (by kernel_rfl) (fun _ _ _ h=>h) (by simp) (Or.inl ⟨by kernel_rfl,fun w' hS=>by go_simp⟩) hR0 (fun _=>trivial) ?_;refine za8 (i:=5) (v := .agg mA) rfl (by kernel_rfl) (by kernel_rfl) (by kernel_rfl) (fun _ _ _ h=>h) (by simp) (zd9 HMA.out (by kernel_rfl) (.tmp 17) (by rfl) (by go_simp) (fun W hW=>HY16.out.stays hW) Try.underlying41 rfl Try.sizeMM) hR0 (fun _=>trivial) ?_;refine za8 (i:=6) (v := .slice C X cc) rfl (by kernel_rfl) (by kernel_rfl) (by kernel_rfl) (fun _ _ _ h=>h) (by simp) (Or.inl ⟨by kernel_rfl,fun w' hS=>by go_simp⟩) hR0 (fun _=>trivial) ?_;refine za8 (i:=8) (v := .agg mB) rfl (by kernel_rfl) (by kernel_rfl) (by kernel_rfl) (fun _ _ _ h=>h) (by simp) (zd9 HMB2.out (by kernel_rfl) (.tmp 15) (by rfl) (by go_simp) (fun W hW=>HX16.out.stays hW) Try.underlying38 rfl Try.sizeMR) hR0 (fun _=>trivial) ?_;refine za8 (i:=9) (v := .slice C X cc) rfl (by kernel_rfl) (by kernel_rfl) (by kernel_rfl) (fun _ _ _ h=>h) (by simp) (Or.inl ⟨by kernel_rfl,fun w' hS=>by go_simp⟩) hR0 (fun _=>trivial) ?_;go_simp;refine za1 (rs:=[7]) (by kernel_rfl) (by simp) ?_;refine za2 (za0 rfl fun K' hK=>?_);go_simp;go_at_call 14
             with_reducible refine (HRU.out _ hR0).mono ?_
             rintro e w17 ⟨rfl,b17⟩;have h17:=gro hR0 b17;refine hK.out _ _ h17 (fun _=>trivial) ?_;clear hK K' b17;go_simp;refine za1 (rs:=[10]) (by kernel_rfl) (by simp) ?_;refine za2 (za0 rfl fun K' hK=>?_);go_simp;go_at_call 15
             with_reducible refine (HRV.out _ h17).mono ?_
             rintro e w18 ⟨rfl,b18⟩;have h18:=gro h17 b18;refine hK.out _ _ h18 (fun _=>trivial) ?_;clear hK K' b18 h17;go_simp;refine za8 (i:=11) (v := .bool true) rfl (by kernel_rfl) (by kernel_rfl) (by kernel_rfl) (fun _ _ _ h=>h) (by simp) (zio (a0:=(oo.1:Int)) (a1:=(oo.2:Int)) (by kernel_rfl) (.tmp 166) (.tmp 169) 51 (by rfl) (by go_simp) (by go_simp)) h18 (fun _=>trivial) ?_;refine za8 (i:=12) (v := .bool true) rfl (by kernel_rfl) (by kernel_rfl) (by kernel_rfl) (fun _ _ _ h=>h) (by simp) (Or.inl ⟨by kernel_rfl,fun w' hS=>by go_simp⟩) h18 (fun _=>trivial) ?_;go_simp;refine za1 (rs:=[13]) (by kernel_rfl) (by simp) ?_;refine za2 (za0 rfl fun K' hK=>?_);go_simp;refine hK.out _ _ h18 (fun _=>trivial) ?_;clear hK K';refine zao (by kernel_rfl) ?_ _;have HB18:=Zh (gro HB16.out h18);clear h18 hR0;go_wp2;go_ret;exact⟨rfl,HB18.out⟩
end Go.Proofs.Ytgbdanddbgomhaa
