import Derived.Test.YtgbdanddbgomhaaDoorMw51
set_option linter.unusedVariables false
set_option linter.unusedSimpArgs false
namespace Go.Proofs.YtgbdanddbgomhaaDoor
open Go Go.RowKit
theorem zl1 (R:List (T×Bool)):checksOf R=(R.map (·.2)).map Value.bool:=by simp[checksOf]
theorem zg9 {ops:Array Oper} {S:World->Prop} {op:Oper} {a:Act} {g:Nat} {t:TypeId} {F:Nat->Nat} {n:Int} {vN vO:Value} (hw:Region.wanted op (yielded ops a.tmps)=true) (x:Operand) (ho:op.op = .load t x) (hx:a.eval x = .pointer (some ⟨g,0,none⟩)) (hS:∀ w,S w->BoxM w g t F n vN vO)
   {d:TypeDesc} (hu:Tryd.prog.underlying t=some d) (hd:d.isRow=true) (hs:(Tryd.prog.info? t).map (·.size)=some 259):YieldsIf Tryd.prog ops S op (.agg (machC F n vN vO)) a:=by
 have:=yieldsIf_load_mid hw t x ho g 0 hx (machC F n vN vO).toList d (fun w h=>(hS w h).whole) hu hd (by rw[hs];simp[zau])
 simpa using this
theorem zl3 (w:World):Below w.heap.size w w.drew:=⟨rfl,rfl,rfl,Nat.le_refl _,fun _ _=>rfl⟩
theorem zss {R:List (T×Bool)} (hf:Few R) {lam:Int} (hlam:1<=lam) {most:Nat} (hm:1<=most) {ss:List Sta} {rows:List (List Nat)} (h:srchOf (laysOf R) (R.map (·.2)) lam.toNat most=some (ss,rows)) {xs:List Int} (hx:∀ k,k<xs.length->0<=xs.getD k 0∧xs.getD k 0<=255):
   (∀ k,(((ss.map fun s=>mOutP (RR (laysOf R) (R.map (·.2)) lam.toNat) s (0,0)).getD (runN (clsOf (laysOf R) (R.map (·.2))) rows xs 0) (0,0)).1.testBit k=wantB R lam false xs k))∧
   (∀ k,(((ss.map fun s=>mOutP (RR (laysOf R) (R.map (·.2)) lam.toNat) s (0,0)).getD (runN (clsOf (laysOf R) (R.map (·.2))) rows xs 0) (0,0)).2.testBit k=wantB R lam true xs k)):=by
 have key:=fun k=>zp8 hf (lam:=lam.toNat) (by omega) hm h hx k
 refine⟨fun k=>?_,fun k=>?_⟩
 . rw[Bool.eq_iff_iff,(key k).1,wantB_iff];constructor
   . rintro⟨a,b,d,e⟩;exact⟨a,by omega,d,e⟩
   . rintro⟨a,b,d,e⟩;exact⟨a,by omega,d,e⟩
 . rw[Bool.eq_iff_iff,(key k).2,wantB_iff];constructor
   . rintro⟨a,b,d,e⟩;exact⟨a,by omega,d,e⟩
   . rintro⟨a,b,d,e⟩;exact⟨a,by omega,d,e⟩
set_option maxRecDepth 20000 in
set_option maxHeartbeats 4000000 in
theorem zj8 {w:World} {A B C:Option Addr} {ca cb cc:Nat} {L:List ByteArray} {bs:List Bool} {lam:Int} {xs:List Int} (hs:RdStr w A L) (hb:RdBo w B bs) (hL:L.length<=9223372036854775807) (hbs:bs.length<=9223372036854775807) (hsz:∀ s∈L,s.size<=9223372036854775807)
   (hlam : -9223372036854775808<=lam∧lam<=9223372036854775807) (hx:RdB w w.heap.size C xs) (hby:∀ k,k<xs.length->0<=xs.getD k 0∧xs.getD k 0<=255) (hxl:xs.length<=cc∧cc<=9223372036854775807) (htab:Tab w):
   Calls Tryd.prog 5 #[.slice A L.length ca,.slice B bs.length cb,.int .i64 lam,.slice C xs.length cc] w fun e w'=>e = .returned (.bool true)∧Below w.heap.size w w':=by
 have HR:=Zh (fun W (h:Below w.heap.size w W)=>zv0 (ca:=ca) (cb:=cb) (hs.stays h) (hb.stays h) hL hbs hsz);obtain⟨X,hX⟩:∃ X,xs.length=X:=⟨_,rfl⟩;have HX:=Zh hX;have HXB:=Zh hx;have HBY:=Zh hby;have HTB:=Zh htab;obtain⟨R,hR⟩:∃ R,rulesN L bs (min L.length 4)=R:=⟨_,rfl⟩;have hfew:=zri L bs (min L.length 4) (by omega);rw[hR] at HR hfew;obtain⟨N1,hN1⟩:∃ n,L.length=n:=⟨_,rfl⟩;obtain⟨N2,hN2⟩:∃ n,bs.length=n:=⟨_,rfl⟩;rw[hX] at hxl ⊢;rw[hN1,hN2] at HR ⊢;have HFW:=Zh hfew;clear hs hb hsz hX hx hby hR hfew hN1 hN2 hL hbs htab;have HUP:=Zh (zwb w)
 by_cases hm1:60<X
 . have hm4:(60:Int)<(X:Int):=(by omega);clear HR HXB HBY HFW HX hm1 hxl;go_enter Tryd.func5,Tryd.ntmps5;go_wp2_with (first
     | (go_at_call 19;(with_reducible refine HUP.out.mono ?_);rintro e w1 ⟨rfl,b1⟩;have B1:=Zh b1;clear b1)
     | fail)
   go_ret;exact⟨rfl,B1.out⟩
 have hX60:¬ (60:Int)<(X:Int):=(by omega);have HX6L:Hid (X<=60):=Zh (by omega);obtain⟨n,hn⟩:∃ n,R.length=n:=⟨_,rfl⟩;have HN:=Zh hn;have hn4:n<=4:=(by rw[←hn];exact HFW.out.len);have hnf:=fun (W:World) (A:Option Addr) (c:Nat) (h:RdRules W A R)=>zwj (c:=c) h HFW.out.nfas (by omega)
 unfold RetRules at HR;rw[hn] at HR hnf;unfold RetNfas at hnf;rw[hn] at hnf;have HNF:=Zh hnf;clear hn hnf hm1;have hz38:∀ w:World,Sem.run Tryd.prog (zeroValue 60) w = .ok (.agg zeroM) w:=fun _=>by kernel_rfl
 go_enter Tryd.func5,Tryd.ntmps5;go_upto_region 6 with (first
   | (go_at_call 19;(with_reducible refine HUP.out.mono ?_);rintro e w1 ⟨rfl,b1⟩;have B1:=Zh b1;clear b1)
   | (go_at_call 20;(with_reducible refine (HR.out _ B1.out).mono ?_);rintro e w2 ⟨A2,c2,A2',c2',rfl,_,_,_,hr2,b2⟩;have B2:=Zh (gro B1.out b2);have HR2:=Zh hr2;clear hr2 b2)
   | (go_at_call 21;(with_reducible refine (HNF.out _ _ _ HR2.out).mono ?_);rintro e w4 ⟨A3,c3,A4,c4,A5,c5,rfl,h3,h4,h5,b3⟩;have HB4:=Zh (gro B2.out b3);have HL3:=Zh h3;have HC5:=Zh h5;have HR4:=Zh (HR2.out.stays b3);clear h3 h4 h5 b3)
   | fail)
 have hbo:=HC5.out;rw[zl1] at hbo;have HBO:=Zh (zu9 hbo);have hcl:(R.map (·.2)).length=n:=(by rw[List.length_map,HN.out]);have hll:(laysOf R).length=n:=(by rw[zbk,HN.out]);have hMB:=zi1 (ca:=c3) (cb:=c5) (L:=laysOf R) (bs:=R.map (·.2)) (most:=300) HL3.out HBO.out hlam (by omega) HFW.out.lay (by omega) (by omega);unfold RetMB at hMB;rw[hcl,hll] at hMB;clear hbo HC5 HL3 HBO
 by_cases hbad:lam<1∨32<lam
 . have HMB:Hid (Calls Tryd.prog 22 #[.slice A3 n c3,.slice A5 n c5,.int .i64 lam,.int .i64 300] w4 fun e w'=>e = .returned (.tuple #[.agg zeroM,errV 1])∧Below w4.heap.size w4 w'):=Zh (hMB.mono fun e w' h=>by rw[if_pos (by omega)] at h;exact⟨h.2,h.1⟩);have HCD:Hid (∀ W:World,Calls Tryd.prog 23 #[.iface 92 (.int .i64 1)] W fun e w'=>e = .returned (.int .i64 1)∧W=w'):=Zh fun W=>zky W 1 (by omega) (by omega)
   clear hMB;unfold errV at HMB;go_upto_region 7 with (first
     | (go_at_call 22;(with_reducible refine HMB.out.mono ?_);rintro e w5 ⟨rfl,b5⟩;have B5:=Zh b5;have HB5:=Zh (gro HB4.out b5);clear b5)
     | (refine zal (by rfl) _ _ (by rfl) (by rfl) (by rfl) Tryd.sizeMM rfl rfl (BoxM.new w5 60 (fun _=>0) 0 (.slice none 0 0) (.slice none 0 0)) ?_;intro hbx;clear hbx;go_simp)
     | fail)
   have hb6:Below w5.heap.size w5 ((w5.alloc (.cells zeroM 60)).setRow w5.heap.size (machC (fun _=>0) 0 (.slice none 0 0) (.slice none 0 0))):=below_setRow ((Below.refl _ _).alloc (Nat.le_refl _) _) (Nat.le_refl _) _;generalize (w5.alloc (.cells zeroM 60)).setRow w5.heap.size (machC (fun _=>0) 0 (.slice none 0 0) (.slice none 0 0))=w6 at *;have HB6:=Zh (gro HB5.out hb6);clear hb6 HMB
   by_cases hl1:lam<1
   . clear hbad;go_wp2_with (first | (go_at_call 23;(with_reducible refine (HCD.out _).mono ?_);rintro e w9 ⟨rfl,rfl⟩) | fail);go_ret;exact⟨rfl,HB6.out⟩
   . have hl2:32<lam:=(by omega);clear hbad;go_wp2_with (first | (go_at_call 23;(with_reducible refine (HCD.out _).mono ?_);rintro e w9 ⟨rfl,rfl⟩) | fail);go_ret;exact⟨rfl,HB6.out⟩
 . have hbad2:¬ (n≠n∨lam<1∨32<lam∨(300:Int)<1∨(1000:Int)<300):=(by omega);simp only[if_neg hbad2] at hMB;clear hbad2;unfold RetSrch at hMB;simp only[show (300:Int).toNat=300 from rfl] at hMB;cases hT:srchOf (laysOf R) (R.map (·.2)) lam.toNat 300 with
   | none =>
     simp only[hT] at hMB;have HMB:Hid (Calls Tryd.prog 22 #[.slice A3 n c3,.slice A5 n c5,.int .i64 lam,.int .i64 300] w4 fun e w'=>e = .returned (.tuple #[.agg zeroM,errV 11])∧Below w4.heap.size w4 w'):=Zh (hMB.mono fun e w' h=>⟨h.2,h.1⟩);have HCD:Hid (∀ W:World,Calls Tryd.prog 23 #[.iface 92 (.int .i64 11)] W fun e w'=>e = .returned (.int .i64 11)∧W=w'):=Zh fun W=>zky W 11 (by omega) (by omega)
     clear hMB hT;unfold errV at HMB;go_upto_region 7 with (first
       | (go_at_call 22;(with_reducible refine HMB.out.mono ?_);rintro e w5 ⟨rfl,b5⟩;have B5:=Zh b5;have HB5:=Zh (gro HB4.out b5);clear b5)
       | (refine zal (by rfl) _ _ (by rfl) (by rfl) (by rfl) Tryd.sizeMM rfl rfl (BoxM.new w5 60 (fun _=>0) 0 (.slice none 0 0) (.slice none 0 0)) ?_;intro hbx;clear hbx;go_simp)
       | fail)
     have hb6:Below w5.heap.size w5 ((w5.alloc (.cells zeroM 60)).setRow w5.heap.size (machC (fun _=>0) 0 (.slice none 0 0) (.slice none 0 0))):=below_setRow ((Below.refl _ _).alloc (Nat.le_refl _) _) (Nat.le_refl _) _;generalize (w5.alloc (.cells zeroM 60)).setRow w5.heap.size (machC (fun _=>0) 0 (.slice none 0 0) (.slice none 0 0))=w6 at *;have HB6:=Zh (gro HB5.out hb6);clear hb6 HMB;clear hbad;go_wp2_with (first | (go_at_call 23;(with_reducible refine (HCD.out _).mono ?_);rintro e w9 ⟨rfl,rfl⟩) | fail);go_ret;exact⟨rfl,HB6.out⟩
   | some v =>
     obtain⟨ss,rows⟩:=v;obtain⟨hok,hr1,hr2⟩:=zuv (by omega) hT;simp only[hT] at hMB;have hwant:=fun (ys:List Int) (hy:∀ k,k<ys.length->0<=ys.getD k 0∧ys.getD k 0<=255)=>zss HFW.out (by omega) (by omega) hT hy
     generalize clsOf (laysOf R) (R.map (·.2))=F at *;generalize cntOf (laysOf R) (R.map (·.2))=K at *;generalize (ss.map fun s=>mOutP (RR (laysOf R) (R.map (·.2)) lam.toNat) s (0,0))=outs at *;have HMB:=Zh hMB;have HOK:=Zh hok;have HWA:=Zh hwant;obtain⟨rn,hrn⟩:∃ m,rows.length=m:=⟨_,rfl⟩;obtain⟨on,hon⟩:∃ m,outs.length=m:=⟨_,rfl⟩;have HRN:=Zh hrn;have HON:=Zh hon;clear hMB hok hwant hT hr1 hr2 hbad hcl hll hrn hon;go_upto_region 7 with (first
       | (go_at_call 22;(with_reducible refine HMB.out.mono ?_);rintro e w5 ⟨b5,vN,vO,O,rfl,hn5,ho5⟩;obtain⟨AN,cN,hfN⟩:=hn5.form;obtain⟨AO,cO,hfO⟩:=ho5.form;rw[HRN.out] at hfN;rw[HON.out] at hfO;subst hfN hfO;have B5:=Zh b5;have HB5:=Zh (gro HB4.out b5);have HN5:=Zh hn5;have HO5:=Zh ho5;clear b5 hn5 ho5)
       | (refine zal (by rfl) _ _ (by rfl) (by rfl) (by rfl) Tryd.sizeMM rfl rfl (BoxM.new w5 60 (fun _=>0) 0 (.slice none 0 0) (.slice none 0 0)) ?_;intro hbx;have HX5:=Zh hbx;clear hbx;go_simp)
       | fail)
     have hb6:Below w5.heap.size w5 ((w5.alloc (.cells zeroM 60)).setRow w5.heap.size (machC F K (.slice AN rn cN) (.slice AO on cO))):=below_setRow ((Below.refl _ _).alloc (Nat.le_refl _) _) (Nat.le_refl _) _;have hx6:=HX5.out;change BoxM ((w5.alloc (.cells zeroM 60)).setRow w5.heap.size (machC F K (.slice AN rn cN) (.slice AO on cO))) _ _ _ _ _ _ at hx6;generalize (w5.alloc (.cells zeroM 60)).setRow w5.heap.size (machC F K (.slice AN rn cN) (.slice AO on cO))=w6 at *;have HX6:=Zh hx6;have HB6:=Zh (gro HB5.out hb6);have HR6:=Zh ((HR4.out.stays B5.out).stays hb6);have HN6:=Zh (zfd HN5.out hb6);have HO6:=Zh (zfc HO5.out hb6);have HTB6:=Zh (show Tab w6 from⟨Nat.lt_of_lt_of_le HTB.out.1 HB6.out.size,fun k hk=>za2 (HTB.out.2 k hk) HB6.out⟩);obtain⟨g5,hg5⟩:∃ g,w5.heap.size=g:=⟨_,rfl⟩;rw[hg5] at HX6 ⊢;clear hx6 hb6 HX5 HMB hg5 HN5 HO5;have hmx:Tryd.prog.follows .mixedOrders=true:=(by kernel_rfl);have HTL:=Zh (fun (W:World) (hW:Below w6.heap.size w6 W) (k:Nat) (hk:k<=X)=>by
       have hlen:(xs.take k).length=k:=(by rw[List.length_take,HX.out];omega);have hby:∀ j,j<(xs.take k).length->0<=(xs.take k).getD j 0∧(xs.take k).getD j 0<=255:=fun j hj=>by
         rw[List.getD_eq_getElem?_getD,List.getElem?_take_of_lt (by omega),←List.getD_eq_getElem?_getD];exact HBY.out j (by rw[HX.out];omega)
       have hb:=gro HB6.out hW;have h:=zoz (c2:=c2') (cw:=cc) HOK.out (zfd HN6.out hW) (zfc HO6.out hW) (HR6.out.stays hW) (fun r hr=>(HFW.out.ok r hr).1) (by rw[HN.out];omega) (((HXB.out.below hb).more hb.size).take k) hby (by rw[hlen];have:=HX6L.out;omega) (by rw[hlen];omega) ⟨Nat.lt_of_lt_of_le HTB6.out.1 hW.size,fun k hk=>za2 (HTB6.out.2 k hk) hW⟩ (HWA.out _ hby).1 (HWA.out _ hby).2;rw[HN.out,hlen] at h;exact h)
     clear HWA HOK HN6 HO6 HR6 HTB6;go_wp2_with fail;go_loopg [18] (X+1) (fun mm i wr=>∃ k:Nat,i = .int .i64 (k:Int)∧k<=X+1∧mm=X+1-k∧Below w6.heap.size w6 wr)
     case atStart=>exact⟨0,by first | rfl | trivial,Nat.zero_le _,by first | rfl | trivial,Below.refl _ _⟩
     case round =>
       obtain⟨k,rfl,hk,hmk,hbw⟩:=hrel;have HMK:=Zh hmk;have HBW:=Zh hbw;clear hmk hbw
       by_cases hkX:k<=X
       . have hkX':(k:Int)<=(X:Int):=(by omega);have hk0:(0:Int)<=(k:Int):=(by omega);have hkc:(k:Int)<=(cc:Int):=(by omega);go_upto_region 13 with fail
         have hR0:=zl3 wr;have hXW:=HX6.out.stays HBW.out;have HXW:=Zh hXW;clear hXW;refine zeh (R:=fun W=>Below wr.heap.size wr W) (S:=fun _=>True) (T:=[]) hmx ?_;refine zae (i:=0) (v := .agg (machC F K (.slice AN rn cN) (.slice AO on cO))) rfl (by kernel_rfl) (by kernel_rfl) (by kernel_rfl) (fun _ _ _ h=>h) (by simp) (zg9 (by rfl) _ (by rfl) (by rfl) (fun W hW=>HXW.out.stays hW) Tryd.underlying60 rfl Tryd.sizeMM) hR0 (fun _=>trivial) ?_;refine zae (i:=1) (v := .slice A2' n c2') rfl (by kernel_rfl) (by kernel_rfl) (by kernel_rfl) (fun _ _ _ h=>h) (by simp) (Or.inl ⟨by kernel_rfl,fun w' hS=>by go_simp⟩) hR0 (fun _=>trivial) ?_;refine zae (i:=2) (v := .int .i64 lam) rfl (by kernel_rfl) (by kernel_rfl) (by kernel_rfl) (fun _ _ _ h=>h) (by simp) (Or.inl ⟨by kernel_rfl,fun w' hS=>by go_simp⟩) hR0 (fun _=>trivial) ?_;refine zae (i:=3) (v := .slice C X cc) rfl (by kernel_rfl) (by kernel_rfl) (by kernel_rfl) (fun _ _ _ h=>h) (by simp) (Or.inl ⟨by kernel_rfl,fun w' hS=>by go_simp⟩) hR0 (fun _=>trivial) ?_;refine zae (i:=4) (v := .int .i64 (k:Int)) rfl (by kernel_rfl) (by kernel_rfl) (by kernel_rfl) (fun _ _ _ h=>h) (by simp) (Or.inl ⟨by kernel_rfl,fun w' hS=>by go_simp⟩) hR0 (fun _=>trivial) ?_;refine zae (i:=5) (v := .slice C k cc) rfl (by kernel_rfl) (by kernel_rfl) (by kernel_rfl) (fun _ _ _ h=>h) (by simp) (Or.inl ⟨by kernel_rfl,fun w' hS=>by go_simp⟩) hR0 (fun _=>trivial) ?_;go_simp;refine zaw (rs:=[6]) (by kernel_rfl) (by simp) ?_;refine zba (zan rfl fun K' hK=>?_);go_simp;go_at_call 24
         with_reducible refine (HTL.out _ (gro HBW.out hR0) k hkX).mono ?_
         rintro e w9 ⟨rfl,b9⟩;have h9:=gro hR0 b9;refine hK.out _ _ h9 (fun _=>trivial) ?_;clear hK K' b9;go_simp;refine zaw (rs:=[7]) (by kernel_rfl) (by simp) ?_;refine zba (zan rfl fun K' hK=>?_);go_simp;refine hK.out _ _ h9 (fun _=>trivial) ?_;clear hK K';refine zg6 (by kernel_rfl) ?_ _;have HB9:=Zh (gro HBW.out h9);clear h9 hR0;go_wp2;go_roundg (X+1-(k+1))
         case measure=>have:=HMK.out;omega
         case rel=>exact⟨k+1,by go_num,by omega,rfl,HB9.out⟩
       . have hkX':¬ (k:Int)<=(X:Int):=(by omega);go_wp2;go_ret;exact⟨rfl,gro HB6.out HBW.out⟩
end Go.Proofs.YtgbdanddbgomhaaDoor
