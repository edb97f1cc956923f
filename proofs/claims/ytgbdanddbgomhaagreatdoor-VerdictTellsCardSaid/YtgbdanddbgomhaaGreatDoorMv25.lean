import Derived.Test.YtgbdanddbgomhaaGreatDoorMv22
set_option linter.unusedVariables false
set_option linter.unusedSimpArgs false
namespace Go.Proofs.YtgbdanddbgomhaaGreatDoor
open Go Go.RowKit
section
attribute [local go_sem ↓] Go.wp_at_zero Go.wp_at_succ
theorem Two.lo1 {w:World} {B C:Nat} {vo vl:Value} {lo l:List Int} (h:Two w B vo lo C vl l) {r:Nat} (hr:r<l.length):C<w.heap.size:=by
 obtain⟨g,c,_,h1,h2,_⟩:=h.one.at r hr;omega
def outP (Rl:Nat->Nat->Prop) (lo j i:Nat):Nat->Prop:=fun x=>∃ m,lo<=m∧m<j∧iter Rl m i x
theorem zhn (Rl:Nat->Nat->Prop) (lo j i:Nat) (h:lo<=j) (x:Nat):outP Rl lo j i x∨iter Rl j i x↔outP Rl lo (j+1) i x:=by
 constructor
 . rintro (⟨m,h1,h2,h3⟩|h3)
   . exact⟨m,h1,by omega,h3⟩
   . exact⟨j,h,by omega,h3⟩
 . rintro⟨m,h1,h2,h3⟩
   by_cases e:m=j
   . subst e;exact .inr h3
   . exact .inl ⟨m,h1,by omega,h3⟩
theorem zn6 (Rl:Nat->Nat->Prop) (lo j i:Nat) (h:¬ lo<=j) (x:Nat):outP Rl lo j i x↔outP Rl lo (j+1) i x:=by
 constructor
 . rintro⟨m,h1,h2,_⟩;omega
 . rintro⟨m,h1,h2,_⟩;omega
theorem zdf {Rl:Nat->Nat->Prop} {i j:Nat} (h:∀ x,iter Rl (j+1) i x↔iter Rl j i x):∀ (d x:Nat),iter Rl (j+d) i x↔iter Rl j i x
 | 0,x=>Iff.rfl
 | d+1,x=>by
   rw[←h x];constructor
   . rintro⟨y,h1,h2⟩;exact⟨y,(zdf h d y).1 h1,h2⟩
   . rintro⟨y,h1,h2⟩;exact⟨y,(zdf h d y).2 h1,h2⟩
theorem zn5 {Rl:Nat->Nat->Prop} {lo hi j i:Nat} (hj:j<hi) (hl:lo<=hi) (h:∀ x,iter Rl (j+1) i x↔iter Rl j i x) (x:Nat):
   outP Rl lo (j+1) i x∨iter Rl (j+1) i x↔∃ m,lo<=m∧m<=hi∧iter Rl m i x:=by
 constructor
 . rintro (⟨m,h1,h2,h3⟩|h3)
   . exact⟨m,h1,by omega,h3⟩
   . by_cases hlj:lo<=j+1
     . exact⟨j+1,hlj,by omega,h3⟩
     . refine⟨lo,Nat.le_refl _,hl,?_⟩;rw[show lo=j+(lo-j) by omega,zdf h];exact (h x).1 h3
 . rintro⟨m,h1,h2,h3⟩
   by_cases hm:m<j+1
   . exact .inl ⟨m,h1,hm,h3⟩
   . right;rw[show m=j+(m-j) by omega,zdf h] at h3;exact (h x).2 h3
theorem zp9 (Rl:Nat->Nat->Prop) (lo hi i:Nat) (hl:lo<=hi) (x:Nat):outP Rl lo hi i x∨iter Rl hi i x↔∃ m,lo<=m∧m<=hi∧iter Rl m i x:=by
 rw[zhn Rl lo hi i hl x];constructor
 . rintro⟨m,h1,h2,h3⟩;exact⟨m,h1,by omega,h3⟩
 . rintro⟨m,h1,h2,h3⟩;exact⟨m,h1,by omega,h3⟩
set_option maxRecDepth 20000 in
set_option maxHeartbeats 8000000 in
theorem zpp {N:Nat} (ih:EndsFor N) {w:World} {ok:Nat->Prop} {t:T} {k:Value} {xs:List Int} {A:Option Addr} {i c:Nat} (hN:SizeOf.sizeOf t<=N+1) (h:EndsAsk w ok t k xs A i) (h4:t.op=4):
   Calls Tryz.prog 47 #[nodeP t k,.slice A xs.length c,.int .i64 i] w (RetEnds w (E xs t i)):=by
 obtain⟨u,hu⟩:∃ u,t.kids=[u]:=by
   rcases h.wf.op_cases with h' | h' | h' | h'
   . omega
   . omega
   . omega
   . exact List.length_eq_one_iff.1 h'.2.1
 obtain⟨lo,hi,hlo,hhi,hlh,hhi2,hhi1⟩:∃ lo hi:Nat,t.lo=lo∧t.hi=hi∧lo<=hi∧hi<=32∧1<=hi:=by
   rcases h.wf.op_cases with h' | h' | h' | h'
   . omega
   . omega
   . omega
   . exact⟨t.lo.toNat,t.hi.toNat,by omega,by omega,by omega,by omega,by omega⟩
 have hE:∀ j,E xs t i j↔∃ m,lo<=m∧m<=hi∧iter (E xs u) m i j:=by
   intro j;cases t with
   | mk op p lo' hi' l =>
     have e:op=4:=h4;have e1:l=[u]:=hu;have e2:lo'=lo:=hlo;have e3:hi'=hi:=hhi;subst e e1 e2 e3;rw[zlv,zcm];constructor
     . rintro⟨m,h1,h2,h3⟩;exact⟨m,by omega,by omega,h3⟩
     . rintro⟨m,h1,h2,h3⟩;exact⟨m,by omega,by omega,h3⟩
 obtain⟨A',n',c',rfl⟩:=h.tree.form;obtain⟨hn,hm⟩:=h.tree.bound;rw[hu] at hn;have hn1:n'=1:=hn;subst hn1;have hb1:(t.op==1)=false:=(by simp[h4]);have hb2:(t.op==2)=false:=(by simp[h4]);have hb3:(t.op==3)=false:=(by simp[h4]);have hb4:(t.op==4)=true:=(by simp[h4]);have hlen:=h.len;have hile:=h.le;have hum:u∈t.kids:=(by rw[hu];simp);have hwu:=h.wf.kid hum;have hpb:∀ m x,iter (E xs u) m i x->x<=xs.length:=fun m x hx=>(zgs (E_bd hwu) m i x hile hx).2
 have b1:=Box8.new w t (.slice A' 1 c');have hB:Below w.heap.size w (w.alloc (.cells #[.int .i64 t.op,.int .u64 (word t.set 0),.int .u64 (word t.set 1),.int .u64 (word t.set 2),.int .u64 (word t.set 3),.int .i64 t.lo,.int .i64 t.hi,.slice A' 1 c'] 41)):=(Below.refl _ _).alloc (Nat.le_refl _) _;obtain⟨g0,B,m1,m2,e0,hg0,htk,hcells⟩:=kid8 h.tree 0 (u:=u) (by rw[hu];rfl);subst e0;have hks:SizeOf.sizeOf u<SizeOf.sizeOf t:=by
   have:=zas t 0 (by rw[hu];simp)
   simpa [hu] using this
 have hCz:∀ q v,(nodeC u (.slice B m1 m2))[q]?=some v->w.cell? ⟨g0,q,none⟩=some v:=fun q v h=>by
   have:=hcells q v h
   rwa [Nat.mul_zero,Nat.zero_add] at this
 have HE:=Zh hE;have HH:=Zh h;have IH:=Zh ih;have HB1:=Zh b1;have HPBm:=Zh hpb;have HC0:=Zh hCz;have HTK:=Zh htk;have HLO:=Zh hlo;have HHI:=Zh hhi;unfold EndsFor at IH;clear hE h4 hn h ih b1 hpb hcells htk hCz hu hm;generalize hL:xs.length=L at *;have HL:=Zh hL;clear hL;rw[hlo,hhi] at HB1 hB;unfold nodeP;rw[hlo,hhi];clear hlo hhi;go_enter Tryz.func47,Tryz.ntmps47;go_wp2;have hW0:Below w.heap.size w ((w.alloc (.cells #[.int .i64 t.op,.int .u64 (word t.set 0),.int .u64 (word t.set 1),.int .u64 (word t.set 2),.int .u64 (word t.set 3),.int .i64 lo,.int .i64 hi,.slice (some ⟨g0,0,none⟩) 1 c'] 41)).alloc (.cells #[.int .i64 i] 3)):=hB.alloc hB.size _;have hI0:Ints ((w.alloc (.cells #[.int .i64 t.op,.int .u64 (word t.set 0),.int .u64 (word t.set 1),.int .u64 (word t.set 2),.int .u64 (word t.set 3),.int .i64 lo,.int .i64 hi,.slice (some ⟨g0,0,none⟩) 1 c'] 41)).alloc (.cells #[.int .i64 i] 3)) (w.heap.size+1) (.slice (some ⟨w.heap.size+1,0,none⟩) 1 1) [(i:Int)]:=by
   have h:=World.ownsRow_lit (base:=w.heap.size+1) (e:=3) (size:=1) (w.alloc (.cells #[.int .i64 t.op,.int .u64 (word t.set 0),.int .u64 (word t.set 1),.int .u64 (word t.set 2),.int .u64 (word t.set 3),.int .i64 lo,.int .i64 hi,.slice (some ⟨g0,0,none⟩) 1 c'] 41)) #[.int .i64 (i:Int)] 1 (by simp) (by decide) rfl;rw[World.size_alloc] at h;exact h
 go_loopg [12,13,15] hi (fun m o out i' wr=>∃ (j:Nat) (ln lx0:List Int),i' = .int .i64 (j:Int)∧j<=hi∧m=hi-j∧Two wr (w.heap.size+1) out lx0 (w.heap.size+1) o ln∧Lists (outP (E xs u) lo j i) lx0∧Lists (iter (E xs u) j i) ln∧Box8 wr w.heap.size t (.slice (some ⟨g0,0,none⟩) 1 c')∧Below w.heap.size w wr)
 case atStart=>exact⟨0,[(i:Int)],[],rfl,Nat.zero_le _,rfl,⟨Ints.nil _ _,hI0,fun g e=>by cases e⟩,Lists.nil.congr fun x=>⟨fun h=>h.elim,fun ⟨m,h1,h2,_⟩=>by omega⟩,(Lists.one i).congr fun j=>eq_comm,HB1.out.alloc _,hW0⟩
 case round =>
   obtain⟨j,ln,lo0,rfl,hj,hmj,htw0,hls0,hls,x1,hW⟩:=hrel;have HMJ:=Zh hmj;have HLS:=Zh hls;have HLS0:=Zh hls0;have HTW0:=Zh htw0;have HPB:=Zh (HPBm.out j);have HPB1:=Zh (HPBm.out (j+1));have hnl:ln.length<=L+1:=hls.len fun x hx=>HPB.out x hx
   have hol:lo0.length<=L+1:=hls0.len fun x hx=>by
     obtain⟨m,_,_,hm⟩:=hx;exact HPBm.out m x hm
   obtain⟨An,cn,hform⟩:=htw0.one.form;subst hform;obtain⟨c0,c1,c2,c3,c4,c5,c6,c7⟩:=x1.cell;rw[HLO.out] at c5;rw[HHI.out] at c6;have HX1:=Zh x1;clear hmj hls hls0 htw0 x1
   by_cases hlt:j<hi
   . have z0:=za4 (HC0.out 0 _ rfl) hW;have z1:=za4 (HC0.out 1 _ rfl) hW;have z2:=za4 (HC0.out 2 _ rfl) hW;have z3:=za4 (HC0.out 3 _ rfl) hW;have z4:=za4 (HC0.out 4 _ rfl) hW;have z5:=za4 (HC0.out 5 _ rfl) hW;have z6:=za4 (HC0.out 6 _ rfl) hW;have z7:=za4 (HC0.out 7 _ rfl) hW;have hg2:g0<wr.heap.size:=Nat.lt_of_lt_of_le hg0 hW.size;have hw2:w.heap.size<wr.heap.size:=HX1.out.lt;generalize hln:ln.length=M at *;have HLN:=Zh hln;clear hln;have bk:=Box8.new wr u (.slice B m1 m2);have hb3':Below wr.heap.size wr (wr.alloc (.cells #[.int .i64 u.op,.int .u64 (word u.set 0),.int .u64 (word u.set 1),.int .u64 (word u.set 2),.int .u64 (word u.set 3),.int .i64 u.lo,.int .i64 u.hi,.slice B m1 m2] 41)):=(Below.refl _ _).alloc (Nat.le_refl _) _;go_upto_region 30 with fail
     clear z0 z1 z2 z3 z4 z5 z6 z7 c0 c1 c2 c3 c4 c5 c6 c7;have hT3:Two (wr.alloc (.cells #[.int .i64 u.op,.int .u64 (word u.set 0),.int .u64 (word u.set 1),.int .u64 (word u.set 2),.int .u64 (word u.set 3),.int .i64 u.lo,.int .i64 u.hi,.slice B m1 m2] 41)) (w.heap.size+1) u13 lo0 (w.heap.size+1) (.slice An M cn) ln:=⟨HTW0.out.out.stays hb3',HTW0.out.one.stays hb3',HTW0.out.apart⟩;have hK3:∀ g,u13.ownBlock=some g->g≠wr.heap.size:=fun g e=>by have:=(World.ownsRow.lt HTW0.out.out g e).2;omega
     have hW3:=gro hW hb3';have x3:=HX1.out.stays hb3';generalize wr.alloc (.cells #[.int .i64 u.op,.int .u64 (word u.set 0),.int .u64 (word u.set 1),.int .u64 (word u.set 2),.int .u64 (word u.set 3),.int .i64 u.lo,.int .i64 u.hi,.slice B m1 m2] 41)=w3 at *;have BK:=Zh bk;have HX3:=Zh x3;have HT3:=Zh hT3;have HK3:=Zh hK3;have hw3:wr.heap.size<w3.heap.size:=bk.lt;obtain⟨c0,c1,c2,c3,c4,c5,c6,c7⟩:=x3.cell;rw[HLO.out] at c5;rw[HHI.out] at c6;clear bk x3 hT3 hK3 HTW0 HX1 hb3' hW hg2;generalize wr.heap.size=Kb at *;go_cut [109] from 84 to 176 (fun s109 wx=>s109 = .bool (decide (lo<=j))∧w3=wx)
     case first =>
       by_cases hlj:lo<=j
       all_goals
         go_wp2;go_meet;exact⟨congrArg Value.bool (by simp[hlj]),rfl⟩
     case rest =>
     obtain⟨hs109,hcw⟩:=hcut;subst hcw;go_upto_if 109 with fail
     go_cut [13,17] from 84 to 176 (fun s13 s17 wx=>∃ lo1:List Int,Two wx (w.heap.size+1) s13 lo1 (w.heap.size+1) (.slice An M cn) ln∧Lists (outP (E xs u) lo (j+1) i) lo1∧Box8 wx Kb u (.slice B m1 m2)∧Box8 wx w.heap.size t (.slice (some ⟨g0,0,none⟩) 1 c')∧Below w.heap.size w wx)
     case first =>
       by_cases hlj:lo<=j
       . rw[decide_eq_true hlj] at hs109;subst hs109;go_wp2;clear c0 c1 c2 c3 c4 c5 c6 c7;go_loopg [13,17] M (fun m' o' kk wq=>∃ r:Nat,kk = .int .i64 (r:Int)∧r<=M∧m'=M-r∧Two wq (w.heap.size+1) o' (addAll lo0 (ln.take r)) (w.heap.size+1) (.slice An M cn) ln∧Box8 wq Kb u (.slice B m1 m2)∧Box8 wq w.heap.size t (.slice (some ⟨g0,0,none⟩) 1 c')∧(∀ g,o'.ownBlock=some g->g≠Kb)∧Below w.heap.size w wq)
         case atStart=>exact⟨0,rfl,Nat.zero_le _,rfl,HT3.out,BK.out,HX3.out,HK3.out,hW3⟩
         case round =>
           obtain⟨r,rfl,hr,hmr,htw,bkr,xr,hkr,hWr⟩:=hrel;have HMR:=Zh hmr;have HTW:=Zh htw;have BKR:=Zh bkr;have HXR:=Zh xr;have HKR:=Zh hkr;clear hmr htw bkr xr hkr
           by_cases hrt:r<M
           . have hrt':r<ln.length:=(by rw[HLN.out];exact hrt);obtain⟨gl,cl',e2,_,_,hc2⟩:=HTW.out.one.at r hrt';injection e2 with e3 e4 e5
             subst e3 e5;clear e4;have hat:=zax lo0 ln r hrt';generalize ln[r]'hrt'=x at *;have HAT:=Zh hat;have hsz:(addAll lo0 (ln.take r)).length<=1000000:=by
               have h1:=zaz (ln.take r) lo0;rw[List.length_take] at h1;omega
             have HADD:=Zh (ziv wr (w.heap.size+1) u13 (addAll lo0 (ln.take r)) x HTW.out.out (by have:=HTW.out.lo1 hrt';omega) hsz);clear hat hsz;unfold RetAdd at HADD;go_wp2_with (go_at_call 74;(with_reducible refine HADD.out.mono ?_);rintro e w6 ⟨v6,rfl,hi6,hg6,hv6⟩);go_roundg (M-(r+1))
             case measure=>have:=HMR.out;omega
             case rel =>
               have hrow:=zem HTW.out.out;have hkb:=BKR.out.lt;refine⟨r+1,by go_num,by omega,rfl,?_,BKR.out.grown hg6 (fun e=>HKR.out _ e.symm rfl),HXR.out.grown hg6 (fun e=>by have:=hrow _ e.symm;omega),fun g e=>?_,hWr.grown hg6 hWr.size (fun j e=>by have:=hrow j e;omega)⟩
               . rw[HAT.out];exact HTW.out.added hi6 hg6 hv6
               . rcases hv6 with hv6|⟨g',hv6,hg'⟩
                 . exact HKR.out g (hv6▸e)
                 . rw[hv6] at e;injection e with e
                   omega
           . have hqn:ln.take r=ln:=List.take_of_length_le (by rw[HLN.out];omega);rw[hqn] at HTW;go_wp2;go_meet;exact⟨addAll lo0 ln,HTW.out,(HLS0.out.add HLS.out).congr fun x=>zhn _ lo j i hlj x,BKR.out,HXR.out,hWr⟩
       . rw[decide_eq_false hlj] at hs109;subst hs109;go_wp2;go_meet;exact⟨lo0,HT3.out,HLS0.out.congr fun x=>zn6 _ lo j i hlj x,BK.out,HX3.out,hW3⟩
     case rest =>
     clear hs109;obtain⟨lo1,hT4,hO4,bk4,x4,hW4⟩:=hcut;clear c0 c1 c2 c3 c4 c5 c6 c7 HT3 HK3 HX3 BK hw3 hW3;generalize wc=w3 at *;have hKb:Kb<w3.heap.size:=bk4.lt;have BK:=Zh bk4;have HX3:=Zh x4;have HI3:=Zh hT4.one;have HT4:=Zh hT4;have HO4:=Zh hO4;have HA3:Hid (EndsAsk w3 ok u (.slice B m1 m2) xs A 0):=HH.out.kid hum HTK.out hW4 (by omega);have hol1:lo1.length<=L+1:=hO4.len fun x hx=>by
       obtain⟨m,_,_,hm⟩:=hx;exact HPBm.out m x hm
     obtain⟨c0,c1,c2,c3,c4,c5,c6,c7⟩:=x4.cell;rw[HLO.out] at c5;rw[HHI.out] at c6;clear bk4 x4 hT4 hO4;go_wp2;clear c0 c1 c2 c3 c4 c5 c6 c7;go_loopg [18,19] M (fun m' nx kk wq=>∃ (q:Nat) (lx:List Int),kk = .int .i64 (q:Int)∧q<=M∧m'=M-q∧Ints wq w3.heap.size nx lx∧Lists (fun x=>∃ y:Nat,(y:Int)∈ln.take q∧E xs u y x) lx∧Below w3.heap.size w3 wq)
     case atStart=>exact⟨0,[],rfl,Nat.zero_le _,rfl,Ints.nil _ _,Lists.nil.congr fun x=>⟨fun h=>h.elim,fun ⟨y,hy,_⟩=>by simp at hy⟩,Below.refl _ _⟩
     case round =>
       obtain⟨q,lx,rfl,hq,hmq,hnx,hlx,hWq⟩:=hrel;have HMQ:=Zh hmq;have HNX:=Zh hnx;have HLX:=Zh hlx;clear hmq hnx hlx
       by_cases hqt:q<M
       . have hqt':q<ln.length:=(by rw[HLN.out];exact hqt);obtain⟨gn,cn',e2,_,_,hc2⟩:=(HI3.out.stays hWq).at q hqt';injection e2 with e3 e4 e5
         subst e3 e5;clear e4;obtain⟨y,hy,hPy⟩:=HLS.out.bound q hqt';have hyL:y<=L:=HPB.out y hPy;rw[hy] at hc2;have hsnoc:∀ z:Nat,(z:Int)∈ln.take (q+1)↔(z:Int)∈ln.take q∨z=y:=by
           intro z;rw[List.take_succ_eq_append_getElem hqt',hy];simp only[List.mem_append,List.mem_singleton];constructor
           . rintro (h|h)
             . exact .inl h
             . exact .inr (by omega)
           . rintro (h|h)
             . exact .inl h
             . exact .inr (by omega)
         have HSN:=Zh hsnoc;obtain⟨b0,b1,b2,b3,b4,b5,b6,b7⟩:=(BK.out.stays hWq).cell;have q0:(0:Int)<=(q:Int):=(by omega);have q1:(q:Int)<(M:Int):=(by omega);have hlxl:lx.length<=L+1:=HLX.out.len fun x hx=>by
           obtain⟨z,hz,hE⟩:=hx;have hz2:(z:Int)∈ln:=List.mem_of_mem_take hz;obtain⟨z',e,hP⟩:=(HLS.out.2 _).1 hz2;have ez:z=z':=(by omega);subst ez;have:=HPB.out z hP;have:=(E_bd HA3.out.wf z x (by rw[HL.out];exact this) hE).2;rw[HL.out] at this;exact this
         have hub:∀ x,E xs u y x->x<=L:=fun x hx=>by
           have:=(E_bd HA3.out.wf y x (by rw[HL.out];exact hyL) hx).2;rw[HL.out] at this;exact this
         have HUB:=Zh hub;have hcall:∀ W,Below wr.heap.size wr W->Calls Tryz.prog 47 #[nodeP u (.slice B m1 m2),.slice A L c,.int .i64 y] W (fun e w5=>∃ Al cl l,e = .returned (.slice Al l.length cl)∧Two w5 w3.heap.size u18 lx W.heap.size (.slice Al l.length cl) l∧Below w3.heap.size w3 w5∧l.length<=L+1∧Lists (E xs u y) l):=fun W hbW=>by
           have ha:EndsAsk W ok u (.slice B m1 m2) xs A y:=⟨HA3.out.wf,(HA3.out.tree.stays hWq).stays hbW,((HA3.out.rd.below hWq).below (hbW.mono hWq.size)).more (Nat.le_trans hWq.size hbW.size),HA3.out.byte,HA3.out.len,by rw[HL.out];exact hyL⟩;have hc:=IH.out u W ok (.slice B m1 m2) xs A y c (by omega) ha;rw[HL.out] at hc;refine hc.mono fun e w5 h5=>?_
           obtain⟨vl,l,he,hvl,hlsl,hb5⟩:=h5;obtain⟨Al,cl,hform⟩:=hvl.form;subst hform;exact⟨Al,cl,l,he,Two.start (HNX.out.stays hbW) hb5 hvl,gro (gro hWq hbW) hb5,hlsl.len HUB.out,hlsl⟩
         unfold nodeP at hcall;have HK:=Zh hcall;clear hsnoc hub hcall hPy hyL;go_wp2_with fail;go_still_tail 6,(by kernel_rfl);change wpList _ _ _ _ _ wr.drew;go_wp2_with (go_at_call 47;(with_reducible refine (HK.out wr.drew ((Below.refl _ _).drew)).mono ?_);rintro e w5 ⟨Al,cl,l,rfl,htwo,hW5,hll,hlsl⟩;have HLSL:=Zh hlsl;clear hlsl);have HTWO:=Zh htwo;clear htwo b0 b1 b2 b3 b4 b5 b6 b7 hc2;generalize hll2:l.length=M2 at *;generalize wr.drew.heap.size=C at HTWO;have HLL:=Zh hll2;clear hll2;go_loopg [18,21] M2 (fun m' o' kk wq=>∃ r:Nat,kk = .int .i64 (r:Int)∧r<=M2∧m'=M2-r∧Two wq w3.heap.size o' (addAll lx (l.take r)) C (.slice Al M2 cl) l∧Below w3.heap.size w3 wq)
         case atStart=>exact⟨0,rfl,Nat.zero_le _,rfl,HTWO.out,hW5⟩
         case round =>
           obtain⟨r,rfl,hr,hmr,htw,hWr⟩:=hrel;have HMR:=Zh hmr;have HTW:=Zh htw;clear hmr htw
           by_cases hrt:r<M2
           . have hrt':r<l.length:=(by rw[HLL.out];exact hrt);obtain⟨gl,cl',e2,_,_,hc2⟩:=HTW.out.one.at r hrt';injection e2 with e3 e4 e5
             subst e3 e5;clear e4;have hat:=zax lx l r hrt';generalize l[r]'hrt'=x at *;have HAT:=Zh hat;have hsz:(addAll lx (l.take r)).length<=1000000:=by
               have h1:=zaz (l.take r) lx;rw[List.length_take] at h1;omega
             have HADD:=Zh (ziv wr w3.heap.size u18 (addAll lx (l.take r)) x HTW.out.out hWr.size hsz);clear hat hsz;unfold RetAdd at HADD;go_wp2_with (go_at_call 74;(with_reducible refine HADD.out.mono ?_);rintro e w6 ⟨v6,rfl,hi6,hg6,hv6⟩);go_roundg (M2-(r+1))
             case measure=>have:=HMR.out;omega
             case rel =>
               refine⟨r+1,by go_num,by omega,rfl,?_,hWr.grown hg6 hWr.size (zem HTW.out.out)⟩;rw[HAT.out];exact HTW.out.added hi6 hg6 hv6
           . have hqn:l.take r=l:=List.take_of_length_le (by rw[HLL.out];omega);rw[hqn] at HTW;go_wp2;go_roundg (M-(q+1))
             case measure=>have:=HMQ.out;omega
             case rel =>
               refine⟨q+1,addAll lx l,by go_num,by omega,rfl,HTW.out.out,(HLX.out.add HLSL.out).congr fun x=>?_,hWr⟩;constructor
               . rintro (⟨z,h1,h2⟩|h2)
                 . exact⟨z,(HSN.out z).2 (.inl h1),h2⟩
                 . exact⟨y,(HSN.out y).2 (.inr rfl),h2⟩
               . rintro⟨z,h1,h2⟩;rcases (HSN.out z).1 h1 with h1|rfl
                 . exact .inl ⟨z,h1,h2⟩
                 . exact .inr h2
       . have hqn:ln.take q=ln:=List.take_of_length_le (by rw[HLN.out];omega);rw[hqn] at HLX;have HNEW:Hid (Lists (iter (E xs u) (j+1) i) lx):=HLX.out.congr fun x=>by
           constructor
           . rintro⟨y,h1,h2⟩;obtain⟨y',e,hP⟩:=(HLS.out.2 _).1 h1;have ey:y=y':=(by omega);subst ey;exact⟨y,hP,h2⟩
           . rintro⟨y,h1,h2⟩;exact⟨y,(HLS.out.2 _).2 ⟨y,rfl,h1⟩,h2⟩
         obtain⟨Ax,cx,hfx⟩:=HNX.out.form;subst hfx;generalize hxl:lx.length=X at *;have HXL:=Zh hxl;clear hqn hxl;have hlxl:X<=L+1:=by
           rw[←HXL.out];exact HNEW.out.len fun x hx=>HPB1.out x hx
         go_wp2;obtain⟨w4,hw4⟩:∃ w4,w4=wr:=⟨_,rfl⟩;rw[←hw4] at HNX hWq ⊢;clear hw4;have HI4:=Zh (HI3.out.stays hWq);have HX4:=Zh (HX3.out.stays hWq);have HW4:=Zh (gro hW4 hWq);have HT5:Hid (Two w4 (w.heap.size+1) u13 lo1 (w.heap.size+1) (.slice Ax X cx) lx):=⟨HT4.out.out.stays hWq,HNX.out.lower (by omega),fun g e e'=>by
           have h1:=(World.ownsRow.lt HT4.out.out g e).2;have h2:=(World.ownsRow.lt HNX.out g e').1;omega⟩
         go_loopg [22,23] M (fun m' st kk wq=>∃ (r:Nat) (b:Bool),kk = .int .i64 (r:Int)∧st = .bool b∧r<=M∧m'=M-r∧(b=true->M=X∧∀ k,k<r->ln[k]?=lx[k]?)∧Below w4.heap.size w4 wq)
         case atStart=>exact⟨0,_,rfl,rfl,Nat.zero_le _,rfl,fun e=>⟨by have e':=of_decide_eq_true e;omega,fun k hk=>by omega⟩,Below.refl _ _⟩
         case round =>
           obtain⟨r,b,rfl,rfl,hr,hmr,heq,hWr⟩:=hrel;have HMR:=Zh hmr;have HEQ:=Zh heq;clear hmr heq;obtain⟨c0,c1,c2,c3,c4,c5,c6,c7⟩:=(HX4.out.stays hWr).cell;rw[HLO.out] at c5;rw[HHI.out] at c6;cases b
           . by_cases hrt:r<M
             all_goals
               go_wp2;go_roundg (hi-(j+1))
               case measure=>have:=HMJ.out;omega
               case rel=>exact⟨j+1,lx,lo1,by go_num,by omega,rfl,⟨HT5.out.out.stays hWr,HT5.out.one.stays hWr,HT5.out.apart⟩,HO4.out,HNEW.out,HX4.out.stays hWr,gro HW4.out hWr⟩
           . have hMX:=(HEQ.out rfl).1;have HPRE:=Zh (HEQ.out rfl).2
             by_cases hrt:r<M
             . have hr1:r<ln.length:=(by rw[HLN.out];exact hrt);have hr2:r<lx.length:=(by rw[HXL.out];omega);obtain⟨ga,ca,e2,_,_,hca⟩:=(HI4.out.stays hWr).at r hr1;have HNX2:=HNX.out.stays hWr;rw[←HXL.out] at HNX2;obtain⟨gb,cb,e6,_,_,hcb⟩:=HNX2.at r hr2;injection e2 with e3 e4 e5
               injection e6 with e7 e8 e9
               subst e3 e5 e7 e9;clear e4 e8 HNX2;have h1:=List.getElem?_eq_getElem hr1;have h2:=List.getElem?_eq_getElem hr2;generalize ln[r]'hr1=x1 at *;generalize lx[r]'hr2=x2 at *;have H1:=Zh h1;have H2:=Zh h2;have HMX:=Zh hMX;have r0:(0:Int)<=(r:Int):=(by omega);have r1:(r:Int)<(M:Int):=(by omega);have r2:(r:Int)<(X:Int):=(by omega);clear h1 h2 hMX;go_wp2_with fail;go_quiet (fail);go_wp2;go_roundg (M-(r+1))
               case measure=>have:=HMR.out;omega
               case rel =>
                 refine⟨r+1,x1==x2,by go_num,rfl,by omega,rfl,fun e=>⟨HMX.out,fun k hk=>?_⟩,below_drewN hWr _⟩
                 by_cases hkr:k<r
                 . exact HPRE.out k hkr
                 . have hkr':k=r:=(by omega);subst hkr';rw[H1.out,H2.out];have:=eq_of_beq e;rw[this]
             . have hsame:ln=lx:=by
                 apply List.ext_getElem?;intro k
                 by_cases hk:k<r
                 . exact HPRE.out k hk
                 . rw[List.getElem?_eq_none (by rw[HLN.out];omega),List.getElem?_eq_none (by rw[HXL.out];omega)]
               have HST8:Hid (∀ x,iter (E xs u) (j+1) i x↔iter (E xs u) j i x):=fun x=>by
                 have h1:=HNEW.out.2 (x:Int);have h2:=HLS.out.2 (x:Int);rw[←hsame,h2] at h1;constructor
                 . intro h;obtain⟨y,e,h'⟩:=h1.2 ⟨x,rfl,h⟩;have:x=y:=by omega
                   exact this▸h'
                 . intro h;obtain⟨y,e,h'⟩:=h1.1 ⟨x,rfl,h⟩;have:x=y:=by omega
                   exact this▸h'
               have HFIN:Hid (Lists (E xs t i) (addAll lo1 lx)):=(HO4.out.add HNEW.out).congr fun x=>(zn5 hlt hlh HST8.out x).trans (HE.out x).symm
               have HTW8:Hid (Two wr (w.heap.size+1) u13 lo1 (w.heap.size+1) (.slice Ax X cx) lx):=⟨HT5.out.out.stays hWr,HT5.out.one.stays hWr,HT5.out.apart⟩;have HW8:=Zh (gro HW4.out hWr);clear hsame hMX;go_wp2;clear c0 c1 c2 c3 c4 c5 c6 c7;go_loopg [13,24] X (fun m' o' kk wq=>∃ r:Nat,kk = .int .i64 (r:Int)∧r<=X∧m'=X-r∧Two wq (w.heap.size+1) o' (addAll lo1 (lx.take r)) (w.heap.size+1) (.slice Ax X cx) lx∧Below w.heap.size w wq)
               case atStart=>exact⟨0,rfl,Nat.zero_le _,rfl,HTW8.out,HW8.out⟩
               case round =>
                 obtain⟨r,rfl,hr,hmr,htw,hWr⟩:=hrel;have HMR:=Zh hmr;have HTW:=Zh htw;clear hmr htw
                 by_cases hrt:r<X
                 . have hrt':r<lx.length:=(by rw[HXL.out];exact hrt);obtain⟨gl,cl',e2,_,_,hc2⟩:=HTW.out.one.at r hrt';injection e2 with e3 e4 e5
                   subst e3 e5;clear e4;have hat:=zax lo1 lx r hrt';generalize lx[r]'hrt'=x at *;have HAT:=Zh hat;have hsz:(addAll lo1 (lx.take r)).length<=1000000:=by
                     have h1:=zaz (lx.take r) lo1;rw[List.length_take] at h1;omega
                   have HADD:=Zh (ziv wr (w.heap.size+1) u13 (addAll lo1 (lx.take r)) x HTW.out.out (by have:=hWr.size;have:=World.block_lt_of_cell? wr _ hc2;have:=HTW.out.lo1 hrt';omega) hsz);clear hat hsz;unfold RetAdd at HADD;go_wp2_with (go_at_call 74;(with_reducible refine HADD.out.mono ?_);rintro e w6 ⟨v6,rfl,hi6,hg6,hv6⟩);go_roundg (X-(r+1))
                   case measure=>have:=HMR.out;omega
                   case rel =>
                     refine⟨r+1,by go_num,by omega,rfl,?_,hWr.grown hg6 hWr.size (fun j e=>by have:=zem HTW.out.out j e;omega)⟩;rw[HAT.out];exact HTW.out.added hi6 hg6 hv6
                 . have hqn:lx.take r=lx:=List.take_of_length_le (by rw[HXL.out];omega);rw[hqn] at HTW;go_wp2;go_ret;exact⟨_,addAll lo1 lx,rfl,HTW.out.out.lower (by omega),HFIN.out,hWr⟩
   . have hjh:j=hi:=(by omega);subst hjh;have HFIN:Hid (Lists (E xs t i) (addAll lo0 ln)):=(HLS0.out.add HLS.out).congr fun x=>(zp9 _ lo j i hlh x).trans (HE.out x).symm
     have HTW8:=HTW0;have HW8:=Zh hW;generalize hln:ln.length=M at *;have HLN:=Zh hln;clear hln;go_wp2;clear c0 c1 c2 c3 c4 c5 c6 c7;go_loopg [13,24] M (fun m' o' kk wq=>∃ r:Nat,kk = .int .i64 (r:Int)∧r<=M∧m'=M-r∧Two wq (w.heap.size+1) o' (addAll lo0 (ln.take r)) (w.heap.size+1) (.slice An M cn) ln∧Below w.heap.size w wq)
     case atStart=>exact⟨0,rfl,Nat.zero_le _,rfl,HTW8.out,HW8.out⟩
     case round =>
       obtain⟨r,rfl,hr,hmr,htw,hWr⟩:=hrel;have HMR:=Zh hmr;have HTW:=Zh htw;clear hmr htw
       by_cases hrt:r<M
       . have hrt':r<ln.length:=(by rw[HLN.out];exact hrt);obtain⟨gl,cl',e2,_,_,hc2⟩:=HTW.out.one.at r hrt';injection e2 with e3 e4 e5
         subst e3 e5;clear e4;have hat:=zax lo0 ln r hrt';generalize ln[r]'hrt'=x at *;have HAT:=Zh hat;have hsz:(addAll lo0 (ln.take r)).length<=1000000:=by
           have h1:=zaz (ln.take r) lo0;rw[List.length_take] at h1;omega
         have HADD:=Zh (ziv wr (w.heap.size+1) u13 (addAll lo0 (ln.take r)) x HTW.out.out (by have:=hWr.size;have:=World.block_lt_of_cell? wr _ hc2;have:=HTW.out.lo1 hrt';omega) hsz);clear hat hsz;unfold RetAdd at HADD;go_wp2_with (go_at_call 74;(with_reducible refine HADD.out.mono ?_);rintro e w6 ⟨v6,rfl,hi6,hg6,hv6⟩);go_roundg (M-(r+1))
         case measure=>have:=HMR.out;omega
         case rel =>
           refine⟨r+1,by go_num,by omega,rfl,?_,hWr.grown hg6 hWr.size (fun j e=>by have:=zem HTW.out.out j e;omega)⟩;rw[HAT.out];exact HTW.out.added hi6 hg6 hv6
       . have hqn:ln.take r=ln:=List.take_of_length_le (by rw[HLN.out];omega);rw[hqn] at HTW;go_wp2;go_ret;exact⟨_,addAll lo0 ln,rfl,HTW.out.out.lower (by omega),HFIN.out,hWr⟩
theorem ends_p:∀ N,EndsFor N:=by
 intro N;induction N with
 | zero=>intro t w ok k xs A i c h;obtain⟨op,p,lo,hi,l⟩:=t;simp at h
 | succ N ih =>
   intro t w ok k xs A i c hN h;rcases h.wf.op_cases with h' | h' | h' | h'
   . exact znt h h'.1
   . exact zpq ih hN h h'.1
   . exact zpr ih hN h h'.1
   . exact zpp ih hN h h'.1
end
end Go.Proofs.YtgbdanddbgomhaaGreatDoor
