import Derived.Test.YtgbdanddbgomhaaGreatDoorMv25
import Derived.Test.YtgbdanddbgomhaaGreatDoorMv40
import Derived.Test.YtgbdanddbgomhaaGreatDoorMv23
import Derived.Test.YtgbdanddbgomhaaGreatDoorMv12
import Derived.Test.YtgbdanddbgomhaaGreatDoorMv20
set_option linter.unusedVariables false
set_option linter.unusedSimpArgs false
namespace Go.Proofs.YtgbdanddbgomhaaGreatDoor
open Go Go.RowKit
section
attribute [local go_sem ↓] Go.wp_at_zero Go.wp_at_succ
def RetIs (w:World) (P:Prop) (e:Ending) (w':World):Prop:=∃ b:Bool,e = .returned (.bool b)∧(b=true↔P)∧Below w.heap.size w w'
set_option maxRecDepth 20000 in
set_option maxHeartbeats 2000000 in
theorem ziz {w:World} {ok:Nat->Prop} {t:T} {k:Value} {xs:List Int} {A:Option Addr} {c:Nat} (h:EndsAsk w ok t k xs A 0):
   Calls Tryz.prog 23 #[nodeP t k,.slice A xs.length c] w (RetIs w (E xs t 0 xs.length)):=by
 obtain⟨A',n',c',rfl⟩:=h.tree.form;have b1:=Box8.new w t (.slice A' n' c');have hB:Below w.heap.size w (w.alloc (.cells #[.int .i64 t.op,.int .u64 (word t.set 0),.int .u64 (word t.set 1),.int .u64 (word t.set 2),.int .u64 (word t.set 3),.int .i64 t.lo,.int .i64 t.hi,.slice A' n' c'] 41)):=(Below.refl _ _).alloc (Nat.le_refl _) _;have ha:EndsAsk (w.alloc (.cells #[.int .i64 t.op,.int .u64 (word t.set 0),.int .u64 (word t.set 1),.int .u64 (word t.set 2),.int .u64 (word t.set 3),.int .i64 t.lo,.int .i64 t.hi,.slice A' n' c'] 41)) ok t (.slice A' n' c') xs A 0:=⟨h.wf,h.tree.alloc _,(h.rd.below hB).more hB.size,h.byte,h.len,Nat.zero_le _⟩;have hbd:∀ x,E xs t 0 x->x<=xs.length:=fun x hx=>(E_bd h.wf 0 x (Nat.zero_le _) hx).2
 have hk:Calls Tryz.prog 47 #[nodeP t (.slice A' n' c'),.slice A xs.length c,.int .i64 0] (w.alloc (.cells #[.int .i64 t.op,.int .u64 (word t.set 0),.int .u64 (word t.set 1),.int .u64 (word t.set 2),.int .u64 (word t.set 3),.int .i64 t.lo,.int .i64 t.hi,.slice A' n' c'] 41)) (fun e w5=>∃ Al cl l,e = .returned (.slice Al l.length cl)∧Ints w5 (w.heap.size+1) (.slice Al l.length cl) l∧Lists (E xs t 0) l∧l.length<=xs.length+1∧Below w.heap.size w w5):=by
   refine (ends_p _ t _ ok _ xs A 0 c (Nat.le_refl _) ha).mono fun e w5 h5=>?_
   obtain⟨vl,l,he,hvl,hlsl,hb5⟩:=h5;obtain⟨Al,cl,hform⟩:=hvl.form;subst hform;rw[World.size_alloc] at hvl;exact⟨Al,cl,l,he,hvl,hlsl,hlsl.len hbd,gro1 (Below.refl _ _) hb5⟩
 have hlen:=h.len;unfold nodeP at hk ⊢;have HK:=Zh hk;have HBD:=Zh hbd;clear hk ha b1 h hbd;generalize hL:xs.length=L at *;have HL:=Zh hL;clear hL;go_enter Tryz.func23,Tryz.ntmps23;go_wp2_with (go_at_call 47;(with_reducible refine HK.out.mono ?_);rintro e w5 ⟨Al,cl,l,rfl,hvl,hlsl,hll,hW5⟩;have HLS:=Zh hlsl;have HVL:=Zh hvl;clear hlsl hvl);generalize hM:l.length=M at *;have HM:=Zh hM;clear hM;go_loopg [6] M (fun m i wr=>∃ j:Nat,i = .int .i64 (j:Int)∧j<=M∧m=M-j∧(∀ k,k<j->∀ x,l[k]?=some x->x≠(L:Int))∧wr=w5)
 case atStart=>exact⟨0,rfl,Nat.zero_le _,rfl,fun k hk=>by omega,rfl⟩
 case round =>
   obtain⟨j,rfl,hj,hmj,hne,rfl⟩:=hrel;have HMJ:=Zh hmj;have HNE:=Zh hne;clear hmj hne
   by_cases hlt:j<M
   . have hlt':j<l.length:=(by rw[HM.out];exact hlt);obtain⟨g,c2,e1,_,_,hc⟩:=HVL.out.at j hlt';injection e1 with e1 e2 e3
     subst e1 e3;clear e2;obtain⟨x,hx⟩:∃ x,l[j]'hlt'=x:=⟨_,rfl⟩;rw[hx] at hc;have HX:=Zh hx;clear hx;cases hxn:(x==(L:Int))
     . go_wp2;go_roundg (M-(j+1))
       case measure=>have:=HMJ.out;omega
       case rel =>
         refine⟨j+1,by go_num,by omega,rfl,fun k hk y hy=>?_,rfl⟩
         by_cases hkj:k=j
         . subst hkj;rw[List.getElem?_eq_getElem hlt',HX.out] at hy;injection hy with hy
           subst hy
           simpa using hxn
         . exact HNE.out k (by omega) y hy
     . go_wp2;go_ret;refine⟨true,rfl,⟨fun _=>?_,fun _=>rfl⟩,hW5⟩;have e:x=(L:Int):=(by simpa using hxn);have hm:(L:Int)∈l:=(by rw[←e,←HX.out];exact List.getElem_mem hlt');obtain⟨y,hy,hE⟩:=(HLS.out.2 _).1 hm;have:L=y:=by omega
       exact this▸hE
   . go_wp2;go_ret;refine⟨false,rfl,⟨fun h=>(by cases h),fun hE=>?_⟩,hW5⟩;have hm:(L:Int)∈l:=(HLS.out.2 _).2 ⟨L,rfl,hE⟩;obtain⟨k,hk,e⟩:=List.getElem_of_mem hm;exact absurd rfl (HNE.out k (by rw[HM.out] at hk;omega) (L:Int) (by rw[List.getElem?_eq_getElem hk,e]))
end
section
attribute [local go_sem ↓] Go.wp_at_zero Go.wp_at_succ
def RetDoc15 (w:World) (K:Int) (r:Except (Int×Int) (List (T×Bool))) (e:Ending) (w':World):Prop:=match r with
 | .ok l=>(∃ A c,e = .returned (.tuple #[.slice A l.length c,.int .i64 K,.int .i64 0,.int .i64 0])∧RdRules w' A l)∧Below w.heap.size w w'
 | .error (n,k)=>e = .returned (.tuple #[.slice none 0 0,.int .i64 0,.int .i64 n,.int .i64 k])∧Below w.heap.size w w'
theorem zlk {α:Type} (l:List α) (k:Nat) (x:α) (h:l[k]?=some x):l.drop k=x::l.drop (k+1):=by
 obtain⟨hl,e⟩:=List.getElem?_eq_some_iff.1 h;rw[List.drop_eq_getElem_cons hl,e]
theorem zkp {w w':World} {ops:Array Oper} {o:Oper} {a:Act} {K:Act->World->Prop} {Q:Exit->Act->World->Prop} {E:Prop} {v u v':Value} {t:TypeId} (hgd:o.guard=none) (s x:Operand) (ho:o.op = .call {callee := .builtin .append,args:=#[s,x],argTypes:=#[t,t]})
   (hs:a.eval s=v) (hx:a.eval x=u) (ty:TypeId) (hty:o.type=ty) (hr:(Builtin.append_ #[t,t] ty #[v,u]).run Tryz.prog w = .ok v' w') (hk:K (a.put o.dst v') w'):if Region.wanted o (yielded ops a.tmps)=true then Oper.wp Tryz.prog o a w K Q else E:=by
 have hw:Region.wanted o (yielded ops a.tmps)=true:=(by simp[Region.wanted,hgd]);rw[if_pos hw];subst hty;unfold Oper.wp;simp[execOp,ho,resolve,invoke,builtin,hs,hx,hr,Result.andThen];exact hk
theorem zs3 {c:Cf} (h:¬ cfOk c=true):c.lam<1∨(¬ c.lam<1∧32<c.lam)∨(¬ c.lam<1∧¬ 32<c.lam∧rateOk c.rate=false)∨(¬ c.lam<1∧¬ 32<c.lam∧rateOk c.rate=true∧c.q<(rateN c.rate:Int))∨
   (¬ c.lam<1∧¬ 32<c.lam∧rateOk c.rate=true∧¬ c.q<(rateN c.rate:Int)∧1024<c.q)∨(¬ c.lam<1∧¬ 32<c.lam∧rateOk c.rate=true∧¬ c.q<(rateN c.rate:Int)∧¬ 1024<c.q∧c.cap<1)∨
   (¬ c.lam<1∧¬ 32<c.lam∧rateOk c.rate=true∧¬ c.q<(rateN c.rate:Int)∧¬ 1024<c.q∧¬ c.cap<1∧1000<c.cap):=by
 unfold cfOk at h;simp only[Bool.and_eq_true,decide_eq_true_eq] at h;cases hr:rateOk c.rate
 . by_cases h1:c.lam<1
   . exact .inl h1
   . by_cases h2:32<c.lam
     . exact .inr (.inl ⟨h1,h2⟩)
     . exact .inr (.inr (.inl ⟨h1,h2,rfl⟩))
 . rw[hr] at h
   by_cases h1:c.lam<1
   . exact .inl h1
   by_cases h2:32<c.lam
   . exact .inr (.inl ⟨h1,h2⟩)
   by_cases h4:c.q<(rateN c.rate:Int)
   . exact .inr (.inr (.inr (.inl ⟨h1,h2,rfl,h4⟩)))
   by_cases h5:1024<c.q
   . exact .inr (.inr (.inr (.inr (.inl ⟨h1,h2,rfl,h4,h5⟩))))
   by_cases h6:c.cap<1
   . exact .inr (.inr (.inr (.inr (.inr (.inl ⟨h1,h2,rfl,h4,h5,h6⟩)))))
   by_cases h7:1000<c.cap
   . exact .inr (.inr (.inr (.inr (.inr (.inr ⟨h1,h2,rfl,h4,h5,h6,h7⟩)))))
   exact absurd ⟨⟨by omega,by omega⟩,rfl,⟨by omega,by omega⟩,by omega,by omega⟩ h
theorem zq5 {c:Cf} (h:cfOk c=true):¬ c.lam<1∧¬ 32<c.lam∧rateOk c.rate=true∧¬ c.q<(rateN c.rate:Int)∧¬ 1024<c.q∧¬ c.cap<1∧¬ 1000<c.cap:=by
 unfold cfOk at h;simp only[Bool.and_eq_true,decide_eq_true_eq] at h;obtain⟨a,b,d,e⟩:=h;exact⟨by omega,by omega,b,by omega,by omega,by omega,by omega⟩
set_option maxRecDepth 20000 in
set_option maxHeartbeats 4000000 in
theorem zo0 (c:Cf) (hr:c.rate<18446744073709551616) (s:ByteArray) (w:World) (hk:¬ cfOk c=true):
   Calls Tryz.prog 7 #[.string s,.agg #[.int .i64 c.lam,.int .i64 c.q,.int .i64 c.cap,.int .u64 (c.rate:Int),.int .u8 (c.mask:Int)]] w (RetDoc15 w (rateN c.rate:Int) (.error (1,-1))):=by
 have HR:=Zh (fun W=>znz c.rate hr W);unfold drateV at HR;have hn:=zs3 hk;generalize (rateN c.rate:Int)=K at *;have hb:Below w.heap.size w (w.alloc (.cells #[.int .i64 c.lam,.int .i64 c.q,.int .i64 c.cap,.int .u64 (c.rate:Int),.int .u8 (c.mask:Int)] 24)):=(Below.refl _ _).alloc (Nat.le_refl _) _;have HBB:=Zh hb;clear hk hr hb;rcases hn with h1|⟨h1,h2⟩|⟨h1,h2,h3⟩|⟨h1,h2,h3,h4⟩|⟨h1,h2,h3,h4,h5⟩|⟨h1,h2,h3,h4,h5,h6⟩|⟨h1,h2,h3,h4,h5,h6,h7⟩
 all_goals
   try rw[h3] at HR
   try simp only[Bool.false_eq_true,if_false,if_true] at HR
   try clear h3
   go_enter Tryz.func7,Tryz.ntmps7;go_wp2_with (go_at_call 20;(with_reducible refine (HR.out _).mono ?_);rintro e w1 ⟨rfl,rfl⟩);refine bodyPost_ret (v := .tuple #[.slice none 0 0,.int .i64 0,.int .i64 1,.int .i64 (-1)]) ?_ rfl ⟨rfl,HBB.out⟩;simp[results,Tryz.results7,go_sem]
set_option maxRecDepth 20000 in
set_option maxHeartbeats 4000000 in
theorem zq3 (c:Cf) (hr:c.rate<18446744073709551616) (hmk:c.mask<=255) (s:ByteArray) (hs:s.size<=100000) (w:World):
   Calls Tryz.prog 7 #[.string s,.agg #[.int .i64 c.lam,.int .i64 c.q,.int .i64 c.cap,.int .u64 (c.rate:Int),.int .u8 (c.mask:Int)]] w (RetDoc15 w (rateN c.rate:Int) (checkR s c)):=by
 by_cases hk:cfOk c=true
 case neg =>
   unfold checkR;rw[if_neg hk];exact zo0 c hr s w hk
 have HR:=Zh (fun W=>znz c.rate hr W);unfold drateV at HR;obtain⟨h1,h2,h3,h4,h5,h6,h7⟩:=zq5 hk;rw[h3] at HR;simp only[if_true] at HR;have HBX:=Zh (heap_alloc_new w (.cells #[.int .i64 c.lam,.int .i64 c.q,.int .i64 c.cap,.int .u64 (c.rate:Int),.int .u8 (c.mask:Int)] 24));have HBB:=Zh (show Below w.heap.size w (w.alloc (.cells #[.int .i64 c.lam,.int .i64 c.q,.int .i64 c.cap,.int .u64 (c.rate:Int),.int .u8 (c.mask:Int)] 24)) from (Below.refl _ _).alloc (Nat.le_refl _) _);have HP:=Zh (fun W=>zq0 W s hs);have hm0:(0:Int)<=(c.mask:Int):=(by omega);have hm1:(c.mask:Int)<=255:=(by omega);unfold checkR;rw[if_pos hk];generalize (rateN c.rate:Int)=K at *;clear hk hr hmk h3;cases hr:parseR s with
 | error x =>
   obtain⟨n,k⟩:=x;have hn0:¬ n=0:=zl0 hr;unfold RetRules14 at HP;simp only[hr] at HP;clear hr hs;go_enter Tryz.func7,Tryz.ntmps7;go_wp2_with (first
     | (go_at_call 20;(with_reducible refine (HR.out _).mono ?_);rintro e w1 ⟨rfl,rfl⟩)
     | (go_at_call 21;(with_reducible refine (HP.out _).mono ?_);rintro e w2 ⟨rfl,hb2⟩;have HB2:=Zh hb2;clear hb2))
   refine bodyPost_ret (v := .tuple #[.slice none 0 0,.int .i64 0,.int .i64 n,.int .i64 (k:Int)]) ?_ rfl ⟨rfl,gro HBB.out HB2.out⟩;simp[results,Tryz.results7,go_sem]
 | ok l =>
   have hl8:=zcv hr;have hsz:=zep hr;unfold RetRules14 at HP;simp only[hr] at HP;have HSZ:Hid (∀ x∈l,x.pat.size<=9223372036854775807):=Zh fun x hx=>by have:=hsz x hx;omega
   clear hr hsz hs;obtain⟨N,hN⟩:∃ N,l.length=N:=⟨_,rfl⟩;rw[hN] at HP hl8;have HN:=Zh hN;clear hN;obtain⟨R,hR⟩:∃ R,checkL c.lam c.mask l 0 []=R:=⟨_,rfl⟩;change Calls _ _ _ _ (RetDoc15 w K (checkL c.lam c.mask l 0 []));rw[hR];have HR0:Hid (R=checkL c.lam c.mask (l.drop 0) 0 []):=Zh (by rw[←hR];rfl);clear hR;go_enter Tryz.func7,Tryz.ntmps7;go_wp2_with (first
     | (go_at_call 20;(with_reducible refine (HR.out _).mono ?_);rintro e w1 ⟨rfl,rfl⟩)
     | (go_at_call 21;(with_reducible refine (HP.out _).mono ?_);rintro e w2 ⟨⟨A,cp,rfl,hrd⟩,hb2⟩;have HB2:=Zh hb2;have HRD:=Zh hrd;clear hb2 hrd))
   have HX2:=Zh ((HB2.out.block w.heap.size (by simp)).trans HBX.out);have HW2:=Zh (gro HBB.out HB2.out);go_loopg [13,14] N (fun mm v i wr=>∃ (k:Nat) (acc:List (T×Bool)),i = .int .i64 (k:Int)∧k<=N∧mm=N-k∧acc.length=k∧RuleRow 44 wr w2.heap.size v acc∧Below w2.heap.size w2 wr∧R=checkL c.lam c.mask (l.drop k) k acc)
   case atStart=>exact⟨0,[],rfl,Nat.zero_le _,rfl,rfl,RuleRow.nil _ _ _,Below.refl _ _,HR0.out⟩
   case round =>
     obtain⟨k,acc,rfl,hk,hmk2,hacc,hv,hbw,hq⟩:=hrel;have HMM:=Zh hmk2;have HACC:=Zh hacc;have HBW:=Zh hbw;have HQ:=Zh hq;have HXR:=Zh ((hbw.block w.heap.size (za0 HX2.out)).trans HX2.out);have HWR:=Zh (gro HW2.out hbw);obtain⟨Av,cv,hvf,hvc⟩:=hv.form;rw[hacc] at hvf hvc;subst hvf;have HV:=Zh hv;have HVC:=Zh hvc;clear hmk2 hacc hv hbw hq hvc
     by_cases hkN:k<N
     . have hkN':(k:Int)<(N:Int):=(by omega);have hk0:(0:Int)<=(k:Int):=(by omega);obtain⟨x,hx⟩:∃ x,l[k]?=some x:=⟨_,List.getElem?_eq_getElem (by rw[HN.out];exact hkN)⟩;obtain⟨g,off,e0,hg,c0,c1,c2⟩:=(HRD.out.stays HBW.out) k x hx;subst e0;have HQ1:Hid (R=checkL c.lam c.mask (x::l.drop (k+1)) k acc):=Zh (by rw[HQ.out,zlk l k x hx]);have HC2:=Zh c2;have hpa:=zp0 wr x.pat (HSZ.out x (List.mem_of_getElem? hx));unfold RetParse at hpa;clear hx c0 c2;cases hp:parse x.pat with
       | error y =>
         obtain⟨n,a⟩:=y;have HE:Hid (R = .error (n,(k:Int))):=Zh (by rw[HQ1.out,checkL];unfold readP;rw[hp]);simp only[hp] at hpa;have HPA:=Zh hpa;clear hpa hp;go_wp2_with (go_at_call 22;(with_reducible refine HPA.out.mono ?_);rintro e w3 ⟨t',kk,bad,at',rfl,ht,hb3,hm⟩;obtain⟨rfl,rfl,rfl,rfl,hn0⟩:=hm;have HB3:=Zh hb3;unfold nodeV;clear ht hb3);refine bodyPost_ret (v := .tuple #[.slice none 0 0,.int .i64 0,.int .i64 bad,.int .i64 (k:Int)]) ?_ rfl ?_
         . simp[results,Tryz.results7,go_sem]
         . rw[HE.out];exact⟨rfl,(gro HWR.out HB3.out).alloc (Nat.le_trans HWR.out.size HB3.out.size) _⟩
       | ok t =>
         simp only[hp] at hpa;have hwf:=zgb hp;have HPA:=Zh hpa;have hcase:lenN false t=0∨(¬ lenN false t=0∧c.lam<(lenN true t:Int))∨(¬ lenN false t=0∧¬ c.lam<(lenN true t:Int)∧anyP t c.mask=true)∨(¬ lenN false t=0∧¬ c.lam<(lenN true t:Int)∧anyP t c.mask=false):=by
           by_cases h0:lenN false t=0
           . exact .inl h0
           . by_cases h1:c.lam<(lenN true t:Int)
             . exact .inr (.inl ⟨h0,h1⟩)
             . cases h2:anyP t c.mask
               . exact .inr (.inr (.inr ⟨h0,h1,rfl⟩))
               . exact .inr (.inr (.inl ⟨h0,h1,rfl⟩))
         clear hpa;rcases hcase with g0|⟨g0,g1⟩|⟨g0,g1,g2⟩|⟨g0,g1,g2⟩
         . have HE:Hid (R = .error (5,(k:Int))):=Zh (by rw[HQ1.out,checkL];unfold readP;rw[hp];simp only[g0,if_true]);clear hp;go_upto_region 14 with (go_at_call 22;(with_reducible refine HPA.out.mono ?_);rintro e w3 ⟨t',kk,bad,at',rfl,ht,hb3,hm⟩;obtain⟨e1,rfl,rfl⟩:=hm;have e1':=e1.symm;clear e1;subst e1';obtain⟨A5,n5,c5,rfl⟩:=ht.form;have HT3:=Zh ht;have HB3:=Zh hb3;unfold nodeV;clear ht hb3)
           generalize hw4:w3.alloc (.cells #[.int .i64 t.op,.int .u64 (word t.set 0),.int .u64 (word t.set 1),.int .u64 (word t.set 2),.int .u64 (word t.set 3),.int .i64 t.lo,.int .i64 t.hi,.slice A5 n5 c5] 41)=w4 at *;have hb4:Below w3.heap.size w3 w4:=(by rw[←hw4];exact (Below.refl _ _).alloc (Nat.le_refl _) _);have hn4:Box8 w4 w3.heap.size t (.slice A5 n5 c5):=(by rw[←hw4];exact Box8.new _ _ _);have hB4:Below wr.heap.size wr w4:=gro HB3.out hb4;have hX4:=(hB4.block w.heap.size (za0 HXR.out)).trans HXR.out;have HT4:=Zh (HT3.out.stays hb4);have HN4:=Zh hn4;have HB4:=Zh hB4;have HX4:=Zh hX4;have HWORD:=Zh (fun W (hb:Below w4.heap.size w4 W)=>(ziz (w:=W) (c:=0) (xs:=[]) (A:=none) ⟨hwf,HT4.out.stays hb,(fun k hk=>absurd hk (Nat.not_lt_zero _)),(fun k hk=>absurd hk (Nat.not_lt_zero _)),Nat.zero_le _,Nat.zero_le _⟩).mono fun e w' h=>(show e = .returned (.bool (decide (lenN false t=0)))∧Below W.heap.size W w' from by
             obtain⟨b,rfl,hb,h2⟩:=h;refine⟨?_,h2⟩;have hb':b=true↔lenN false t=0:=hb.trans (zbk hwf 0 (Nat.zero_le _))
             by_cases hz:lenN false t=0
             . rw[decide_eq_true hz,hb'.2 hz]
             . rw[decide_eq_false hz];cases b
               . rfl
               . exact absurd (hb'.1 rfl) hz))
           have HMOST:=Zh (fun W (hb:Below w4.heap.size w4 W)=>(zea true W hwf (HT4.out.stays hb)).mono fun e w' h=>(show e = .returned (.int .i64 (lenN true t))∧Below W.heap.size W w' from h));have HANY:=Zh (fun W (hb:Below w4.heap.size w4 W)=>(zee W hwf (HT4.out.stays hb)).mono fun e w' h=>(show e = .returned (setV (anyP t))∧Below W.heap.size W w' from h));have HMSK:=Zh (fun W=>(zcq (anyP t) (c.mask:Int) W hm0 hm1));unfold nodeP at HWORD HMOST HANY;simp only[List.length_nil] at HWORD;unfold setV at HANY;rw[Int.toNat_natCast] at HMSK;obtain⟨n0,n1,n2,n3,n4,n5',n6,n7⟩:=hn4.cell;clear hw4 hb4 hn4 hB4 hX4;rw[decide_eq_true g0] at HWORD;clear g0;go_wp2_with (go_at_call 23;(with_reducible refine (HWORD.out _ (Below.refl _ _)).mono ?_);rintro e w5 ⟨rfl,hb5⟩;have HB5:=Zh hb5;have HN5:=Zh (HN4.out.stays hb5);have HX5:=Zh ((hb5.block w.heap.size (za0 HX4.out)).trans HX4.out);clear hb5);refine bodyPost_ret (v := .tuple #[.slice none 0 0,.int .i64 0,.int .i64 5,.int .i64 (k:Int)]) ?_ rfl ?_
           . simp[results,Tryz.results7,go_sem]
           . rw[HE.out];exact⟨rfl,gro (gro HWR.out HB4.out) HB5.out⟩
         . have HE:Hid (R = .error (6,(k:Int))):=Zh (by rw[HQ1.out,checkL];unfold readP;rw[hp];simp only[g0,g1,if_true,if_false]);clear hp;go_upto_region 14 with (go_at_call 22;(with_reducible refine HPA.out.mono ?_);rintro e w3 ⟨t',kk,bad,at',rfl,ht,hb3,hm⟩;obtain⟨e1,rfl,rfl⟩:=hm;have e1':=e1.symm;clear e1;subst e1';obtain⟨A5,n5,c5,rfl⟩:=ht.form;have HT3:=Zh ht;have HB3:=Zh hb3;unfold nodeV;clear ht hb3)
           generalize hw4:w3.alloc (.cells #[.int .i64 t.op,.int .u64 (word t.set 0),.int .u64 (word t.set 1),.int .u64 (word t.set 2),.int .u64 (word t.set 3),.int .i64 t.lo,.int .i64 t.hi,.slice A5 n5 c5] 41)=w4 at *;have hb4:Below w3.heap.size w3 w4:=(by rw[←hw4];exact (Below.refl _ _).alloc (Nat.le_refl _) _);have hn4:Box8 w4 w3.heap.size t (.slice A5 n5 c5):=(by rw[←hw4];exact Box8.new _ _ _);have hB4:Below wr.heap.size wr w4:=gro HB3.out hb4;have hX4:=(hB4.block w.heap.size (za0 HXR.out)).trans HXR.out;have HT4:=Zh (HT3.out.stays hb4);have HN4:=Zh hn4;have HB4:=Zh hB4;have HX4:=Zh hX4;have HWORD:=Zh (fun W (hb:Below w4.heap.size w4 W)=>(ziz (w:=W) (c:=0) (xs:=[]) (A:=none) ⟨hwf,HT4.out.stays hb,(fun k hk=>absurd hk (Nat.not_lt_zero _)),(fun k hk=>absurd hk (Nat.not_lt_zero _)),Nat.zero_le _,Nat.zero_le _⟩).mono fun e w' h=>(show e = .returned (.bool (decide (lenN false t=0)))∧Below W.heap.size W w' from by
             obtain⟨b,rfl,hb,h2⟩:=h;refine⟨?_,h2⟩;have hb':b=true↔lenN false t=0:=hb.trans (zbk hwf 0 (Nat.zero_le _))
             by_cases hz:lenN false t=0
             . rw[decide_eq_true hz,hb'.2 hz]
             . rw[decide_eq_false hz];cases b
               . rfl
               . exact absurd (hb'.1 rfl) hz))
           have HMOST:=Zh (fun W (hb:Below w4.heap.size w4 W)=>(zea true W hwf (HT4.out.stays hb)).mono fun e w' h=>(show e = .returned (.int .i64 (lenN true t))∧Below W.heap.size W w' from h));have HANY:=Zh (fun W (hb:Below w4.heap.size w4 W)=>(zee W hwf (HT4.out.stays hb)).mono fun e w' h=>(show e = .returned (setV (anyP t))∧Below W.heap.size W w' from h));have HMSK:=Zh (fun W=>(zcq (anyP t) (c.mask:Int) W hm0 hm1));unfold nodeP at HWORD HMOST HANY;simp only[List.length_nil] at HWORD;unfold setV at HANY;rw[Int.toNat_natCast] at HMSK;obtain⟨n0,n1,n2,n3,n4,n5',n6,n7⟩:=hn4.cell;clear hw4 hb4 hn4 hB4 hX4;rw[decide_eq_false g0] at HWORD;clear g0;go_upto_region 19 with (go_at_call 23;(with_reducible refine (HWORD.out _ (Below.refl _ _)).mono ?_);rintro e w5 ⟨rfl,hb5⟩;have HB5:=Zh hb5;have HN5:=Zh (HN4.out.stays hb5);have HX5:=Zh ((hb5.block w.heap.size (za0 HX4.out)).trans HX4.out);clear hb5)
           obtain⟨n0,n1,n2,n3,n4,n5',n6,n7⟩:=HN5.out.cell;have x0:w5.cell? ⟨w.heap.size,0,none⟩=some (.int .i64 c.lam):=cell_of_row w5 _ 0 _ 24 (0,0) HX5.out;generalize (lenN true t:Int)=M at *;go_region_law (first
             | (go_simp;go_at_call 24;(with_reducible refine (HMOST.out _ (by first | exact HB5.out | exact HB5.out.drew)).mono ?_);rintro e w6 ⟨rfl,hb6⟩;have hb6':Below w5.heap.size w5 w6:=(by first | exact zaf hb6 | exact hb6);have HB6:=Zh hb6';have HN6:=Zh (HN5.out.stays hb6');have HX6:=Zh ((hb6'.block w.heap.size (za0 HX5.out)).trans HX5.out);have x6:w6.cell? ⟨w.heap.size,0,none⟩=some (.int .i64 c.lam):=cell_of_row w6 _ 0 _ 24 (0,0) HX6.out;clear hb6 hb6')
             | fail)
           all_goals
             go_wp2;refine bodyPost_ret (v := .tuple #[.slice none 0 0,.int .i64 0,.int .i64 6,.int .i64 (k:Int)]) ?_ rfl ?_
             . simp[results,Tryz.results7,go_sem]
             . rw[HE.out];exact⟨rfl,gro (gro (gro HWR.out HB4.out) HB5.out) HB6.out⟩
         . have HE:Hid (R = .error (7,(k:Int))):=Zh (by rw[HQ1.out,checkL];unfold readP;rw[hp];simp only[g0,g1,g2,if_true,if_false]);clear hp;go_upto_region 14 with (go_at_call 22;(with_reducible refine HPA.out.mono ?_);rintro e w3 ⟨t',kk,bad,at',rfl,ht,hb3,hm⟩;obtain⟨e1,rfl,rfl⟩:=hm;have e1':=e1.symm;clear e1;subst e1';obtain⟨A5,n5,c5,rfl⟩:=ht.form;have HT3:=Zh ht;have HB3:=Zh hb3;unfold nodeV;clear ht hb3)
           generalize hw4:w3.alloc (.cells #[.int .i64 t.op,.int .u64 (word t.set 0),.int .u64 (word t.set 1),.int .u64 (word t.set 2),.int .u64 (word t.set 3),.int .i64 t.lo,.int .i64 t.hi,.slice A5 n5 c5] 41)=w4 at *;have hb4:Below w3.heap.size w3 w4:=(by rw[←hw4];exact (Below.refl _ _).alloc (Nat.le_refl _) _);have hn4:Box8 w4 w3.heap.size t (.slice A5 n5 c5):=(by rw[←hw4];exact Box8.new _ _ _);have hB4:Below wr.heap.size wr w4:=gro HB3.out hb4;have hX4:=(hB4.block w.heap.size (za0 HXR.out)).trans HXR.out;have HT4:=Zh (HT3.out.stays hb4);have HN4:=Zh hn4;have HB4:=Zh hB4;have HX4:=Zh hX4;have HWORD:=Zh (fun W (hb:Below w4.heap.size w4 W)=>(ziz (w:=W) (c:=0) (xs:=[]) (A:=none) ⟨hwf,HT4.out.stays hb,(fun k hk=>absurd hk (Nat.not_lt_zero _)),(fun k hk=>absurd hk (Nat.not_lt_zero _)),Nat.zero_le _,Nat.zero_le _⟩).mono fun e w' h=>(show e = .returned (.bool (decide (lenN false t=0)))∧Below W.heap.size W w' from by
             obtain⟨b,rfl,hb,h2⟩:=h;refine⟨?_,h2⟩;have hb':b=true↔lenN false t=0:=hb.trans (zbk hwf 0 (Nat.zero_le _))
             by_cases hz:lenN false t=0
             . rw[decide_eq_true hz,hb'.2 hz]
             . rw[decide_eq_false hz];cases b
               . rfl
               . exact absurd (hb'.1 rfl) hz))
           have HMOST:=Zh (fun W (hb:Below w4.heap.size w4 W)=>(zea true W hwf (HT4.out.stays hb)).mono fun e w' h=>(show e = .returned (.int .i64 (lenN true t))∧Below W.heap.size W w' from h));have HANY:=Zh (fun W (hb:Below w4.heap.size w4 W)=>(zee W hwf (HT4.out.stays hb)).mono fun e w' h=>(show e = .returned (setV (anyP t))∧Below W.heap.size W w' from h));have HMSK:=Zh (fun W=>(zcq (anyP t) (c.mask:Int) W hm0 hm1));unfold nodeP at HWORD HMOST HANY;simp only[List.length_nil] at HWORD;unfold setV at HANY;rw[Int.toNat_natCast] at HMSK;obtain⟨n0,n1,n2,n3,n4,n5',n6,n7⟩:=hn4.cell;clear hw4 hb4 hn4 hB4 hX4;rw[decide_eq_false g0] at HWORD;rw[g2] at HMSK;clear g0 g2;go_upto_region 19 with (go_at_call 23;(with_reducible refine (HWORD.out _ (Below.refl _ _)).mono ?_);rintro e w5 ⟨rfl,hb5⟩;have HB5:=Zh hb5;have HN5:=Zh (HN4.out.stays hb5);have HX5:=Zh ((hb5.block w.heap.size (za0 HX4.out)).trans HX4.out);clear hb5)
           obtain⟨n0,n1,n2,n3,n4,n5',n6,n7⟩:=HN5.out.cell;have x0:w5.cell? ⟨w.heap.size,0,none⟩=some (.int .i64 c.lam):=cell_of_row w5 _ 0 _ 24 (0,0) HX5.out;generalize (lenN true t:Int)=M at *;go_region_law (first
             | (go_simp;go_at_call 24;(with_reducible refine (HMOST.out _ (by first | exact HB5.out | exact HB5.out.drew)).mono ?_);rintro e w6 ⟨rfl,hb6⟩;have hb6':Below w5.heap.size w5 w6:=(by first | exact zaf hb6 | exact hb6);have HB6:=Zh hb6';have HN6:=Zh (HN5.out.stays hb6');have HX6:=Zh ((hb6'.block w.heap.size (za0 HX5.out)).trans HX5.out);have x6:w6.cell? ⟨w.heap.size,0,none⟩=some (.int .i64 c.lam):=cell_of_row w6 _ 0 _ 24 (0,0) HX6.out;clear hb6 hb6')
             | fail)
           all_goals
             obtain⟨n0,n1,n2,n3,n4,n5',n6,n7⟩:=HN6.out.cell;have x6:w6.cell? ⟨w.heap.size,4,none⟩=some (.int .u8 (c.mask:Int)):=cell_of_row w6 _ 4 _ 24 (0,0) HX6.out;go_upto_region 21 with fail
             go_region_law (first
               | (go_simp;go_at_call 26;(with_reducible refine (HANY.out _ (by first | exact gro HB5.out HB6.out | exact (gro HB5.out HB6.out).drew)).mono ?_);rintro e w7 ⟨rfl,hb7⟩;have hb7':Below w6.heap.size w6 w7:=(by first | exact zaf hb7 | exact hb7);have HB7:=Zh hb7';have HN7:=Zh (HN6.out.stays hb7');have HX7:=Zh ((hb7'.block w.heap.size (za0 HX6.out)).trans HX6.out);have x7:w7.cell? ⟨w.heap.size,4,none⟩=some (.int .u8 (c.mask:Int)):=cell_of_row w7 _ 4 _ 24 (0,0) HX7.out;clear hb7 hb7')
               | (go_simp;go_at_call 25;(with_reducible refine (HMSK.out _).mono ?_);rintro e w8 ⟨rfl,hb8⟩;have hb8':Below w7.heap.size w7 w8:=(by first | exact zaf hb8 | exact hb8);have HB8:=Zh hb8';have HN8:=Zh (HN7.out.stays hb8');clear hb8 hb8')
               | fail)
             all_goals
               go_wp2;refine bodyPost_ret (v := .tuple #[.slice none 0 0,.int .i64 0,.int .i64 7,.int .i64 (k:Int)]) ?_ rfl ?_
               . simp[results,Tryz.results7,go_sem]
               . rw[HE.out];exact⟨rfl,gro (gro (gro (gro (gro HWR.out HB4.out) HB5.out) HB6.out) HB7.out) HB8.out⟩
         . have HE:Hid (R=checkL c.lam c.mask (l.drop (k+1)) (k+1) (acc++[(t,x.luhn)])):=Zh (by rw[HQ1.out,checkL];unfold readP;rw[hp];simp only[g0,g1,g2,if_true,if_false];simp);clear hp;go_upto_region 14 with (go_at_call 22;(with_reducible refine HPA.out.mono ?_);rintro e w3 ⟨t',kk,bad,at',rfl,ht,hb3,hm⟩;obtain⟨e1,rfl,rfl⟩:=hm;have e1':=e1.symm;clear e1;subst e1';obtain⟨A5,n5,c5,rfl⟩:=ht.form;have HT3:=Zh ht;have HB3:=Zh hb3;unfold nodeV;clear ht hb3)
           generalize hw4:w3.alloc (.cells #[.int .i64 t.op,.int .u64 (word t.set 0),.int .u64 (word t.set 1),.int .u64 (word t.set 2),.int .u64 (word t.set 3),.int .i64 t.lo,.int .i64 t.hi,.slice A5 n5 c5] 41)=w4 at *;have hb4:Below w3.heap.size w3 w4:=(by rw[←hw4];exact (Below.refl _ _).alloc (Nat.le_refl _) _);have hn4:Box8 w4 w3.heap.size t (.slice A5 n5 c5):=(by rw[←hw4];exact Box8.new _ _ _);have hB4:Below wr.heap.size wr w4:=gro HB3.out hb4;have hX4:=(hB4.block w.heap.size (za0 HXR.out)).trans HXR.out;have HT4:=Zh (HT3.out.stays hb4);have HN4:=Zh hn4;have HB4:=Zh hB4;have HX4:=Zh hX4;have HWORD:=Zh (fun W (hb:Below w4.heap.size w4 W)=>(ziz (w:=W) (c:=0) (xs:=[]) (A:=none) ⟨hwf,HT4.out.stays hb,(fun k hk=>absurd hk (Nat.not_lt_zero _)),(fun k hk=>absurd hk (Nat.not_lt_zero _)),Nat.zero_le _,Nat.zero_le _⟩).mono fun e w' h=>(show e = .returned (.bool (decide (lenN false t=0)))∧Below W.heap.size W w' from by
             obtain⟨b,rfl,hb,h2⟩:=h;refine⟨?_,h2⟩;have hb':b=true↔lenN false t=0:=hb.trans (zbk hwf 0 (Nat.zero_le _))
             by_cases hz:lenN false t=0
             . rw[decide_eq_true hz,hb'.2 hz]
             . rw[decide_eq_false hz];cases b
               . rfl
               . exact absurd (hb'.1 rfl) hz))
           have HMOST:=Zh (fun W (hb:Below w4.heap.size w4 W)=>(zea true W hwf (HT4.out.stays hb)).mono fun e w' h=>(show e = .returned (.int .i64 (lenN true t))∧Below W.heap.size W w' from h));have HANY:=Zh (fun W (hb:Below w4.heap.size w4 W)=>(zee W hwf (HT4.out.stays hb)).mono fun e w' h=>(show e = .returned (setV (anyP t))∧Below W.heap.size W w' from h));have HMSK:=Zh (fun W=>(zcq (anyP t) (c.mask:Int) W hm0 hm1));unfold nodeP at HWORD HMOST HANY;simp only[List.length_nil] at HWORD;unfold setV at HANY;rw[Int.toNat_natCast] at HMSK;obtain⟨n0,n1,n2,n3,n4,n5',n6,n7⟩:=hn4.cell;clear hw4 hb4 hn4 hB4 hX4;rw[decide_eq_false g0] at HWORD;rw[g2] at HMSK;clear g0 g2;go_upto_region 19 with (go_at_call 23;(with_reducible refine (HWORD.out _ (Below.refl _ _)).mono ?_);rintro e w5 ⟨rfl,hb5⟩;have HB5:=Zh hb5;have HN5:=Zh (HN4.out.stays hb5);have HX5:=Zh ((hb5.block w.heap.size (za0 HX4.out)).trans HX4.out);clear hb5)
           obtain⟨n0,n1,n2,n3,n4,n5',n6,n7⟩:=HN5.out.cell;have x0:w5.cell? ⟨w.heap.size,0,none⟩=some (.int .i64 c.lam):=cell_of_row w5 _ 0 _ 24 (0,0) HX5.out;generalize (lenN true t:Int)=M at *;go_region_law (first
             | (go_simp;go_at_call 24;(with_reducible refine (HMOST.out _ (by first | exact HB5.out | exact HB5.out.drew)).mono ?_);rintro e w6 ⟨rfl,hb6⟩;have hb6':Below w5.heap.size w5 w6:=(by first | exact zaf hb6 | exact hb6);have HB6:=Zh hb6';have HN6:=Zh (HN5.out.stays hb6');have HX6:=Zh ((hb6'.block w.heap.size (za0 HX5.out)).trans HX5.out);have x6:w6.cell? ⟨w.heap.size,0,none⟩=some (.int .i64 c.lam):=cell_of_row w6 _ 0 _ 24 (0,0) HX6.out;clear hb6 hb6')
             | fail)
           all_goals
             obtain⟨n0,n1,n2,n3,n4,n5',n6,n7⟩:=HN6.out.cell;have x6:w6.cell? ⟨w.heap.size,4,none⟩=some (.int .u8 (c.mask:Int)):=cell_of_row w6 _ 4 _ 24 (0,0) HX6.out;go_upto_region 21 with fail
             go_region_law (first
               | (go_simp;go_at_call 26;(with_reducible refine (HANY.out _ (by first | exact gro HB5.out HB6.out | exact (gro HB5.out HB6.out).drew)).mono ?_);rintro e w7 ⟨rfl,hb7⟩;have hb7':Below w6.heap.size w6 w7:=(by first | exact zaf hb7 | exact hb7);have HB7:=Zh hb7';have HN7:=Zh (HN6.out.stays hb7');have HX7:=Zh ((hb7'.block w.heap.size (za0 HX6.out)).trans HX6.out);have x7:w7.cell? ⟨w.heap.size,4,none⟩=some (.int .u8 (c.mask:Int)):=cell_of_row w7 _ 4 _ 24 (0,0) HX7.out;clear hb7 hb7')
               | (go_simp;go_at_call 25;(with_reducible refine (HMSK.out _).mono ?_);rintro e w8 ⟨rfl,hb8⟩;have hb8':Below w7.heap.size w7 w8:=(by first | exact zaf hb8 | exact hb8);have HB8:=Zh hb8';have HN8:=Zh (HN7.out.stays hb8');clear hb8 hb8')
               | fail)
             all_goals
               have hb8:Below wr.heap.size wr w8:=gro (gro (gro (gro HB4.out HB5.out) HB6.out) HB7.out) HB8.out;have HB9:=Zh hb8;have hv8:=HV.out.stays hb8;have HV8:=Zh hv8;have HT8:=Zh ((((HT4.out.stays HB5.out).stays HB6.out).stays HB7.out).stays HB8.out);obtain⟨n0,n1,n2,n3,n4,n5',n6,n7⟩:=HN8.out.cell;have c2:=za4 (za4 HC2.out (Below.refl _ _)) hb8;clear hb8 hv8;go_upto_region 24 with fail
               have hB8:Below w8.heap.size w8 (w8.alloc (.cells #[.int .i64 t.op,.int .u64 (word t.set 0),.int .u64 (word t.set 1),.int .u64 (word t.set 2),.int .u64 (word t.set 3),.int .i64 t.lo,.int .i64 t.hi,.slice A5 n5 c5,.bool x.luhn] 44)).drew:=((Below.refl _ _).alloc (Nat.le_refl _) _).drew;have hz8:=HB9.out.size;have hz2:=HBW.out.size;have hHB:w2.heap.size<=w8.heap.size:=(by omega);obtain⟨v9,w9,hr,hr9,hg9,_⟩:=zmm zra (w:=(w8.alloc (.cells #[.int .i64 t.op,.int .u64 (word t.set 0),.int .u64 (word t.set 1),.int .u64 (word t.set 2),.int .u64 (word t.set 3),.int .i64 t.lo,.int .i64 t.hi,.slice A5 n5 c5,.bool x.luhn] 44)).drew) (HV8.out.stays hB8) (Nat.le_trans hHB hB8.size) (by rw[HACC.out];omega) (t,x.luhn) (.slice A5 n5 c5) ((HT8.out.stays hB8).weak fun b hb _=>by omega) 31 ⟨w8.heap.size,0,none⟩ 1 (fun j u hu=>zoz (ty:=44) w8 (t,x.luhn) (.slice A5 n5 c5) j u hu);have HR9:=Zh hr9;have HB10:=Zh (Below.grown ((gro HBW.out HB9.out).trans (hB8.mono hHB)) hg9 (Nat.le_trans hHB hB8.size) fun b e=>(HV8.out.lt e).1);obtain⟨A9,c9,hv9,_⟩:=hr9.form;have hl9:(acc++[(t,x.luhn)]).length=k+1:=(by simp[HACC.out]);rw[hl9] at hv9;subst hv9;clear hB8 hz8 hz2 hHB hr9 hg9 hl9;go_region_law (first
                 | (refine zkp (by rfl) _ _ (by rfl) (by rfl) (by rfl) _ (by rfl) hr ?_)
                 | fail)
               all_goals
                 go_wp2;go_roundg (N-(k+1))
                 case measure=>have:=HMM.out;omega
                 case rel=>exact⟨k+1,acc++[(t,x.luhn)],by go_num,by omega,rfl,by simp[HACC.out],HR9.out,HB10.out,HE.out⟩
     . have hkn:k=N:=(by omega);have HL:Hid (R = .ok acc):=Zh (by
         have hd0:l.drop k=[]:=List.drop_eq_nil_of_le (by rw[HN.out];omega);rw[HQ.out,hd0,checkL])
       subst hkn;have hkn':¬ (k:Int)<(k:Int):=(by omega);go_wp2;refine bodyPost_ret (v := .tuple #[.slice Av k cv,.int .i64 K,.int .i64 0,.int .i64 0]) ?_ rfl ?_
       . simp[results,Tryz.results7,go_sem]
       . rw[HL.out];exact⟨⟨Av,cv,by rw[HACC.out],HV.out.rd rfl⟩,HWR.out⟩
end
end Go.Proofs.YtgbdanddbgomhaaGreatDoor
