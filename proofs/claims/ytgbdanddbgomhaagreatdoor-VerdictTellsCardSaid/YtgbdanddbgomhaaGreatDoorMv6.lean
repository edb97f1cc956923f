import Derived.Test.YtgbdanddbgomhaaGreatDoorMv3
import Derived.Test.YtgbdanddbgomhaaGreatDoorMv1
import Derived.Test.YtgbdanddbgomhaaGreatDoorMv2
set_option linter.unusedVariables false
set_option linter.unusedSimpArgs false
namespace Go.Proofs.YtgbdanddbgomhaaGreatDoor
open Go Go.RowKit
set_option maxHeartbeats 400000 in
theorem okb_p (w:World) (b:Nat) (hb:b<256):Calls Tryz.prog 85 #[.int .u8 (b:Int)] w fun e w'=>e = .returned (.bool (okB b))∧w'=w:=by
 have hi:∃ B:Int,B=(b:Int)∧okB b=(decide (97<=B∧B<=122)||decide (48<=B∧B<=57)||decide (B=45)||decide (B=95)):=⟨_,rfl,by unfold okB;congr 1;congr 1;congr 1 <;> (congr 1;apply propext;omega);all_goals (congr 1;apply propext;omega)⟩;obtain⟨B,hB,he⟩:=hi;rw[he,←hB];clear he hB hb;go_enter Tryz.func85,Tryz.ntmps85
 by_cases h1:97<=B <;> by_cases h2:B<=122 <;> by_cases h3:48<=B <;> by_cases h4:B<=57 <;> by_cases h5:B=45 <;> by_cases h6:B=95
 all_goals first
   | omega
   | (go_wp2
      go_ret;refine⟨?_,rfl⟩
      first
        | (simp[h1,h2,h3,h4,h5,h6];done)
        | (simp[h1,h2,h3,h4,h5,h6];rw[Bool.eq_iff_iff];simp;omega))
set_option maxHeartbeats 400000 in
theorem zfn (w:World) (s:ByteArray) (hs:s.size<=100000):Calls Tryz.prog 61 #[.string s] w fun e w'=>e = .returned (.string s)∧Below w.heap.size w w':=by
 have H:=Zh (zco s w (by omega));go_enter Tryz.func61,Tryz.ntmps61;go_wp2_with (go_at_call 86;(with_reducible refine H.out.mono ?_);rintro e w1 ⟨rfl,hb⟩);go_ret;exact⟨rfl,hb⟩
theorem zh4 (B c:Int):(((B==c)=true)∧B=c)∨(((B==c)=false)∧B≠c):=by
 by_cases h:B=c
 . exact .inl ⟨by simp[h],h⟩
 . exact .inr ⟨by simpa using h,h⟩
theorem zn8 (b:Nat):okB b=true↔(97<=b∧b<=122)∨(48<=b∧b<=57)∨b=45∨b=95:=by
 unfold okB;simp[or_assoc]
theorem znb (s:ByteArray) (k:Nat) (hk:k<s.size) (h:okB (bt s k)=false):nameOk s=false:=by
 cases hq:nameOk s with
 | false=>rfl
 | true=>exact absurd (((zbw s).1 hq).2 k hk) (by rw[h];simp)
set_option maxHeartbeats 1000000 in
theorem zpn (w:World) (s:ByteArray) (hs:s.size<=100000):Calls Tryz.prog 60 #[.string s] w fun e w'=>e = .returned (.bool (nameOk s))∧w'=w:=by
 by_cases h0:1<=s.size∧s.size<=16
 . have hN:=zbw s;obtain⟨N,hNs⟩:∃ N,s.size=N:=⟨_,rfl⟩;go_enter Tryz.func60,Tryz.ntmps60;go_wp2;go_loopg [14] N (fun mm i wr=>∃ k:Nat,i = .int .i64 (k:Int)∧k<=N∧mm=N-k∧(∀ j,j<k->okB (bt s j)=true)∧wr=w)
   case atStart=>exact⟨0,rfl,Nat.zero_le _,rfl,fun j h=>absurd h (Nat.not_lt_zero _),rfl⟩
   case round =>
     obtain⟨k,rfl,hk,hmk,hok,rfl⟩:=hrel;have HMK:=Zh hmk;clear hmk
     by_cases hkN:k<N
     . have hkN':(k:Int)<(N:Int):=(by omega);have hks:k<s.size:=(by omega);have hbe:(s[k]'hks).toNat=bt s k:=(zdw s k hks).symm;have HO:=Zh (okb_p wr (bt s k) (zhy s k))
       by_cases hb:okB (bt s k)=true
       . rw[hb] at HO;go_wp2_with (go_at_call 85;(with_reducible refine HO.out.mono ?_);rintro e w1 ⟨rfl,rfl⟩);go_roundg (N-(k+1))
         case measure=>have:=HMK.out;omega
         case rel=>exact⟨k+1,by go_num,by omega,rfl,fun j hj=>by rcases Nat.lt_succ_iff_lt_or_eq.1 hj with h' | rfl;exact hok j h';exact hb,rfl⟩
       . have hbf:okB (bt s k)=false:=(by simpa using hb);rw[hbf] at HO;go_wp2_with (go_at_call 85;(with_reducible refine HO.out.mono ?_);rintro e w1 ⟨rfl,rfl⟩);go_ret;refine⟨?_,rfl⟩;rw[show nameOk s=false from by
           cases hq:nameOk s with
           | false=>rfl
           | true=>exact absurd ((hN.1 hq).2 k hks) hb]
         rfl
     . have hkl:k=N:=(by omega);subst hkl;go_wp2;go_ret;refine⟨?_,rfl⟩;rw[show nameOk s=true from hN.2 ⟨h0,fun i hi=>hok i (by omega)⟩];rfl
 . have hN:nameOk s=false:=by
     cases hq:nameOk s with
     | false=>rfl
     | true=>exact absurd ((zbw s).1 hq).1 h0
   rw[hN];clear hN;obtain⟨N,hNs⟩:∃ N,s.size=N:=⟨_,rfl⟩;rw[hNs] at h0 hs
   by_cases h1:N<1
   . have h1':(N:Int)<1:=(by omega);go_enter Tryz.func60,Tryz.ntmps60;go_wp2;go_ret;exact⟨rfl,rfl⟩
   . have h1':¬ (N:Int)<1:=(by omega);have h2':(16:Int)<(N:Int):=(by omega);go_enter Tryz.func60,Tryz.ntmps60;go_wp2;go_ret;exact⟨rfl,rfl⟩
set_option maxHeartbeats 1000000 in
theorem zrm (w:World) (s:ByteArray) (hs:s.size<=100000):Calls Tryz.prog 70 #[.string s] w fun e w'=>e = .returned (.bool (nameOk s))∧w'=w:=by
 by_cases h0:1<=s.size∧s.size<=16
 . have hN:=zbw s;obtain⟨N,hNs⟩:∃ N,s.size=N:=⟨_,rfl⟩;go_enter Tryz.func70,Tryz.ntmps70;go_wp2;go_loopg [3] N (fun mm i wr=>∃ k:Nat,i = .int .i64 (k:Int)∧k<=N∧mm=N-k∧(∀ j,j<k->okB (bt s j)=true)∧wr=w)
   case atStart=>exact⟨0,rfl,Nat.zero_le _,rfl,fun j h=>absurd h (Nat.not_lt_zero _),rfl⟩
   case round =>
     obtain⟨k,rfl,hk,hmk,hok,rfl⟩:=hrel;have HMK:=Zh hmk;clear hmk
     by_cases hkN:k<N
     . have hkN':(k:Int)<(N:Int):=(by omega);have hks:k<s.size:=(by omega);have hbe:(s[k]'hks).toNat=bt s k:=(zdw s k hks).symm;obtain⟨B,hB⟩:∃ B:Nat,bt s k=B:=⟨_,rfl⟩;have HB:=Zh hB;have HOK:=Zh hok;have HNN:=Zh hN;rw[hB] at hbe;clear hB hok hN
       by_cases h1:(97:Int)<=(B:Int) <;> by_cases h2:(B:Int)<=122 <;> by_cases h3:(48:Int)<=(B:Int) <;> by_cases h4:(B:Int)<=57 <;> rcases zh4 B 45 with ⟨e5,h5⟩|⟨e5,h5⟩ <;> rcases zh4 B 95 with ⟨e6,h6⟩|⟨e6,h6⟩
       all_goals first
         | omega
         | (have hb:okB B=false:=(by rw[Bool.eq_false_iff,Ne,zn8];omega)
            go_wp2;go_ret;exact⟨by rw[znb s k hks (by rw[HB.out];exact hb)];rfl,rfl⟩)
         | (have hb:okB B=true:=(by rw[zn8];omega)
            have HBB:=Zh hb;clear hb;go_wp2;go_roundg (N-(k+1))
            case measure=>have:=HMK.out;omega
            case rel=>exact⟨k+1,by go_num,by omega,rfl,fun j hj=>(by rcases Nat.lt_succ_iff_lt_or_eq.1 hj with h' | rfl;exact HOK.out j h';rw[HB.out];exact HBB.out),rfl⟩)
     . have hkl:k=N:=(by omega);subst hkl;go_wp2;go_ret;refine⟨?_,rfl⟩;rw[show nameOk s=true from hN.2 ⟨h0,fun i hi=>hok i (by omega)⟩];rfl
 . have hN:nameOk s=false:=by
     cases hq:nameOk s with
     | false=>rfl
     | true=>exact absurd ((zbw s).1 hq).1 h0
   rw[hN];clear hN;obtain⟨N,hNs⟩:∃ N,s.size=N:=⟨_,rfl⟩;rw[hNs] at h0 hs
   by_cases h1:N<1
   . have h1':(N:Int)<1:=(by omega);go_enter Tryz.func70,Tryz.ntmps70;go_wp2;go_ret;exact⟨rfl,rfl⟩
   . have h1':¬ (N:Int)<1:=(by omega);have h2':(16:Int)<(N:Int):=(by omega);go_enter Tryz.func70,Tryz.ntmps70;go_wp2;go_ret;exact⟨rfl,rfl⟩
theorem zrx (x:Nat) (hx:x<18446744073709551616) (w:World):
   Calls Tryz.prog 41 #[.int .u64 (x:Int)] w fun e w'=>e = .returned (.bool (someN x))∧w=w':=by
 have h:(decide ((x:Int) % 9223372036854775808<=9218868437227405312))=someN x:=by
   unfold someN
   by_cases h:x % 9223372036854775808<=9218868437227405312
   . rw[decide_eq_true h,decide_eq_true (by omega)]
   . rw[decide_eq_false h,decide_eq_false (by omega)]
 have HH:=Zh h;clear h;go_enter Tryz.func41,Tryz.ntmps41;go_wp2;go_ret;exact⟨by rw[←HH.out];rfl,rfl⟩
set_option maxRecDepth 20000 in
theorem zgx (x:Nat) (hx:x<18446744073709551616) (w:World):
   Calls Tryz.prog 42 #[.int .u64 (x:Int)] w fun e w'=>e = .returned (.int .i64 (rankN x))∧w=w':=by
 by_cases h:9223372036854775808<=x
 . have e:rankN x = -((x:Int)-9223372036854775808):=by
     unfold rankN sv;rw[decide_eq_true h,if_pos rfl];omega
   rw[e];clear e;have hi:(9223372036854775808:Int)<=x:=(by omega);have hx':(x:Int)<18446744073709551616:=(by omega);clear h hx;go_enter Tryz.func42,Tryz.ntmps42;go_wp2;go_ret;exact⟨rfl,rfl⟩
 . have e:rankN x=(x:Int):=by
     unfold rankN sv;rw[decide_eq_false h];simp only[Bool.false_eq_true,if_false];omega
   rw[e];clear e;have hi:¬ (9223372036854775808:Int)<=x:=(by omega);have hi2:(x:Int)<9223372036854775808:=(by omega);have hx':(x:Int)<18446744073709551616:=(by omega);clear h hx;go_enter Tryz.func42,Tryz.ntmps42;go_wp2;go_ret;exact⟨rfl,rfl⟩
theorem ziq (n j m:Nat) (hm:m=n*2 ^ j) (h:m<4503599627370496) (h1:1<=n):j<52∧2*m=n*2 ^ (j+1):=by
 constructor
 . rcases Nat.lt_or_ge j 52 with h2|h2
   . exact h2
   . exfalso;have h3:2 ^ 52<=2 ^ j:=Nat.pow_le_pow_right (by omega) h2;have h4:1*2 ^ j<=n*2 ^ j:=Nat.mul_le_mul_right _ h1;have h5:(2:Nat) ^ 52=4503599627370496:=rfl;omega
 . rw[hm,Nat.pow_succ];simp[Nat.mul_comm,Nat.mul_left_comm]
theorem zlm (n j m:Nat) (hm:m=n*2 ^ j) (h1:1<=n) (h2:n<9007199254740992) (ha:4503599627370496<=m) (hb:m<9007199254740992):(1074-j)*4503599627370496+m=rBitsN n:=by
 subst hm;exact (zo7 n j h1 h2 ha hb).2.symm
set_option maxHeartbeats 1000000 in
theorem zk0 (n:Int) (N:Nat) (sg:Nat) (h1:1<=N) (h2:N<=9007199254740992) (hn:n=N∧sg=0∨n = -(N:Int)∧sg=9223372036854775808) (w:World):
   Calls Tryz.prog 43 #[.int .i64 n] w fun e w'=>e = .returned (.int .u64 ((sg+rBitsN N:Nat):Int))∧w=w':=by
 obtain⟨T,hT⟩:∃ T,rBitsN N=T:=⟨_,rfl⟩;have HT:=Zh hT;rw[hT];clear hT;rcases hn with ⟨rfl,rfl⟩|⟨rfl,rfl⟩
 all_goals
   have n0:¬ (N:Int)=0:=(by omega);have n1:¬ -(N:Int)=0:=(by omega);have n2:((N:Int)==0)=false:=(by simp;omega);have n3:(-(N:Int)==0)=false:=(by simp;omega);go_enter Tryz.func43,Tryz.ntmps43;go_wp2;go_loop [4,5] (fun s4 s5=>∃ j m e:Nat,j<=52∧s4 = .int .u64 (m:Int)∧s5 = .int .u64 (e:Int)∧Hid (e=1075-j∧m=N*2 ^ j)∧e<=1075∧(j=0∧m=N∨m<9007199254740992)∧1<=e) (fun s4 s5=>(intOf s5).toNat)
   case atStart=>exact⟨0,N,1075,by omega,by first | rfl | (congr 1;omega),rfl,Zh ⟨rfl,by simp⟩,by omega,.inl ⟨rfl,rfl⟩,by omega⟩
   case round =>
     obtain⟨j,m,e,hj,rfl,rfl,hme,he,hlt,he1⟩:=hrel
     by_cases hm:m<4503599627370496
     . have hd:=ziq N j m hme.out.2 hm h1;have HD:=Zh hd.2;have HE:=hme.out.1;have hj2:=hd.1;have he2:2<=e:=(by omega);have hmi:(m:Int)<4503599627370496:=(by omega);have HM:=Zh hm;have HJ:=Zh hj2;have HL:=Zh hlt;have HEE:=Zh hme.out.1;clear hd hme hm hlt hj2 HE;go_wp2;go_round
       case rel=>exact⟨j+1,2*m,e-1,by have:=HJ.out;omega,by go_num,by go_num,Zh ⟨by rw[HEE.out];have:=HJ.out;omega,HD.out⟩,by omega,.inr (by have:=HM.out;omega),by omega⟩
       case measure=>simp[intOf];omega
     . have hmi:¬ (m:Int)<4503599627370496:=(by omega);have hend:Hid (m<9007199254740992∧(e-1)*4503599627370496+m=T∨m=9007199254740992∧e=1075∧T=4845873199050653696):=Zh (by
         have e1:=hme.out.1;have e2:=hme.out.2;have e3:=HT.out
         by_cases hN:N=9007199254740992
         . rcases hlt with ⟨rfl,rfl⟩|hlt
           . right;subst hN;refine⟨rfl,by omega,?_⟩;rw[←e3];decide +kernel
           . exfalso;have:1<=2 ^ j:=Nat.two_pow_pos j;have h6:N*1<=N*2 ^ j:=Nat.mul_le_mul_left _ this;omega
         . left;have hlt':m<9007199254740992:=by rcases hlt with ⟨rfl,rfl⟩|hlt <;> omega
           have:=zlm N j m e2 h1 (by omega) (by omega) hlt';refine⟨hlt',?_⟩;have e5:e-1=1074-j:=(by omega);rw[e5,this,e3])
       have HM:=Zh hm;clear hme hlt hj hm;go_wp2;go_loop [4,5] (fun s4 s5=>∃ m e:Nat,s4 = .int .u64 (m:Int)∧s5 = .int .u64 (e:Int)∧Hid (4503599627370496<=m∧e<=1076∧1<=e∧(m<9007199254740992∧(e-1)*4503599627370496+m=T∨m=9007199254740992∧e=1075∧T=4845873199050653696))) (fun s4 s5=>(intOf s4).toNat)
       case atStart=>exact⟨m,e,rfl,rfl,Zh ⟨by have:=HM.out;omega,by omega,he1,hend.out⟩⟩
       case round =>
         clear hmi hend HM he1 he;obtain⟨m,e,rfl,rfl,hH⟩:=hrel
         by_cases hm:m<9007199254740992
         . have i1:¬ (9007199254740992:Int)<=m:=(by omega);have i2:(4503599627370496:Int)<=m:=(by have:=hH.out;omega);have i3:(m:Int)<9007199254740992:=(by omega);have i4:(e:Int)<=1076:=(by have:=hH.out;omega);have i5:(1:Int)<=e:=(by have:=hH.out;omega);have HF:Hid (((e:Int)*4503599627370496+m-4503599627370496=(T:Int))):=Zh (by
             have:=hH.out;have h7:(e-1)*4503599627370496+m=T:=(by omega);have h8:((e-1:Nat):Int)=(e:Int)-1:=(by omega);omega)
           clear hH hm;clear h1 h2;go_wp2;go_ret;exact⟨by have:=HF.out;show Ending.returned (.int .u64 _)=Ending.returned (.int .u64 _);congr 2;try omega,rfl⟩
         . have i1:(9007199254740992:Int)<=m:=(by omega);have HH2:Hid (m=9007199254740992∧e=1075∧T=4845873199050653696):=Zh (by have:=hH.out;omega);have i3:(m:Int)<=9007199254740992:=(by have:=HH2.out;omega);have i4:(e:Int)<=1075:=(by have:=HH2.out;omega);have htd:(m:Int).tdiv 2=(m:Int) / 2:=Int.tdiv_eq_ediv_of_nonneg (by omega);clear hH hm;go_wp2;go_round
           case rel =>
             have hh:=HH2.out;exact⟨4503599627370496,1076,by show Value.int .u64 _=Value.int .u64 _;congr 1;try omega,by show Value.int .u64 _=Value.int .u64 _;congr 1;omega,Zh ⟨by omega,by omega,by omega,.inl ⟨by omega,by omega⟩⟩⟩
           case measure=>simp[intOf];omega
theorem zir (n:Int) (w:World):
   Calls Tryz.prog 43 #[.int .i64 n] w fun e w'=>e = .returned (.int .u64 (bitsW n:Int))∧w=w':=by
 by_cases h:n>9007199254740992∨n < -9007199254740992∨n=0
 . rw[bitsW,if_pos h]
   by_cases h1:n>9007199254740992
   . go_enter Tryz.func43,Tryz.ntmps43;go_wp2;go_ret;exact⟨rfl,rfl⟩
   . by_cases h2:n < -9007199254740992
     . go_enter Tryz.func43,Tryz.ntmps43;go_wp2;go_ret;exact⟨rfl,rfl⟩
     . have h0:n=0:=(by omega);subst h0;go_enter Tryz.func43,Tryz.ntmps43;go_wp2;go_ret;exact⟨rfl,rfl⟩
 . rw[bitsW,if_neg h]
   by_cases hn:n<0
   . rw[if_pos hn];exact zk0 n n.natAbs _ (by omega) (by omega) (.inr ⟨by omega,rfl⟩) w
   . rw[if_neg hn];exact zk0 n n.natAbs _ (by omega) (by omega) (.inl ⟨by omega,rfl⟩) w
theorem zs7:bitsW 1=4607182418800017408:=by decide +kernel
theorem zlq:bitsW 1024=4652218415073722368:=by decide +kernel
theorem zrd:rankN 4607182418800017408=4607182418800017408:=by decide +kernel
theorem zre:rankN 4652218415073722368=4652218415073722368:=by decide +kernel
theorem zgz (w:World):Calls Tryz.prog 43 #[.int .i64 1] w fun e w'=>e = .returned (.int .u64 4607182418800017408)∧w=w':=by
 have h:=zir 1 w;rw[zs7] at h;exact h
theorem zk1 (w:World):Calls Tryz.prog 43 #[.int .i64 1024] w fun e w'=>e = .returned (.int .u64 4652218415073722368)∧w=w':=by
 have h:=zir 1024 w;rw[zlq] at h;exact h
theorem zgy (w:World):Calls Tryz.prog 42 #[.int .u64 4607182418800017408] w fun e w'=>e = .returned (.int .i64 4607182418800017408)∧w=w':=by
 have h:=zgx 4607182418800017408 (by omega) w;rw[zrd] at h;exact h
theorem zjx (w:World):Calls Tryz.prog 42 #[.int .u64 4652218415073722368] w fun e w'=>e = .returned (.int .i64 4652218415073722368)∧w=w':=by
 have h:=zgx 4652218415073722368 (by omega) w;rw[zre] at h;exact h
theorem zp4 (x:Nat) : -9223372036854775808<rankN x∧rankN x<9223372036854775808:=by
 unfold rankN sv;have:x % 9223372036854775808<9223372036854775808:=Nat.mod_lt _ (by omega);split <;> omega
def drateV (x:Nat):Value := .tuple #[.int .i64 (if rateOk x=true then (rateN x:Int) else 0),.bool (rateOk x)]
set_option maxHeartbeats 1000000 in
set_option maxRecDepth 20000 in
theorem znz (x:Nat) (hx:x<18446744073709551616) (w:World):
   Calls Tryz.prog 20 #[.int .u64 (x:Int)] w fun e w'=>e = .returned (drateV x)∧w=w':=by
 have hs:=zrx x hx;have hr:=zgx x hx;have hk:=zhk x hx;have hbd:=zp4 x;have HX:=Zh hx;unfold drateV;obtain⟨p,hp⟩:∃ p,someN x=p:=⟨_,rfl⟩;obtain⟨R,hR⟩:∃ R,rankN x=R:=⟨_,rfl⟩;rw[hp] at hs hk;rw[hR] at hr hk hbd;have HP:=Zh hp;have HR:=Zh hR;clear hp hR hx;cases p
 . have e:rateOk x=false:=(by rw[hk];rfl);rw[e];clear hk e;go_enter Tryz.func20,Tryz.ntmps20;go_wp2_with (first
     | (go_at_call 41;(with_reducible refine (hs _).mono ?_);rintro e w1 ⟨rfl,rfl⟩)
     | fail)
   go_ret2;exact⟨rfl,rfl⟩
 . by_cases h1:R<4607182418800017408
   . have e:rateOk x=false:=(by rw[hk];simp;omega);rw[e];clear hk e;go_enter Tryz.func20,Tryz.ntmps20;go_wp2_with (first
       | (go_at_call 41;(with_reducible refine (hs _).mono ?_);rintro e w1 ⟨rfl,rfl⟩)
       | (go_at_call 42;(with_reducible refine (hr _).mono ?_);rintro e w1 ⟨rfl,rfl⟩)
       | (go_at_call 42;(with_reducible refine (zgy _).mono ?_);rintro e w1 ⟨rfl,rfl⟩)
       | (go_at_call 43;(with_reducible refine (zgz _).mono ?_);rintro e w1 ⟨rfl,rfl⟩)
       | fail)
     go_ret2;exact⟨rfl,rfl⟩
   . by_cases h2:R>4652218415073722368
     . have e:rateOk x=false:=(by rw[hk];simp;omega);rw[e];clear hk e;go_enter Tryz.func20,Tryz.ntmps20;go_wp2_with (first
         | (go_at_call 41;(with_reducible refine (hs _).mono ?_);rintro e w1 ⟨rfl,rfl⟩)
         | (go_at_call 42;(with_reducible refine (hr _).mono ?_);rintro e w1 ⟨rfl,rfl⟩)
         | (go_at_call 42;(with_reducible refine (zgy _).mono ?_);rintro e w1 ⟨rfl,rfl⟩)
         | (go_at_call 42;(with_reducible refine (zjx _).mono ?_);rintro e w1 ⟨rfl,rfl⟩)
         | (go_at_call 43;(with_reducible refine (zgz _).mono ?_);rintro e w1 ⟨rfl,rfl⟩)
         | (go_at_call 43;(with_reducible refine (zk1 _).mono ?_);rintro e w1 ⟨rfl,rfl⟩)
         | fail)
       go_ret2;exact⟨rfl,rfl⟩
     . have e:rateOk x=true:=(by rw[hk];simp;omega);rw[e];have hnb:=zmu x e;have hRx:Hid (R=(x:Int)):=Zh (by
         simp[rateOk] at e;rw[←HR.out,rankN,sv,decide_eq_false (by omega)];simp only[Bool.false_eq_true,if_false];omega)
       simp only[if_true];have HI:Hid (∀ n,1<=n->n<=9007199254740992->(rBitsN n<=x↔n<=rateN x)):=Zh fun n a b=>zgi n x a b
       obtain⟨N,hN⟩:∃ N,rateN x=N:=⟨_,rfl⟩;rw[hN] at hnb HI;rw[hN];clear hk e hN;go_enter Tryz.func20,Tryz.ntmps20;go_wp2_with (first
         | (go_at_call 41;(with_reducible refine (hs _).mono ?_);rintro e w1 ⟨rfl,rfl⟩)
         | (go_at_call 42;(with_reducible refine (hr _).mono ?_);rintro e w1 ⟨rfl,rfl⟩)
         | (go_at_call 42;(with_reducible refine (zgy _).mono ?_);rintro e w1 ⟨rfl,rfl⟩)
         | (go_at_call 42;(with_reducible refine (zjx _).mono ?_);rintro e w1 ⟨rfl,rfl⟩)
         | (go_at_call 43;(with_reducible refine (zgz _).mono ?_);rintro e w1 ⟨rfl,rfl⟩)
         | (go_at_call 43;(with_reducible refine (zk1 _).mono ?_);rintro e w1 ⟨rfl,rfl⟩)
         | fail)
       go_loopg [5] 1023 (fun m s5 wr=>∃ k:Nat,s5 = .int .i64 (k:Int)∧1<=k∧k<=N∧m=1024-k∧wr=w)
       case atStart=>exact⟨1,by first | rfl | trivial,by omega,by omega,by first | rfl | omega,rfl⟩
       case round =>
         obtain⟨k,rfl,hk1,hkN,hm,hww⟩:=hrel;obtain rfl:=hww.symm;have HM:=Zh hm;clear hm
         by_cases hk:k<1024
         . have hb:=zir ((k:Int)+1);have hq:=zgx (bitsW ((k:Int)+1)) (zq9 _);have hrk:rankN (bitsW ((k:Int)+1))=(rBitsN (k+1):Int):=by
             rw[rankW _ (by omega) (by omega),if_neg (by omega),if_neg (by omega)]
             congr 2
           rw[hrk] at hq;have hit:=HI.out (k+1) (by omega) (by omega);have hbb:=(zen (k+1) (by omega) (by omega)).2;obtain⟨bw,hbw⟩:∃ bw,bitsW ((k:Int)+1)=bw:=⟨_,rfl⟩;obtain⟨bn,hbn⟩:∃ bn,rBitsN (k+1)=bn:=⟨_,rfl⟩;rw[hbw] at hb hq;rw[hbn] at hq hit hbb;clear hbw hbn hrk;have hki:(k:Int)<1024:=by omega
           by_cases hle:bn<=x
           . have hle':(bn:Int)<=R:=(by rw[hRx.out];omega);have HK:=Zh (hit.mp hle);have HBB:=Zh hbb;clear hit hle hbb;go_wp2_with (first
               | (go_at_call 43;(with_reducible refine (hb _).mono ?_);rintro e w1 ⟨rfl,rfl⟩)
               | (go_at_call 42;(with_reducible refine (hq _).mono ?_);rintro e w1 ⟨rfl,rfl⟩)
               | (go_at_call 42;(with_reducible refine (hr _).mono ?_);rintro e w1 ⟨rfl,rfl⟩)
               | fail)
             go_roundg (1024-(k+1))
             case measure=>have:=HM.out;omega
             case rel=>exact⟨k+1,by go_num,by omega,HK.out,rfl,rfl⟩
           . have hle':¬ (bn:Int)<=R:=(by rw[hRx.out];omega);have hkk:k=N:=(by omega);subst hkk;have HBB:=Zh hbb;clear hit hle hbb;go_wp2_with (first
               | (go_at_call 43;(with_reducible refine (hb _).mono ?_);rintro e w1 ⟨rfl,rfl⟩)
               | (go_at_call 42;(with_reducible refine (hq _).mono ?_);rintro e w1 ⟨rfl,rfl⟩)
               | (go_at_call 42;(with_reducible refine (hr _).mono ?_);rintro e w1 ⟨rfl,rfl⟩)
               | fail)
             go_ret2;exact⟨rfl,rfl⟩
         . have hkk:k=N:=(by omega);subst hkk;have hki:¬ (k:Int)<1024:=(by omega);go_wp2;go_ret2;exact⟨rfl,rfl⟩
end Go.Proofs.YtgbdanddbgomhaaGreatDoor
