import Derived.Test.YtgbdanddbgomhaaGreatDoorRows
import Derived.Laws.FloatArith
set_option linter.unusedVariables false
set_option linter.unusedSimpArgs false
namespace Go.Proofs.YtgbdanddbgomhaaGreatDoor
open Go
def vN (r:Nat):Nat:=if r<4503599627370496 then r else (4503599627370496+r % 4503599627370496)*2 ^ (r / 4503599627370496-1)
theorem zjg (r:Nat) (h:4503599627370496<=r) (q s:Nat) (e:r=q*4503599627370496+s) (hs:s<4503599627370496):vN r=(4503599627370496+s)*2 ^ (q-1):=by
 have e1:r / 4503599627370496=q:=(by omega);have e2:r % 4503599627370496=s:=(by omega);rw[vN,if_neg (by omega),e1,e2]
theorem zjf (r:Nat):vN r<vN (r+1):=by
 by_cases h1:r+1<4503599627370496
 . rw[vN,vN,if_pos (by omega),if_pos h1];omega
 . by_cases h2:r<4503599627370496
   . have:r+1=4503599627370496:=by omega
     rw[this,vN,if_pos h2];have:vN 4503599627370496=4503599627370496:=by decide +kernel
     omega
   . obtain⟨q,hq⟩:∃ q,r / 4503599627370496=q:=⟨_,rfl⟩;obtain⟨s,hs⟩:∃ s,r % 4503599627370496=s:=⟨_,rfl⟩;have e:r=q*4503599627370496+s:=(by omega);have hsl:s<4503599627370496:=(by omega);rw[zjg r (by omega) q s e hsl];have hp:0<2 ^ (q-1):=Nat.two_pow_pos _
     by_cases h3:s+1<4503599627370496
     . rw[zjg (r+1) (by omega) q (s+1) (by omega) h3];exact Nat.mul_lt_mul_of_pos_right (by omega) hp
     . rw[zjg (r+1) (by omega) (q+1) 0 (by omega) (by omega)];have hq1:q+1-1=(q-1)+1:=(by omega);rw[hq1,Nat.pow_succ];obtain⟨P,hP⟩:∃ P,2 ^ (q-1)=P:=⟨_,rfl⟩;rw[hP] at hp ⊢;have:s=4503599627370495:=by omega
       subst this;omega
theorem vN_lt {r s:Nat} (h:r<s):vN r<vN s:=by
 induction s with
 | zero=>omega
 | succ s ih =>
   by_cases h1:r<s
   . exact Nat.lt_trans (ih h1) (zjf s)
   . have:r=s:=by omega
     subst this;exact zjf r
theorem zbi (r s:Nat):vN r<vN s↔r<s:=by
 constructor
 . intro h;rcases Nat.lt_trichotomy r s with h1|h1|h1
   . exact h1
   . subst h1;exact absurd h (Nat.lt_irrefl _)
   . exact absurd (Nat.lt_trans h (vN_lt h1)) (Nat.lt_irrefl _)
 . exact vN_lt
theorem zeu (r s:Nat):vN r=vN s↔r=s:=by
 have h1:=zbi r s;have h2:=zbi s r;constructor <;> intro h <;> omega
theorem zje (r:Nat):vN r=0↔r=0:=by
 have:vN 0=0:=by decide +kernel
 rw[←this,zeu,this]
def sv (s:Bool) (v:Nat):Int:=if s then -(v:Int) else v
theorem zkk {a b c d:Int} (h1:a<b↔c<d) (h2:a=b↔c=d):compare a b=compare c d:=by
 show compareOfLessAndEq a b=compareOfLessAndEq c d
 unfold compareOfLessAndEq
 by_cases h:a<b
 . rw[if_pos h,if_pos (h1.mp h)]
 . rw[if_neg h,if_neg (fun x=>h (h1.mpr x))]
   by_cases h':a=b
   . rw[if_pos h',if_pos (h2.mp h')]
   . rw[if_neg h',if_neg (fun x=>h' (h2.mpr x))]
theorem zn6 (s t:Bool) (r q:Nat):compare (sv s (vN r)) (sv t (vN q))=compare (sv s r) (sv t q):=by
 have a1:=zbi r q;have a2:=zbi q r;have a3:=zeu r q;have a4:=zje r;have a5:=zje q;have key:((sv s (vN r))<(sv t (vN q))↔(sv s r)<(sv t q))∧((sv s (vN r))=(sv t (vN q))↔(sv s r)=(sv t q)):=by
   generalize vN r=R at *;generalize vN q=Q at *;cases s <;> cases t <;> simp only[sv,if_true,Bool.false_eq_true,if_false] <;> omega
 exact zkk key.1 key.2
theorem zjm (s:Bool) (m u:Nat):Ieee.signed s m u=sv s (m*2 ^ u):=by
 unfold Ieee.signed sv;rw[Nat.shiftLeft_eq]
theorem zir (s t:Bool) (a b c:Nat) (hc:0<c):compare (sv s a) (sv t b)=compare (sv s (a*c)) (sv t (b*c)):=by
 have h1:a*c<b*c↔a<b:=Nat.mul_lt_mul_right hc;have h2:b*c<a*c↔b<a:=Nat.mul_lt_mul_right hc;have h3:a*c=0↔a=0:=by
   constructor
   . intro h;rcases Nat.mul_eq_zero.mp h with h|h <;> omega
   . intro h;rw[h,Nat.zero_mul]
 have h4:b*c=0↔b=0:=by
   constructor
   . intro h;rcases Nat.mul_eq_zero.mp h with h|h <;> omega
   . intro h;rw[h,Nat.zero_mul]
 have key:((sv s a)<(sv t b)↔(sv s (a*c))<(sv t (b*c)))∧((sv s a)=(sv t b)↔(sv s (a*c))=(sv t (b*c))):=by
   generalize a*c=R at *;generalize b*c=Q at *;cases s <;> cases t <;> simp only[sv,if_true,Bool.false_eq_true,if_false] <;> omega
 exact zkk key.1 key.2
theorem ze6 (x:Nat) (hx:x<18446744073709551616) (h:x % 9223372036854775808<9218868437227405312):
   ∃ m e,Ieee.double.read x = .number (decide (9223372036854775808<=x)) m e ∧ -1074<=e∧m*2 ^ (e+1074).toNat=vN (x % 9223372036854775808):=by
 have e1:Ieee.double.signWeight=9223372036854775808:=(by decide +kernel);have e2:Ieee.double.binade=4503599627370496:=(by decide +kernel);have e3:Ieee.double.infRung=9218868437227405312:=(by decide +kernel);have e4:Ieee.double.leastPlace = -1074:=(by decide +kernel);have eneg:(x / 9223372036854775808 % 2==1)=decide (9223372036854775808<=x):=by
   by_cases hl:9223372036854775808<=x
   . rw[decide_eq_true hl];simp;omega
   . rw[decide_eq_false hl];simp;omega
 unfold Ieee.Format.read;simp only[e1,e2,e3,e4,eneg];obtain⟨r,hr⟩:∃ r,x % 9223372036854775808=r:=⟨_,rfl⟩;rw[hr] at h ⊢
 by_cases hb:r<4503599627370496
 . rw[if_pos hb];exact⟨_,_,rfl,by omega,by rw[vN,if_pos hb];simp⟩
 . rw[if_neg hb,if_pos h];refine⟨_,_,rfl,by omega,?_⟩;rw[vN,if_neg hb]
   congr 2
   omega
theorem ze8 (x:Nat) (hx:x<18446744073709551616) (h:x % 9223372036854775808=9218868437227405312):
   Ieee.double.read x = .infinity (decide (9223372036854775808<=x)):=by
 have e1:Ieee.double.signWeight=9223372036854775808:=(by decide +kernel);have e2:Ieee.double.binade=4503599627370496:=(by decide +kernel);have e3:Ieee.double.infRung=9218868437227405312:=(by decide +kernel);have e4:Ieee.double.leastPlace = -1074:=(by decide +kernel);have eneg:(x / 9223372036854775808 % 2==1)=decide (9223372036854775808<=x):=by
   by_cases hl:9223372036854775808<=x
   . rw[decide_eq_true hl];simp;omega
   . rw[decide_eq_false hl];simp;omega
 unfold Ieee.Format.read;simp only[e1,e2,e3,e4,eneg,h];rfl
theorem ze7 (x:Nat) (hx:x<18446744073709551616) (h:9218868437227405312<x % 9223372036854775808):
   ∃ s f,Ieee.double.read x = .nan s f:=by
 have e1:Ieee.double.signWeight=9223372036854775808:=(by decide +kernel);have e2:Ieee.double.binade=4503599627370496:=(by decide +kernel);have e3:Ieee.double.infRung=9218868437227405312:=(by decide +kernel);unfold Ieee.Format.read;simp only[e1,e2,e3];rw[if_neg (by omega),if_neg (by omega),if_neg (by omega)];exact⟨_,_,rfl⟩
def someN (x:Nat):Bool:=decide (x % 9223372036854775808<=9218868437227405312)
def rankN (x:Nat):Int:=sv (decide (9223372036854775808<=x)) (x % 9223372036854775808)
theorem zeb (a b:Nat) (ha:a<18446744073709551616) (hb:b<18446744073709551616):
   Ieee.double.order a b=if someN a&&someN b then some (compare (rankN a) (rankN b)) else none:=by
 unfold Ieee.Format.order someN rankN;obtain⟨s,hs⟩:∃ s,decide (9223372036854775808<=a)=s:=⟨_,rfl⟩;obtain⟨t,ht⟩:∃ t,decide (9223372036854775808<=b)=t:=⟨_,rfl⟩;rcases Nat.lt_trichotomy (a % 9223372036854775808) 9218868437227405312 with h1|h1|h1
 . obtain⟨m,e,hr,he,hv⟩:=ze6 a ha h1;rw[hs] at hr;rcases Nat.lt_trichotomy (b % 9223372036854775808) 9218868437227405312 with h2|h2|h2
   . obtain⟨n,f,hq,hf,hw⟩:=ze6 b hb h2;rw[ht] at hq;rw[hr,hq,hs,ht,decide_eq_true (by omega),decide_eq_true (by omega)];simp only[Bool.and_self,if_true]
     show some _=some _
     congr 1
     rw[←zn6 s t,←hv,←hw];simp only[zjm];have hc:0<2 ^ ((min e f)+1074).toNat:=Nat.two_pow_pos _;rw[zir s t _ _ _ hc,Nat.mul_assoc,←Nat.pow_add,Nat.mul_assoc,←Nat.pow_add];have i1:(e-min e f).toNat+(min e f+1074).toNat=(e+1074).toNat:=(by omega);have i2:(f-min e f).toNat+(min e f+1074).toNat=(f+1074).toNat:=(by omega);rw[i1,i2]
   . rw[hr,ze8 b hb h2,hs,ht,decide_eq_true (by omega),decide_eq_true (by omega),h2];simp only[Bool.and_self,if_true];generalize a % 9223372036854775808=r at h1;clear hr hv hs ht;have hlt:compare (sv s r) (sv t 9218868437227405312)=if t then .gt else .lt:=by
       show compareOfLessAndEq _ _=_
       unfold compareOfLessAndEq;cases s <;> cases t <;> simp only[sv,if_true,Bool.false_eq_true,if_false]
       . rw[if_pos (by omega)]
       . rw[if_neg (by omega),if_neg (by omega)]
       . rw[if_pos (by omega)]
       . rw[if_neg (by omega),if_neg (by omega)]
     rw[hlt];rfl
   . obtain⟨s',f',hq⟩:=ze7 b hb h2;rw[hr,hq,decide_eq_false (by omega:¬ b % 9223372036854775808<=9218868437227405312)];simp only[Bool.and_false,Bool.false_eq_true,if_false];rfl
 . rw[ze8 a ha h1,hs,h1];rcases Nat.lt_trichotomy (b % 9223372036854775808) 9218868437227405312 with h2|h2|h2
   . obtain⟨n,f,hq,hf,hw⟩:=ze6 b hb h2;rw[ht] at hq;rw[hq,ht,decide_eq_true (by omega),decide_eq_true (by omega)];simp only[Bool.and_self,if_true];generalize b % 9223372036854775808=r at h2;clear hq hw hs ht;have hlt:compare (sv s 9218868437227405312) (sv t r)=if s then .lt else .gt:=by
       show compareOfLessAndEq _ _=_
       unfold compareOfLessAndEq;cases s <;> cases t <;> simp only[sv,if_true,Bool.false_eq_true,if_false]
       . rw[if_neg (by omega),if_neg (by omega)]
       . rw[if_neg (by omega),if_neg (by omega)]
       . rw[if_pos (by omega)]
       . rw[if_pos (by omega)]
     rw[hlt];rfl
   . rw[ze8 b hb h2,ht,h2,decide_eq_true (by omega)];simp only[Bool.and_self,if_true];cases s <;> cases t <;> decide +kernel
   . obtain⟨s',f',hq⟩:=ze7 b hb h2;rw[hq,decide_eq_false (by omega:¬ b % 9223372036854775808<=9218868437227405312)];simp only[Bool.and_false,Bool.false_eq_true,if_false];rfl
 . obtain⟨s',f',hq⟩:=ze7 a ha h1;rw[hq,decide_eq_false (by omega:¬ a % 9223372036854775808<=9218868437227405312)];simp only[Bool.false_and,Bool.false_eq_true,if_false];rfl
def lessB (a b:Nat):Bool:=someN a&&someN b&&decide (rankN a<rankN b)
def sameB (a b:Nat):Bool:=someN a&&someN b&&decide (rankN a=rankN b)
theorem zlf (a b:Nat) (ha:a<18446744073709551616) (hb:b<18446744073709551616):(Ieee.double.order a b==some .lt)=lessB a b:=by
 rw[zeb a b ha hb,lessB]
 by_cases h:(someN a&&someN b)=true
 . rw[if_pos h,h,Bool.true_and]
   show (some (compareOfLessAndEq _ _)==_)=_
   unfold compareOfLessAndEq
   by_cases h1:rankN a<rankN b
   . rw[if_pos h1,decide_eq_true h1];rfl
   . rw[if_neg h1,decide_eq_false h1]
     by_cases h2:rankN a=rankN b
     . rw[if_pos h2];rfl
     . rw[if_neg h2];rfl
 . rw[if_neg h];have h':(someN a&&someN b)=false:=(by simpa using h);rw[h'];rfl
theorem zh1 (a b:Nat) (ha:a<18446744073709551616) (hb:b<18446744073709551616):(Ieee.double.order a b==some .eq)=sameB a b:=by
 rw[zeb a b ha hb,sameB]
 by_cases h:(someN a&&someN b)=true
 . rw[if_pos h,h,Bool.true_and]
   show (some (compareOfLessAndEq _ _)==_)=_
   unfold compareOfLessAndEq
   by_cases h1:rankN a<rankN b
   . rw[if_pos h1,decide_eq_false (by omega)];rfl
   . rw[if_neg h1]
     by_cases h2:rankN a=rankN b
     . rw[if_pos h2,decide_eq_true h2];rfl
     . rw[if_neg h2,decide_eq_false h2];rfl
 . rw[if_neg h];have h':(someN a&&someN b)=false:=(by simpa using h);rw[h'];rfl
theorem zlh (a b:Nat) (ha:a<18446744073709551616) (hb:b<18446744073709551616):(Ieee.double.order a b==some .gt)=lessB b a:=by
 rw[zeb a b ha hb,lessB,Bool.and_comm (someN b)]
 by_cases h:(someN a&&someN b)=true
 . rw[if_pos h,h,Bool.true_and]
   show (some (compareOfLessAndEq _ _)==_)=_
   unfold compareOfLessAndEq
   by_cases h1:rankN a<rankN b
   . rw[if_pos h1,decide_eq_false (by omega)];rfl
   . rw[if_neg h1]
     by_cases h2:rankN a=rankN b
     . rw[if_pos h2,decide_eq_false (by omega)];rfl
     . rw[if_neg h2,decide_eq_true (by omega)];rfl
 . rw[if_neg h];have h':(someN a&&someN b)=false:=(by simpa using h);rw[h'];rfl
def unitN:Nat:=(2 ^ 179) ^ 6
theorem zji:0<unitN:=Nat.pow_pos (Nat.two_pow_pos 179)
theorem zmu (a b c:Nat) (h:a+b=c*6):2 ^ a*2 ^ b=(2 ^ c) ^ 6:=by
 rw[←Nat.pow_add,h,Nat.pow_mul]
theorem zew (a b:Nat) (h:a+b=1074):2 ^ a*2 ^ b=unitN:=zmu a b 179 h
def rBitsN (n:Nat):Nat:=if n=9007199254740992 then 4845873199050653696 else (1022+n.log2)*4503599627370496+n*2 ^ (52-n.log2)
theorem zgc (n:Nat) (h1:1<=n) (h2:n<9007199254740992):n.log2<=52∧4503599627370496<=n*2 ^ (52-n.log2)∧n*2 ^ (52-n.log2)<9007199254740992:=by
 have hl:n.log2<53:=(Nat.log2_lt (by omega)).mpr h2;have ha:2 ^ n.log2<=n:=Nat.log2_self_le (by omega);have hb:n<2 ^ (n.log2+1):=(Nat.log2_lt (by omega)).mp (Nat.lt_succ_self _);have e:2 ^ n.log2*2 ^ (52-n.log2)=4503599627370496:=by
   rw[←Nat.pow_add,show n.log2+(52-n.log2)=52 by omega]
 have hp:0<2 ^ (52-n.log2):=Nat.two_pow_pos _;have e2:2 ^ (n.log2+1)*2 ^ (52-n.log2)=9007199254740992:=by
   rw[←Nat.pow_add,show n.log2+1+(52-n.log2)=53 by omega]
 refine⟨by omega,?_,?_⟩
 . rw[←e];exact Nat.mul_le_mul_right _ ha
 . rw[←e2];exact Nat.mul_lt_mul_of_pos_right hb hp
theorem rBitsN_lt (n:Nat) (h1:1<=n) (h2:n<=9007199254740992):4503599627370496<=rBitsN n∧rBitsN n<9218868437227405312:=by
 by_cases h:n=9007199254740992
 . rw[rBitsN,if_pos h];omega
 . obtain⟨l1,l2,l3⟩:=zgc n h1 (by omega);rw[rBitsN,if_neg h];omega
theorem zml (n:Nat) (h1:1<=n) (h2:n<=9007199254740992):vN (rBitsN n)=n*unitN:=by
 by_cases h:n=9007199254740992
 . subst h;decide +kernel
 . obtain⟨l1,l2,l3⟩:=zgc n h1 (by omega);rw[rBitsN,if_neg h];obtain⟨s,hs⟩:∃ s,n*2 ^ (52-n.log2)=4503599627370496+s:=⟨n*2 ^ (52-n.log2)-4503599627370496,by omega⟩;rw[zjg _ (by omega) (1023+n.log2) s (by rw[hs];omega) (by omega),←hs,Nat.mul_assoc,zew _ _ (by omega)]
theorem near_nat (n:Nat) (s:Bool) (h1:1<=n) (h2:n<=9007199254740992):Ieee.double.nearest s n 0=(if s then 9223372036854775808 else 0)+rBitsN n:=by
 by_cases h:n=9007199254740992
 . subst h;cases s <;> decide +kernel
 . obtain⟨l1,l2,l3⟩:=zgc n h1 (by omega);have e3:Ieee.double.infRung=9218868437227405312:=(by decide +kernel);have e4:Ieee.double.leastPlace = -1074:=(by decide +kernel);have e5:Ieee.double.fractionBits=52:=rfl;have e2:Ieee.double.binade=4503599627370496:=(by decide +kernel);have e1:Ieee.double.signWeight=9223372036854775808:=(by decide +kernel);have ecut:∀ m,Ieee.Toward.even.cut s m 0=m:=by
     intro m;unfold Ieee.Toward.cut;simp[Nat.mod_one]
   unfold Ieee.Format.nearest;simp only[e3,e4,e5,e2];rw[if_neg (by omega)];have em:max (0+(n.log2:Int)-((52:Nat):Int)) (-1074)=(n.log2:Int)-52:=(by omega);rw[em];have i1:((0:Int)-((n.log2:Int)-52)).toNat=52-n.log2:=(by omega);have i2:((n.log2:Int)-52-0).toNat=0:=(by omega);have i3:((n.log2:Int)-52 - -1074).toNat=1022+n.log2:=(by omega);rw[i1,i2,i3,ecut,Nat.shiftLeft_eq,Nat.min_eq_left (by omega)];rw[rBitsN,if_neg h];unfold Ieee.Format.word;cases s
   . simp
   . simp only[if_true,e1]
def bitsW (n:Int):Nat:=
 if n>9007199254740992∨n < -9007199254740992∨n=0 then 0 else (if n<0 then 9223372036854775808 else 0)+rBitsN n.natAbs
def rateN (x:Nat):Nat:=vN x / unitN
theorem zgv (n x:Nat) (h1:1<=n) (h2:n<=9007199254740992):rBitsN n<=x↔n<=rateN x:=by
 have h:vN (rBitsN n)<=vN x↔rBitsN n<=x:=by
   have:=zbi x (rBitsN n);omega
 rw[←h,zml n h1 h2,rateN,Nat.le_div_iff_mul_le zji]
theorem bits_1:rBitsN 1=4607182418800017408:=by decide +kernel
theorem zkp:rBitsN 1025=4652222813120233472:=by decide +kernel
def rateOk (x:Nat):Bool:=decide (4607182418800017408<=x)&&decide (x<=4652218415073722368)
theorem zjs (x:Nat) (h:rateOk x=true):1<=rateN x∧rateN x<=1024:=by
 simp[rateOk] at h;have a:=zgv 1 x (by omega) (by omega);have b:=zgv 1025 x (by omega) (by omega);rw[bits_1] at a;rw[zkp] at b;omega
theorem zjr (x:Nat) (hx:x<18446744073709551616):rateOk x=(someN x&&(decide (4607182418800017408<=rankN x)&&decide (rankN x<=4652218415073722368))):=by
 unfold rateOk someN rankN sv
 by_cases h:9223372036854775808<=x
 . rw[decide_eq_true h,if_pos rfl,decide_eq_false (by omega:¬ (4607182418800017408:Int)<=_),decide_eq_false (by omega:¬ x<=4652218415073722368)];simp
 . rw[decide_eq_false h];simp only[Bool.false_eq_true,if_false];have e:x % 9223372036854775808=x:=(by omega);rw[e]
   by_cases h1:4607182418800017408<=x
   . by_cases h2:x<=4652218415073722368
     . rw[decide_eq_true h1,decide_eq_true h2,decide_eq_true (by omega),decide_eq_true (by omega),decide_eq_true (by omega)];rfl
     . rw[decide_eq_false h2,decide_eq_false (by omega:¬ (x:Int)<=4652218415073722368)];simp
   . rw[decide_eq_false h1,decide_eq_false (by omega:¬ (4607182418800017408:Int)<=x)];simp
theorem zly (s:Bool) (m d:Nat) (h:d<=m.log2+2):Ieee.Toward.zero.cut s m d=m / 2 ^ d:=by
 unfold Ieee.Toward.cut;simp only[Nat.min_eq_left h,Nat.shiftLeft_eq,Nat.one_mul];simp
theorem zhu (x:Nat) (h:rateOk x=true):floatToIntVal .f64 x .i64=some (rateN x:Int):=by
 have hbd:=zjs x h;simp[rateOk] at h;have e1:Ieee.double.signWeight=9223372036854775808:=(by decide +kernel);have e2:Ieee.double.binade=4503599627370496:=(by decide +kernel);have e3:Ieee.double.infRung=9218868437227405312:=(by decide +kernel);have e4:Ieee.double.leastPlace = -1074:=(by decide +kernel);obtain⟨q,hq⟩:∃ q,x / 4503599627370496=q:=⟨_,rfl⟩;obtain⟨s,hs⟩:∃ s,x % 4503599627370496=s:=⟨_,rfl⟩;have hq1:1023<=q∧q<=1033:=(by omega);have hread:Ieee.double.read x = .number false (4503599627370496+s) (-1074+((q-1:Nat):Int)):=by
   unfold Ieee.Format.read;simp only[e1,e2,e3,e4];have a1:(x / 9223372036854775808 % 2==1)=false:=by
     have:x / 9223372036854775808=0:=by omega
     rw[this];rfl
   have a2:x % 9223372036854775808=x:=(by omega);rw[a1,a2,if_neg (by omega),if_pos (by omega),hq,hs]
 have hlog:(4503599627370496+s).log2=52:=by
   have l1:52<=(4503599627370496+s).log2:=(Nat.le_log2 (by omega)).mpr (by show 4503599627370496<=_;omega);have l2:(4503599627370496+s).log2<53:=(Nat.log2_lt (by omega)).mpr (by show _<9007199254740992;omega);omega
 have hval:(4503599627370496+s) / 2 ^ (1075-q)=rateN x:=by
   rw[rateN,zjg x (by omega) q s (by omega) (by omega)];rw[←zew (1075-q) (q-1) (by omega),Nat.mul_div_mul_right _ _ (Nat.two_pow_pos _)]
 have hint:(FloatKind.f64.decode x).toInt .zero=some (rateN x:Int):=by
   show (Ieee.double.read x).toInt .zero=_
   rw[hread];unfold Ieee.Datum.toInt Ieee.Datum.integral;simp only;have i1:(-1074+((q-1:Nat):Int)).toNat=0:=(by omega);have i2:(-(-1074+((q-1:Nat):Int))).toNat=1075-q:=(by omega);rw[i1,i2,Nat.shiftLeft_zero,zly _ _ _ (by omega),hval];simp[Ieee.signed]
 unfold floatToIntVal;rw[hint];have m1:IntKind.i64.min = -9223372036854775808:=(by decide +kernel);have m2:IntKind.i64.max=9223372036854775807:=(by decide +kernel);simp only[m1,m2];rw[if_pos (by omega)]
end Go.Proofs.YtgbdanddbgomhaaGreatDoor
