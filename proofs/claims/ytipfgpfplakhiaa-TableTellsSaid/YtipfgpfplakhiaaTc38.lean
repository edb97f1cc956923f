import Derived.Test.YtipfgpfplakhiaaTc12
import Derived.Test.YtipfgpfplakhiaaTc35
import Derived.Lib.BufferMore
import Derived.RangeFuncRecord
set_option linter.unusedVariables false
set_option linter.unusedSimpArgs false
set_option maxRecDepth 20000
set_option maxHeartbeats 4000000
namespace Go.Proofs.Ytipfgpfplakhiaa
open Go Go.RowKit
section
attribute [local go_sem ↓] Go.wp_at_zero Go.wp_at_succ
def zuw (w:World) (s:ByteArray) (e:Ending) (w':World):Prop:=
 ∃ t k ok,e = .returned (.tuple #[zal t k,.int .i64 ok])∧Tree w' (fun b=>w.heap.size<=b) t k∧Below w.heap.size w w'∧
  ((ok=1∧parse s = .ok t∧WF t∧plN t<=60)∨(ok=0∧t=T.zero∧k = .slice none 0 0∧∀ t',parse s = .ok t'->¬ plN t'<=60))
theorem zle (w:World) (s:ByteArray) (hs:s.size<=9223372036854775807):Calls Try.prog 21 #[.string s] w (zuw w s):=by
 have HR:=Zh (fun w=>zzs w s hs);unfold zsz at HR;have b0:=Box8.new0 w;have hB0:Below w.heap.size w (w.alloc (.cells #[.int .i64 0,.int .u64 0,.int .u64 0,.int .u64 0,.int .u64 0,.int .i64 0,.int .i64 0,.slice none 0 0] 67)):=(ygr _ _).alloc (ygo _) _;have hw0:=b0.lt;cases hp:parse s with
 | error x =>
  obtain⟨cc,aa⟩:=x;simp only[hp] at HR;have HP:=Zh hp;clear hp;go_enter Try.func21,Try.ntmps21;go_wp2_with (go_at_call 40;(with_reducible refine (HR.o _).mono ?_);rintro e w3 ⟨t',k',bad,at_,rfl,ht',hb3,a1,a2,a3,a4,a5⟩;subst a1 a2 a3 a4;have a6:(bad != 0)=true:=(by simpa using a5);clear a5 ht';unfold zal;have b3:=b0.stays hb3;have hl3:=b3.lt;obtain⟨f0,f1,f2,f3,f4,f5,f6,f7⟩:=b3.frozen;obtain⟨r0,r1,r2,r3,r4,r5,r6,r7⟩:=b3.cell);have hB3:=gro1 (ygr _ _) hb3;have bF:=(b3.put (t':=T.zero) (k' := .slice none 0 0) T.zero (.slice none 0 0)).alloc (.cells #[.int .i64 (T.zero).op,.int .u64 (word (T.zero).set 0),.int .u64 (word (T.zero).set 1),.int .u64 (word (T.zero).set 2),.int .u64 (word (T.zero).set 3),.int .i64 (T.zero).lo,.int .i64 (T.zero).hi,.slice none 0 0] 67);have hF:=(zcn hB3 (ygo w.heap.size) T.zero (.slice none 0 0)).alloc (by rw[zfr];omega) (.cells #[.int .i64 (T.zero).op,.int .u64 (word (T.zero).set 0),.int .u64 (word (T.zero).set 1),.int .u64 (word (T.zero).set 2),.int .u64 (word (T.zero).set 3),.int .i64 (T.zero).lo,.int .i64 (T.zero).hi,.slice none 0 0] 67);rw[←zmm] at bF hF;change bodyPost _ _ _ _ _ ((zo7 w3 w.heap.size).alloc (.cells #[.int .i64 (T.zero).op,.int .u64 (word (T.zero).set 0),.int .u64 (word (T.zero).set 1),.int .u64 (word (T.zero).set 2),.int .u64 (word (T.zero).set 3),.int .i64 (T.zero).lo,.int .i64 (T.zero).hi,.slice none 0 0] 67));generalize (zo7 w3 w.heap.size).alloc (.cells #[.int .i64 (T.zero).op,.int .u64 (word (T.zero).set 0),.int .u64 (word (T.zero).set 1),.int .u64 (word (T.zero).set 2),.int .u64 (word (T.zero).set 3),.int .i64 (T.zero).lo,.int .i64 (T.zero).hi,.slice none 0 0] 67)=wF at *;obtain⟨F0,F1,F2,F3,F4,F5,F6,F7⟩:=bF.cell;refine bodyPost_ret (v := .tuple #[zal T.zero (.slice none 0 0),.int .i64 0]) ?_ rfl ⟨T.zero,_,0,rfl,.nil _ rfl,hF,.inr ⟨rfl,rfl,rfl,fun t' e=>?_⟩⟩
  .simp[zal,results,Try.results21,go_sem,F0,F1,F2,F3,F4,F5,F6,F7]
  .rw[HP.o] at e;cases e
 | ok t =>
  simp only[hp] at HR;have hwf:=zmf hp;have HP:=Zh hp;have HWF:=Zh hwf;clear hp hwf
  by_cases hpl:plN t<=60
  .have HPL:Hid (∀ W k ok,Tree W ok t k->Calls Try.prog 41 #[zas t k] W fun e w'=>∃ n:Nat,e = .returned (.int .i64 n)∧n<=60∧Below W.heap.size W w'):=fun W k ok ht=>(zmp W HWF.o ht).mono fun e w' h=>⟨plN t,h.1,hpl,h.2⟩
   unfold zas at HPL;have HPL2:=Zh hpl;clear hpl;go_enter Try.func21,Try.ntmps21;go_wp2_with (first
    | (go_at_call 40;(with_reducible refine (HR.o _).mono ?_);rintro e w3 ⟨t',k',bad,at_,rfl,ht',hb3,a1,a2,a3⟩;have a1':=a1.symm;subst a1' a2 a3;obtain⟨A,tn,tc,rfl⟩:=ht'.form;unfold zal;have ht3:=ht'.alloc (.cells #[.int .i64 (t).op,.int .u64 (word (t).set 0),.int .u64 (word (t).set 1),.int .u64 (word (t).set 2),.int .u64 (word (t).set 3),.int .i64 (t).lo,.int .i64 (t).hi,.slice A tn tc] 67);have hb3':=(gro1 (ygr _ _) hb3).alloc (gro1 (ygr _ _) hb3).size (.cells #[.int .i64 (t).op,.int .u64 (word (t).set 0),.int .u64 (word (t).set 1),.int .u64 (word (t).set 2),.int .u64 (word (t).set 3),.int .i64 (t).lo,.int .i64 (t).hi,.slice A tn tc] 67);have b3:=b0.stays hb3;have hl3:=b3.lt)
    | (go_at_call 41;(with_reducible refine (HPL.o _ _ _ ht3).mono ?_);rintro e w4 ⟨pn,rfl,hpn,hb4⟩;have ht4:=ht3.stays hb4;have b4:=(b3.alloc _).stays hb4;have x4:=(Box8.new w3 t (.slice A tn tc)).stays hb4;obtain⟨f0,f1,f2,f3,f4,f5,f6,f7⟩:=b4.frozen;obtain⟨r0,r1,r2,r3,r4,r5,r6,r7⟩:=b4.cell;obtain⟨x0,x1,x2,x3,x40,x5,x6,x7⟩:=x4.cell))
   have hB4:=gro hb3' hb4;have bF:=b4.put (t':=t) (k' := .slice A tn tc) t (.slice A tn tc);have tF:=((ht4.weak (ok':=fun b=>w.heap.size<=b∧b≠w.heap.size) fun b hb _=>by simp at hb;omega).put8 (g':=w.heap.size) (t':=t) (k' := .slice A tn tc) fun b hb=>hb.2).weak (ok':=fun b=>w.heap.size<=b) fun b hb _=>hb.1
   have hF:=zcn hB4 (ygo w.heap.size) t (.slice A tn tc);change bodyPost _ _ _ _ _ (put8 w4 w.heap.size t (.slice A tn tc));generalize put8 w4 w.heap.size t (.slice A tn tc)=wF at *;obtain⟨F0,F1,F2,F3,F4,F5,F6,F7⟩:=bF.cell;refine bodyPost_ret (v := .tuple #[zal t (.slice A tn tc),.int .i64 1]) ?_ rfl ⟨t,_,1,rfl,tF,hF,.inl ⟨rfl,HP.o,HWF.o,HPL2.o⟩⟩;simp[zal,results,Try.results21,go_sem,F0,F1,F2,F3,F4,F5,F6,F7]
  .have HPL:Hid (∀ W k ok,Tree W ok t k->Calls Try.prog 41 #[zas t k] W fun e w'=>∃ n:Nat,e = .returned (.int .i64 n)∧60<n∧Below W.heap.size W w'):=fun W k ok ht=>(zmp W HWF.o ht).mono fun e w' h=>⟨plN t,h.1,by omega,h.2⟩
   unfold zas at HPL;have HPL2:=Zh hpl;clear hpl;go_enter Try.func21,Try.ntmps21;go_wp2_with (first
    | (go_at_call 40;(with_reducible refine (HR.o _).mono ?_);rintro e w3 ⟨t',k',bad,at_,rfl,ht',hb3,a1,a2,a3⟩;have a1':=a1.symm;subst a1' a2 a3;obtain⟨A,tn,tc,rfl⟩:=ht'.form;unfold zal;have ht3:=ht'.alloc (.cells #[.int .i64 (t).op,.int .u64 (word (t).set 0),.int .u64 (word (t).set 1),.int .u64 (word (t).set 2),.int .u64 (word (t).set 3),.int .i64 (t).lo,.int .i64 (t).hi,.slice A tn tc] 67);have hb3':=(gro1 (ygr _ _) hb3).alloc (gro1 (ygr _ _) hb3).size (.cells #[.int .i64 (t).op,.int .u64 (word (t).set 0),.int .u64 (word (t).set 1),.int .u64 (word (t).set 2),.int .u64 (word (t).set 3),.int .i64 (t).lo,.int .i64 (t).hi,.slice A tn tc] 67);have b3:=b0.stays hb3;have hl3:=b3.lt)
    | (go_at_call 41;(with_reducible refine (HPL.o _ _ _ ht3).mono ?_);rintro e w4 ⟨pn,rfl,hpn,hb4⟩;have ht4:=ht3.stays hb4;have b4:=(b3.alloc _).stays hb4;have x4:=(Box8.new w3 t (.slice A tn tc)).stays hb4;obtain⟨f0,f1,f2,f3,f4,f5,f6,f7⟩:=b4.frozen;obtain⟨r0,r1,r2,r3,r4,r5,r6,r7⟩:=b4.cell;obtain⟨x0,x1,x2,x3,x40,x5,x6,x7⟩:=x4.cell))
   have hB4:=gro hb3' hb4;have bF:=b4.put (t':=T.zero) (k' := .slice none 0 0) T.zero (.slice none 0 0);have hF:=zcn hB4 (ygo w.heap.size) T.zero (.slice none 0 0);rw[←zmm] at bF hF;change bodyPost _ _ _ _ _ (zo7 w4 w.heap.size);generalize zo7 w4 w.heap.size=wF at *;obtain⟨F0,F1,F2,F3,F4,F5,F6,F7⟩:=bF.cell;refine bodyPost_ret (v := .tuple #[zal T.zero (.slice none 0 0),.int .i64 0]) ?_ rfl ⟨T.zero,_,0,rfl,.nil _ rfl,hF,.inr ⟨rfl,rfl,rfl,fun t' e=>?_⟩⟩
   .simp[zal,results,Try.results21,go_sem,F0,F1,F2,F3,F4,F5,F6,F7]
   .rw[HP.o] at e;injection e with e
    rw[←e];exact HPL2.o
end
theorem ztt {w:World} {s:ByteArray} {t:T} (hs:s.size<=9223372036854775807) (hp:parse s = .ok t) (hpl:plN t<=60):Calls Try.prog 21 #[.string s] w fun e w'=>∃ A n c,e = .returned (.tuple #[zal t (.slice A n c),.int .i64 1])∧Tree w' (fun b=>w.heap.size<=b) t (.slice A n c)∧Below w.heap.size w w':=by
 refine (zle w s hs).mono fun e w' h=>?_
 obtain⟨t',k,ok,rfl,ht,hb,h⟩:=h;rcases h with ⟨rfl,h1,h2,h3⟩|⟨rfl,h1,h2,h3⟩
 .rw[hp] at h1;injection h1 with h1
  subst h1;obtain⟨A,n,c,rfl⟩:=ht.form;exact⟨A,n,c,rfl,ht,hb⟩
 .exact absurd hpl (h3 t hp)
theorem ztu {w:World} {s:ByteArray} (hs:s.size<=9223372036854775807) (hp:¬ ∃ t,parse s = .ok t∧plN t<=60):Calls Try.prog 21 #[.string s] w fun e w'=>e = .returned (.tuple #[zal T.zero (.slice none 0 0),.int .i64 0])∧Below w.heap.size w w':=by
 refine (zle w s hs).mono fun e w' h=>?_
 obtain⟨t',k,ok,rfl,ht,hb,h⟩:=h;rcases h with ⟨rfl,h1,h2,h3⟩|⟨rfl,rfl,rfl,h3⟩
 .exact absurd ⟨t',h1,h3⟩ hp
 .exact⟨rfl,hb⟩
end Go.Proofs.Ytipfgpfplakhiaa
