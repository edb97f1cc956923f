import Derived.Test.YtgbdanddbgomhaaDoorMw34
set_option linter.unusedVariables false
set_option linter.unusedSimpArgs false
namespace Go.Proofs.YtgbdanddbgomhaaDoor
open Go Go.RowKit
section
attribute [local go_sem ↓] Go.wp_at_zero Go.wp_at_succ
def RetHas (w:World) (P:Prop) (e:Ending) (w':World):Prop:=∃ b:Bool,e = .returned (.bool b)∧(b=true↔P)∧Below w.heap.size w w'
def Ghost.single (g:Nat) (t:T):Ghost:=⟨fun g' o'=>if g'=g∧o'=0 then some t else none,fun _=>none,fun _=>False⟩
theorem zoi {w w5:World} {xs:List Int} {A:Option Addr} {t:T} {kn:Value} {g0:Nat} {cur:Array Value} (hB5:Below w.heap.size w w5) (hg0:w5.heap[g0]?=some (.cells cur 29 (0,0))) (hn:NodeAt w5 g0 0 t kn) (ht:Tree w5 (fun _=>True) t kn) (hwf:WF t)
   (hrd:RdB w w.heap.size A xs) (hby:∀ k,k<xs.length->0<=xs.getD k 0∧xs.getD k 0<=255) (hlen:xs.length<=100000) (htab:Tab w):
   Ask (w5.alloc (.cells #[.pointer (some ⟨g0,0,none⟩),.slice none 0 0,.int .i64 0,.slice none 0 0] 82)) w.heap.size xs A (Ghost.single w5.heap.size t):=by
 have hb:Below w5.heap.size w5 (w5.alloc (.cells #[.pointer (some ⟨g0,0,none⟩),.slice none 0 0,.int .i64 0,.slice none 0 0] 82)):=(Below.refl _ _).alloc (Nat.le_refl _) _;have hw:=hB5.trans (hb.mono hB5.size);have hnew:=World.alloc_heap_new w5 (.cells #[.pointer (some ⟨g0,0,none⟩),.slice none 0 0,.int .i64 0,.slice none 0 0] 82);have hcell:∀ (j:Nat) (u:Value),(#[Value.pointer (some ⟨g0,0,none⟩),.slice none 0 0,.int .i64 0,.slice none 0 0]:Array Value)[j]?=some u->(w5.alloc (.cells #[.pointer (some ⟨g0,0,none⟩),.slice none 0 0,.int .i64 0,.slice none 0 0] 82)).cell? ⟨w5.heap.size,j,none⟩=some u:=fun j u e=>by
   rw[World.cell?_alloc_new];exact e
 have hg0l:=za0 hg0;refine⟨⟨⟨fun g o t' e=>?_,fun gf t' e=>by cases e⟩,fun g e=>e.elim⟩,hrd.below hw,hby,hlen,htab.below hw htab.1,htab.1,hw.size⟩;unfold Ghost.single at e;simp only at e
 by_cases hgo:g=w5.heap.size∧o=0
 . rw[if_pos hgo] at e;injection e with e
   obtain⟨rfl,rfl⟩:=hgo;subst e;refine⟨hB5.size,⟨by omega,⟨_,hnew⟩,hwf,⟨g0,0,kn,hcell 0 _ rfl,hn.block (hb.block g0 hg0l),ht.mono fun b _ hlt _=>⟨hb.block b hlt,trivial⟩,cur,(hb.block g0 hg0l).trans hg0⟩,.inl (hcell 1 _ rfl),⟨0,hcell 2 _ rfl,by omega⟩,.inl (hcell 3 _ rfl)⟩⟩
 . rw[if_neg hgo] at e;cases e
set_option maxRecDepth 20000 in
set_option maxHeartbeats 2000000 in
theorem zqu {w:World} {c:Nat} {xs:List Int} {A:Option Addr} {t:T} {k:Value} {ok:Nat->Prop} (hwf:WF t) (ht:Tree w ok t k) (hrd:RdB w w.heap.size A xs) (hby:∀ k,k<xs.length->0<=xs.getD k 0∧xs.getD k 0<=255) (hlen:xs.length<=100000) (htab:Tab w):
   Calls Tryd.prog 9 #[nodeP t k,.slice A xs.length c] w (RetHas w (E xs t 0 xs.length)):=by
 obtain⟨A',n',c',rfl⟩:=ht.form;have hel:E xs t 0 xs.length->LenU false t<=xs.length∧xs.length<=LenU true t:=fun hE=>by
   have:=zx7 hwf 0 xs.length (Nat.zero_le _) hE;omega
 have b8:=Box8.new w t (.slice A' n' c');have hB1:Below w.heap.size w (w.alloc (.cells #[.int .i64 t.op,.int .u64 (word t.set 0),.int .u64 (word t.set 1),.int .u64 (word t.set 2),.int .u64 (word t.set 3),.int .i64 t.lo,.int .i64 t.hi,.slice A' n' c'] 29)):=(Below.refl _ _).alloc (Nat.le_refl _) _;have hblk:=World.alloc_heap_new w (.cells #[.int .i64 t.op,.int .u64 (word t.set 0),.int .u64 (word t.set 1),.int .u64 (word t.set 2),.int .u64 (word t.set 3),.int .i64 t.lo,.int .i64 t.hi,.slice A' n' c'] 29);have hsp:=zwe (w.alloc (.cells #[.int .i64 t.op,.int .u64 (word t.set 0),.int .u64 (word t.set 1),.int .u64 (word t.set 2),.int .u64 (word t.set 3),.int .i64 t.lo,.int .i64 t.hi,.slice A' n' c'] 29)) (xs.length+1) (by omega) (by omega) w.heap.size 0 hwf (ht.alloc _) b8.nodeAt;rw[show ((xs.length+1:Nat):Int)=(xs.length:Int)+1 by omega] at hsp;have ht1:Tree (w.alloc (.cells #[.int .i64 t.op,.int .u64 (word t.set 0),.int .u64 (word t.set 1),.int .u64 (word t.set 2),.int .u64 (word t.set 3),.int .i64 t.lo,.int .i64 t.hi,.slice A' n' c'] 29)) (fun _=>True) t (.slice A' n' c'):=(ht.alloc _).mono fun b _ _ _=>⟨rfl,trivial⟩
 have hnode:=b8.nodeAt;have hs1:(w.alloc (.cells #[.int .i64 t.op,.int .u64 (word t.set 0),.int .u64 (word t.set 1),.int .u64 (word t.set 2),.int .u64 (word t.set 3),.int .i64 t.lo,.int .i64 t.hi,.slice A' n' c'] 29)).heap.size=w.heap.size+1:=(by simp);unfold RetTwo at hsp;have HSP:=Zh hsp;have HEL:=Zh hel;have HB1:=Zh hB1;have HBLK:=Zh hblk;have HT1:=Zh ht1;have HND:=Zh hnode;have HRD:=Zh hrd;have HBY:=Zh hby;have HTB:=Zh htab;have HWF:=Zh hwf;have HS1:=Zh hs1;generalize hl0:LenU false t=l0 at *;generalize hl1:LenU true t=l1 at *;have HL:=Zh (fun _:Unit=>And.intro hl0 hl1);unfold nodeP;clear hsp hel hB1 hblk ht1 hnode hrd hby htab hwf ht b8 hs1 hl0 hl1
 by_cases h1:xs.length<l0
 . have hm0:((min l0 (xs.length+1):Nat):Int)=(xs.length:Int)+1:=(by omega);have hi1:(xs.length:Int)<(xs.length:Int)+1:=(by omega);rw[hm0] at HSP;go_enter Tryd.func9,Tryd.ntmps9;go_wp2_with (go_at_call 32;(with_reducible refine HSP.out.mono ?_);rintro e w5 ⟨rfl,hb5⟩;have HB5:=Zh hb5;clear hb5);go_ret;exact⟨false,rfl,⟨fun h=>(by cases h),fun h=>by have:=HEL.out h;omega⟩,HB1.out.trans (HB5.out.mono HB1.out.size)⟩
 . have hm0:min l0 (xs.length+1)=l0:=(by omega);rw[hm0] at HSP;have hi1:¬ ((xs.length:Int)<(l0:Int)):=by omega
   by_cases h2:l1<xs.length
   . have hm1:min l1 (xs.length+1)=l1:=(by omega);rw[hm1] at HSP;have hi2:(l1:Int)<(xs.length:Int):=(by omega);clear hm0 hm1;go_enter Tryd.func9,Tryd.ntmps9;go_wp2_with (go_at_call 32;(with_reducible refine HSP.out.mono ?_);rintro e w5 ⟨rfl,hb5⟩;have HB5:=Zh hb5;clear hb5);go_ret;exact⟨false,rfl,⟨fun h=>(by cases h),fun h=>by have:=HEL.out h;omega⟩,HB1.out.trans (HB5.out.mono HB1.out.size)⟩
   . obtain⟨d,hd⟩:∃ d:Nat,d=min l1 (xs.length+1):=⟨_,rfl⟩;rw[←hd] at HSP;have hi2:¬ ((d:Int)<(xs.length:Int)):=(by omega);have hon:∀ W,Calls Tryd.prog 34 #[.int .i64 0,.int .i64 xs.length] W (RetPl W (xs.length / 64+1) (fun x=>x==0)):=fun W=>zq4 W 0 xs.length (by omega) (Nat.zero_le _)
     unfold RetPl at hon;have HON:=Zh hon;have hpe:=zv4 t HWF.out;unfold EndsP RetEndsP at hpe;have HPE:=Zh hpe;have hph:=fun W v q (h:Pl W 0 v (xs.length / 64+1) q)=>zv2 W 0 (xs.length / 64+1) xs.length v q h (by omega) (by omega)
     have HPH:=Zh hph;clear hm0 hd hon hpe hph;go_enter Tryd.func9,Tryd.ntmps9;go_wp2_with (first
       | (go_at_call 32;(with_reducible refine HSP.out.mono ?_);rintro e w5 ⟨rfl,hb5⟩;have HB5:=Zh hb5;clear hb5;have HASK:=Zh (zoi (w:=w) (w5:=w5) (HB1.out.trans (HB5.out.mono HB1.out.size)) ((HB5.out.block w.heap.size (by rw[HS1.out];omega)).trans HBLK.out) (HND.out.block (HB5.out.block w.heap.size (by rw[HS1.out];omega))) (HT1.out.mono fun b _ hlt _=>⟨HB5.out.block b hlt,trivial⟩) HWF.out HRD.out HBY.out hlen HTB.out))
       | (go_at_call 34;(with_reducible refine (HON.out _).mono ?_);rintro e2 w7 ⟨v2,rfl,hv2,hb7⟩;have HV2:=Zh hv2;have HB7:=Zh hb7;have HA7:=Zh (HASK.out.stays hb7);have HI7:=Zh (show InW w7 xs v2 (fun x=>x==0) from⟨hv2.lower (Nat.zero_le _),fun x hx=>by have:x=0:=(by simpa using hx);omega⟩);clear hv2 hb7)
       | (go_at_call 33;(with_reducible refine (HPE.out _ _ _ _ _ _ _ _ _ _ HA7.out (by simp[Ghost.single]) HI7.out).mono ?_);rintro e3 w8 ⟨v3,q3,Γ3,rfl,hi3,hx3,hv3,hq3⟩;have HX3:=Zh hx3;have HV3:=Zh hv3;have HQ3:=Zh hq3;clear hi3 hx3 hv3 hq3)
       | (go_at_call 35;(with_reducible refine (HPH.out _ _ _ HV3.out.pl).mono ?_);rintro e4 w9 ⟨rfl,rfl⟩))
     go_ret;have hb5:=HB1.out.trans (HB5.out.mono HB1.out.size);have hb6:=hb5.alloc hb5.size (.cells #[.pointer (some ⟨w.heap.size,0,none⟩),.slice none 0 0,.int .i64 0,.slice none 0 0] 82);refine⟨q3 xs.length,rfl,?_,(hb6.trans (HB7.out.mono hb6.size)).trans HX3.out.below⟩;rw[HQ3.out xs.length];constructor
     . rintro⟨i,hi,hE⟩;have:i=0:=by simpa using hi
       rwa [this] at hE
     . intro hE;exact⟨0,rfl,hE⟩
end
end Go.Proofs.YtgbdanddbgomhaaDoor
