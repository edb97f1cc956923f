import Derived.Test.YtgbdanddbgomhaaDoorMw50
import Derived.Test.YtgbdanddbgomhaaDoorMw35
set_option linter.unusedVariables false
set_option linter.unusedSimpArgs false
namespace Go.Proofs.YtgbdanddbgomhaaDoor
open Go
section
def stW (L:List (Lay×Str)) (lam:Nat) (xs:List Int):Nat->List Wd
 | 0=>[]
 | i+1=>stepD L lam (xs.getD i 0).toNat (stW L lam xs i)
section
variable {L:List (Lay×Str)} {lam:Nat} {xs:List Int}
theorem zvt {S φ:Nat->Nat->Prop} {F:Nat->Prop} {i p j:Nat} (h:Goes S φ F i p j):i<j:=by
 induction h with
 | start p h hs=>omega
 | step q p j h hf hs ih=>omega
theorem ztt {S φ:Nat->Nat->Prop} {F:Nat->Prop} {i p j:Nat}:Goes S φ F i p (j+1)↔S p j∧((i=j∧F p)∨∃ q,Goes S φ F i q j∧φ q p):=by
 constructor
 . intro h;cases h with
   | start p h hs=>exact⟨hs,.inl ⟨rfl,h⟩⟩
   | step q p j h hf hs=>exact⟨hs,.inr ⟨q,h,hf⟩⟩
 . rintro⟨hs,⟨rfl,h⟩|⟨q,h,hf⟩⟩
   . exact .start p h hs
   . exact .step q p j h hf hs
theorem zho (hlam:1<=lam) (y:Wd):∀ i,i<=xs.length->(y∈stW L lam xs i↔y.rule<L.length∧1<=y.age∧y.age<=lam∧y.age<=i∧Goes (eats xs (L.getD y.rule lx0).1) (fol (L.getD y.rule lx0).1) (· ∈ (L.getD y.rule lx0).2.first) (i-y.age) y.place i)
 | 0,_=>by
   simp only[stW,List.not_mem_nil,false_iff];rintro⟨_,h1,_,h2,_⟩;omega
 | i+1,hi=>by
   rw[stW,zbq,ztt];constructor
   . rintro⟨h1,h2,h3⟩;rcases h3 with ⟨ha,hp⟩|⟨x,hx,e1,e2,e3,e4⟩
     . exact⟨h1,by omega,by omega,by omega,⟨by omega,h2⟩,.inl ⟨by omega,hp⟩⟩
     . obtain⟨_,f1,f2,f3,f4⟩:=(zho hlam x i (by omega)).1 hx;rw[e1] at f4;refine⟨h1,by omega,by omega,by omega,⟨by omega,h2⟩,.inr ⟨x.place,?_,e4⟩⟩;rw[show i+1-y.age=i-x.age by omega];exact f4
   . rintro⟨h1,h2,h3,h4,⟨_,h5⟩,h6⟩;refine⟨h1,h5,?_⟩;rcases h6 with ⟨e,hp⟩|⟨q,hq,hf⟩
     . exact .inl ⟨by omega,hp⟩
     . have hlt:=zvt hq;refine .inr ⟨⟨y.rule,q,y.age-1⟩,(zho hlam _ i (by omega)).2 ⟨h1,?_,?_,?_,?_⟩,rfl,?_,?_,hf⟩
       all_goals simp only
       . omega
       . omega
       . omega
       . rw[show i-(y.age-1)=i+1-y.age by omega];exact hq
       . omega
       . omega
theorem zld (hL:∀ s x,(s,x)∈L->OkLay s x) (hN:∀ s x,(s,x)∈L->x.first.Nodup) (hlam:1<=lam):∀ i,GoodD L lam (stW L lam xs i)
 | 0=>GoodD.nil _ _
 | i+1=>GoodD.step hL hN hlam _ _
end
def Ends06 (R:List (T×Bool)) (c:Bool) (xs:List Int) (l:Nat):Prop:=∃ r∈R,r.2=c∧E xs r.1 (xs.length-l) xs.length
theorem zm3 {R:List (T×Bool)} {r:Nat} (h:r<R.length):(laysOf R).getD r lx0=lay0 (R[r]'h).1:=by
 rw[List.getD_eq_getElem?_getD,List.getElem?_eq_getElem (by rw[zbk];exact h)];simp[laysOf]
theorem zn9 {R:List (T×Bool)} (hf:Few R) {lam:Nat} (hlam:1<=lam) {xs:List Int} (l:Nat):
   ((tellW (laysOf R) (R.map (·.2)) (stW (laysOf R) lam xs xs.length) (0,0)).1.testBit l=true↔1<=l∧l<=lam∧l<=xs.length∧Ends06 R false xs l)∧
   ((tellW (laysOf R) (R.map (·.2)) (stW (laysOf R) lam xs xs.length) (0,0)).2.testBit l=true↔1<=l∧l<=lam∧l<=xs.length∧Ends06 R true xs l):=by
 have key:∀ c:Bool,(∃ x∈stW (laysOf R) lam xs xs.length,∃ y t b,(laysOf R)[x.rule]?=some (y,t)∧(R.map (·.2))[x.rule]?=some b∧t.last.contains x.place=true∧b=c∧x.age=l)↔1<=l∧l<=lam∧l<=xs.length∧Ends06 R c xs l:=by
   intro c;constructor
   . rintro⟨x,hx,y,t,b,e1,e2,e3,rfl,rfl⟩;obtain⟨h1,h2,h3,h4,h5⟩:=(zho hlam x xs.length (Nat.le_refl _)).1 hx;rw[zbk] at h1;have hg:=getD_some e1;rw[hg] at h5;rw[zm3 h1] at hg;have hm:R[x.rule]'h1∈R:=List.getElem_mem _;have hgood:=(zc7 (xs:=xs) (hf.ok _ hm).1).2.has (xs.length-x.age) xs.length;rw[hg] at hgood;refine⟨h2,h3,h4,R[x.rule]'h1,hm,?_,hgood.1 (.inr ⟨x.place,by simpa using e3,h5⟩)⟩;rw[List.getElem?_map,List.getElem?_eq_getElem h1] at e2;exact Option.some.inj e2
   . rintro⟨h2,h3,h4,r,hr,rfl,hE⟩;obtain⟨i,hi,rfl⟩:=List.getElem_of_mem hr;have hgood:=(zc7 (xs:=xs) (hf.ok _ hr).1).2.has (xs.length-l) xs.length;rcases hgood.2 hE with ⟨_,h0⟩|⟨p,hp,hg⟩
     . omega
     . have hl:=zm3 hi;have hL:(laysOf R)[i]?=some ((lay0 (R[i]'hi).1).1,(lay0 (R[i]'hi).1).2):=by
         rw[zcj (by rw[zbk];exact hi),hl]
       refine⟨⟨i,p,l⟩,(zho hlam _ xs.length (Nat.le_refl _)).2 ⟨by rw[zbk];exact hi,h2,h3,h4,?_⟩,_,_,_,hL,by rw[List.getElem?_map,List.getElem?_eq_getElem hi];rfl,by simpa using hp,rfl,rfl⟩;simp only;rw[hl];exact hg
 obtain⟨t1,t2⟩:=zep (laysOf R) (R.map (·.2)) l (stW (laysOf R) lam xs xs.length) (0,0);simp only[Nat.zero_testBit,Bool.false_eq_true,false_or] at t1 t2;exact⟨t1.trans (key false),t2.trans (key true)⟩
theorem ziv (F:Nat->Nat) (rows:List (List Nat)) (b:Int):∀ (u:List Int) (s:Nat),runN F rows (u++[b]) s=(rows.getD (runN F rows u s) []).getD (F b.toNat) 0
 | [],s=>rfl
 | x::u,s=>by
   show runN F rows (u++[b]) _=(rows.getD (runN F rows u _) []).getD (F b.toNat) 0
   exact ziv F rows b u _
theorem zpa {L:List (Lay×Str)} {bs:List Bool} {lam most:Nat} (hL:∀ s x,(s,x)∈L->OkLay s x) (hN:∀ s x,(s,x)∈L->x.first.Nodup) (hlam:1<=lam) (hm:1<=most) {ss:List Sta} {rows:List (List Nat)} (h:srchOf L bs lam most=some (ss,rows)) {xs:List Int} (hx:∀ k,k<xs.length->0<=xs.getD k 0∧xs.getD k 0<=255):
   ∀ i,i<=xs.length->ss[runN (clsOf L bs) rows (xs.take i) 0]?=some (canon L bs (stW L lam xs i)):=by
 unfold srchOf at h;obtain⟨h1,h2,z,h3⟩:=zg0 h (by omega) (Nat.zero_le _) (by simp;omega) ⟨by simp,rfl,fun j hj=>by omega⟩;intro i;induction i with
 | zero =>
   intro _
   show ss[0]?=some (canon L bs [])
   rw[zrt,h3];rfl
 | succ i ih =>
   intro hi;have hi':i<xs.length:=(by omega);have hb:=hx i hi';have ht:xs.take (i+1)=xs.take i++[xs.getD i 0]:=by
     rw[List.take_succ_eq_append_getElem hi'];simp[hi']
   have ih1:=ih (by omega);rw[ht,ziv];obtain⟨j,hj⟩:∃ j,runN (clsOf L bs) rows (xs.take i) 0=j:=⟨_,rfl⟩;rw[hj] at ih1 ⊢;have hjl:j<ss.length:=(List.getElem?_eq_some_iff.1 ih1).1;obtain⟨s,row,e1,e2,e3,e4⟩:=h1.row j hjl;rw[ih1] at e1;have e1:=Option.some.inj e1;have hF:clsOf L bs=numK (keyL (setsN L L.length)):=(by rw[←zhl L bs];rfl);have hlt:clsOf L bs (xs.getD i 0).toNat<cntOf L bs:=zbj _ (by omega);obtain⟨e5,e6⟩:=e4 _ hlt;have hst:=zna (bs:=bs) (lam:=lam) hL hF (zld (xs:=xs) hL hN hlam i) (b:=(xs.getD i 0).toNat) (by omega) rfl;rw[←e1,←hst] at e5 e6;rw[List.getD_eq_getElem?_getD (l:=rows),e2]
   show ss[(row.getD _ 0)]?=_
   rw[List.getD_eq_getElem?_getD (l:=row),e6];exact zvo e5
theorem zp8 {R:List (T×Bool)} (hf:Few R) {lam most:Nat} (hlam:1<=lam) (hm:1<=most) {ss:List Sta} {rows:List (List Nat)} (h:srchOf (laysOf R) (R.map (·.2)) lam most=some (ss,rows)) {xs:List Int} (hx:∀ k,k<xs.length->0<=xs.getD k 0∧xs.getD k 0<=255) (l:Nat):
   ((((ss.map fun s=>mOutP (RR (laysOf R) (R.map (·.2)) lam) s (0,0)).getD (runN (clsOf (laysOf R) (R.map (·.2))) rows xs 0) (0,0)).1.testBit l=true↔1<=l∧l<=lam∧l<=xs.length∧Ends06 R false xs l))∧
   ((((ss.map fun s=>mOutP (RR (laysOf R) (R.map (·.2)) lam) s (0,0)).getD (runN (clsOf (laysOf R) (R.map (·.2))) rows xs 0) (0,0)).2.testBit l=true↔1<=l∧l<=lam∧l<=xs.length∧Ends06 R true xs l)):=by
 have h1:=zpa hf.lay hf.nodup hlam hm h hx xs.length (Nat.le_refl _);rw[List.take_of_length_le (Nat.le_refl _)] at h1;have hg:=zld (xs:=xs) hf.lay hf.nodup hlam xs.length;have hlen:(R.map (·.2)).length=(laysOf R).length:=(by rw[zbk,List.length_map]);have h2:(ss.map fun s=>mOutP (RR (laysOf R) (R.map (·.2)) lam) s (0,0)).getD (runN (clsOf (laysOf R) (R.map (·.2))) rows xs 0) (0,0)=tellW (laysOf R) (R.map (·.2)) (stW (laysOf R) lam xs xs.length) (0,0):=by
   rw[List.getD_eq_getElem?_getD,List.getElem?_map,h1];exact zpz hlen hg.ok
 rw[h2];exact zn9 hf hlam l
end
noncomputable def endsB (R:List (T×Bool)) (c:Bool) (xs:List Int) (k i:Nat):Bool := @decide (∃ r∈R.take i,r.2=c∧E xs r.1 (xs.length-k) xs.length) (Classical.propDecidable _)
theorem endsB_iff {R:List (T×Bool)} {c:Bool} {xs:List Int} {k i:Nat}:endsB R c xs k i=true↔∃ r∈R.take i,r.2=c∧E xs r.1 (xs.length-k) xs.length:=by
 unfold endsB;exact @decide_eq_true_iff _ (Classical.propDecidable _)
theorem zh2 (R:List (T×Bool)) (c:Bool) (xs:List Int) (k:Nat):endsB R c xs k 0=false:=by
 cases h:endsB R c xs k 0
 . rfl
 . obtain⟨r,hr,_⟩:=endsB_iff.1 h;simp at hr
theorem zh3 {R:List (T×Bool)} {c:Bool} {xs:List Int} {k i:Nat} {r:T×Bool} (h:R[i]?=some r) {b:Bool} (hb:b=true↔E xs r.1 (xs.length-k) xs.length):
   endsB R c xs k (i+1)=(endsB R c xs k i||(b&&(r.2==c))):=by
 obtain⟨hi,e⟩:=List.getElem?_eq_some_iff.1 h;have ht:R.take (i+1)=R.take i++[r]:=(by rw[List.take_succ_eq_append_getElem hi,e]);have key:(∃ x∈R.take i++[r],x.2=c∧E xs x.1 (xs.length-k) xs.length)↔(∃ x∈R.take i,x.2=c∧E xs x.1 (xs.length-k) xs.length)∨(b=true∧r.2=c):=by
   constructor
   . rintro⟨x,hx,h1,h2⟩;rcases List.mem_append.1 hx with hx|hx
     . exact .inl ⟨x,hx,h1,h2⟩
     . rw[List.mem_singleton] at hx;subst hx;exact .inr ⟨hb.2 h2,h1⟩
   . rintro (⟨x,hx,h1,h2⟩|⟨h1,h2⟩)
     . exact⟨x,List.mem_append.2 (.inl hx),h1,h2⟩
     . exact⟨r,List.mem_append.2 (.inr (List.mem_singleton.2 rfl)),h2,hb.1 h1⟩
 rw[Bool.eq_iff_iff,endsB_iff,ht,key,Bool.or_eq_true,endsB_iff,Bool.and_eq_true,beq_iff_eq]
theorem zrk {R:List (T×Bool)} {c:Bool} {xs:List Int} {k:Nat}:endsB R c xs k R.length=true↔Ends06 R c xs k:=by
 unfold Ends06;rw[endsB_iff,List.take_length]
theorem zx0 {t:T} (h:WF t) (xs:List Int) (k:Nat) (hk:k<=xs.length):E (xs.drop (xs.length-k)) t 0 (xs.drop (xs.length-k)).length↔E xs t (xs.length-k) xs.length:=by
 have e:=zw8 (xs.take (xs.length-k)) (xs.drop (xs.length-k)) h;rw[List.take_append_drop,List.length_take,List.length_drop,Nat.min_eq_left (Nat.sub_le _ _),show xs.length-k+(xs.length-(xs.length-k))=xs.length by omega] at e;rw[List.length_drop];exact e.symm
noncomputable def wantB (R:List (T×Bool)) (lam:Int) (c:Bool) (xs:List Int) (k:Nat):Bool:=decide (1<=k∧(k:Int)<=lam∧k<=xs.length)&&endsB R c xs k R.length
theorem wantB_iff {R:List (T×Bool)} {lam:Int} {c:Bool} {xs:List Int} {k:Nat}:wantB R lam c xs k=true↔1<=k∧(k:Int)<=lam∧k<=xs.length∧Ends06 R c xs k:=by
 unfold wantB;rw[Bool.and_eq_true,decide_eq_true_iff,zrk];constructor
 . rintro⟨⟨a,b,d⟩,e⟩;exact⟨a,b,d,e⟩
 . rintro⟨a,b,d,e⟩;exact⟨⟨a,b,d⟩,e⟩
theorem zf0 (m k:Nat):(((m:Int) / 2 ^ k).tmod 2==1)=m.testBit k:=by
 rw[Nat.testBit_eq_decide_div_mod_eq];have e:(m:Int) / 2 ^ k=((m / 2 ^ k:Nat):Int):=(by simp);rw[e];generalize m / 2 ^ k=q;rw[Int.tmod_eq_emod_of_nonneg (by omega),Bool.eq_iff_iff,beq_iff_eq,decide_eq_true_iff];omega
section
open Go Go.RowKit
attribute [local go_sem ↓] Go.wp_at_zero Go.wp_at_succ
theorem zfd {w w':World} {B:Nat} {O:Nat->Prop} {vN:Value} {rows:List (List Nat)} (h:Nxt w B O vN rows) (hb:Below w.heap.size w w'):Nxt w' B O vN rows:=h.kept (Kept.of_below (fun _=>False) hb) fun b _ e=>e
theorem zfc {w w':World} {B:Nat} {O:Nat->Prop} {vO:Value} {outs:List (Nat×Nat)} (h:Ots w B O vO outs) (hb:Below w.heap.size w w'):Ots w' B O vO outs:=h.kept (Kept.of_below (fun _=>False) hb) fun b _ e=>e
set_option maxRecDepth 20000 in
set_option maxHeartbeats 4000000 in
theorem zoz {w:World} {B B' n c2 cw:Nat} {O O':Nat->Prop} {F:Nat->Nat} {vN vO:Value} {rows:List (List Nat)} {outs:List (Nat×Nat)} {A2 Aw:Option Addr} {R:List (T×Bool)} {lam:Int} {xs:List Int} (hm:OkM F n rows outs) (hN:Nxt w B O vN rows) (hO:Ots w B' O' vO outs)
   (hR:RdRules w A2 R) (hwf:∀ r∈R,WF r.1) (hRl:R.length<=4) (hx:RdB w w.heap.size Aw xs) (hby:∀ k,k<xs.length->0<=xs.getD k 0∧xs.getD k 0<=255) (hl:xs.length<=60) (hcap:xs.length<=cw∧cw<=9223372036854775807) (htab:Tab w)
   (hp:∀ k,(outs.getD (runN F rows xs 0) (0,0)).1.testBit k=wantB R lam false xs k) (hq:∀ k,(outs.getD (runN F rows xs 0) (0,0)).2.testBit k=wantB R lam true xs k):
   Calls Tryd.prog 24 #[.agg (machC F n vN vO),.slice A2 R.length c2,.int .i64 lam,.slice Aw xs.length cw] w fun e w'=>e = .returned (.bool true)∧Below w.heap.size w w':=by
 obtain⟨An,cn,hfn⟩:=hN.form;obtain⟨Ao,co,hfo⟩:=hO.form;subst hfn hfo;obtain⟨S,hS⟩:∃ S,rows.length=S:=⟨_,rfl⟩;obtain⟨N,hNN⟩:∃ N,xs.length=N:=⟨_,rfl⟩;obtain⟨M,hM⟩:∃ M,R.length=M:=⟨_,rfl⟩;have hb1:Below w.heap.size w (w.alloc (.cells (machC F n (.slice An rows.length cn) (.slice Ao outs.length co)) 60)):=(Below.refl _ _).alloc (Nat.le_refl _) _;have hrun:=zwm (c:=cw) hm (zfd hN hb1) (zfc hO hb1) ((hx.below hb1).more hb1.size) hby (by omega);have hbx:=BoxM.new w 60 F (n:Int) (.slice An rows.length cn) (.slice Ao outs.length co);generalize outs.getD (runN F rows xs 0) (0,0)=o at *;obtain⟨w1,hw1⟩:∃ w1,w.alloc (.cells (machC F n (.slice An rows.length cn) (.slice Ao outs.length co)) 60)=w1:=⟨_,rfl⟩;rw[hw1] at hbx hb1 hrun;rw[hNN] at hrun hl hcap ⊢;rw[hM] at hRl ⊢;have HW1:=Zh hw1;have HBX:=Zh hbx;have HB1:=Zh hb1;have HRUN:=Zh hrun;have HNN:=Zh hNN;have HMM:=Zh hM;have HR:=Zh hR;have HWF:=Zh hwf;have HX:=Zh hx;have HBY:=Zh hby;have HT:=Zh htab;have HP:=Zh hp;have HQ:=Zh hq;clear hw1 hbx hb1 hrun hNN hM hR hwf hx hby htab hp hq hm hN hO hS;go_enter Tryd.func24,Tryd.ntmps24;go_upto_region 1 with fail
 rw[HW1.out];go_upto_region 3 with (first
   | (refine zej (by rfl) _ (by rfl) (by rfl) Tryd.underlying60 rfl Tryd.sizeMM HBX.out ?_;go_simp)
   | (go_at_call 53;(with_reducible refine HRUN.out.mono ?_);rintro e w2 ⟨rfl,hb2⟩;have HB2:=Zh (gro HB1.out hb2);clear hb2)
   | fail)
 have HRU:=Zh (Below.refl w.heap.size w);obtain⟨g9,hg9⟩:∃ g,w2.heap.size=g:=⟨_,rfl⟩;have hb3:Below w2.heap.size w2 (w2.alloc (.cells #[.int .u64 (o.1:Int),.int .u64 (o.2:Int)] 123)):=(Below.refl _ _).alloc (Nat.le_refl _) _;have ho3:(w2.alloc (.cells #[.int .u64 (o.1:Int),.int .u64 (o.2:Int)] 123)).heap[w2.heap.size]?=some (.cells #[.int .u64 (o.1:Int),.int .u64 (o.2:Int)] 123 (0,0)):=heap_alloc_new w2 _;generalize w2.alloc (.cells #[.int .u64 (o.1:Int),.int .u64 (o.2:Int)] 123)=w3 at *;rw[hg9] at ho3 ⊢;have HO3:=Zh ho3;have HB3:=Zh (gro HB2.out hb3);clear hb3 ho3 hg9 HRUN HBX;go_loopg [10] 64 (fun mm i wr=>∃ k:Nat,i = .int .i64 (k:Int)∧k<=64∧mm=64-k∧Below w3.heap.size w3 wr)
 case atStart=>exact⟨0,by first | rfl | trivial,Nat.zero_le _,by first | rfl | trivial,Below.refl _ _⟩
 case round =>
   obtain⟨k,rfl,hk,hmk,hbw⟩:=hrel;have HMK:=Zh hmk;have HBW:=Zh hbw;clear hmk hbw
   by_cases hk64:k<64
   . have hk1:(k:Int)<64:=(by omega);have hk0:(0:Int)<=(k:Int):=(by omega);go_wp2
     by_cases hok:1<=k∧(k:Int)<=lam∧k<=N
     . obtain⟨d1,d2,d3⟩:=hok;have d1':(1:Int)<=(k:Int):=(by omega);have d3':(k:Int)<=(N:Int):=(by omega);have z0:endsB R false xs k 0=false:=zh2 R false xs k;have z1:endsB R true xs k 0=false:=zh2 R true xs k;go_loopg [11,12,13] M (fun m2 p q i wr2=>∃ j:Nat,i = .int .i64 (j:Int)∧j<=M∧m2=M-j∧p = .bool (endsB R false xs k j)∧q = .bool (endsB R true xs k j)∧Below w3.heap.size w3 wr2)
       case atStart=>exact⟨0,by first | rfl | trivial,Nat.zero_le _,by first | rfl | trivial,by rw[z0],by rw[z1],HBW.out⟩
       case round =>
         obtain⟨j,rfl,hj,hmj,rfl,rfl,hbj⟩:=hrel;have HMJ:=Zh hmj;have HBJ:=Zh hbj;clear hmj hbj z0 z1
         by_cases hjM:j<M
         . have hjM':(j:Int)<(M:Int):=(by omega);have hj0:(0:Int)<=(j:Int):=(by omega);obtain⟨r,hr⟩:∃ r,R[j]?=some r:=⟨_,List.getElem?_eq_getElem (by rw[HMM.out];exact hjM)⟩;have hwfr:=HWF.out r (List.mem_of_getElem? hr);have hbB:=gro HB3.out HBJ.out;obtain⟨g,off,kk,e1,hg,hcg,htg⟩:=(HR.out.stays hbB) j r hr;subst e1;obtain⟨A1,n1,c1,rfl⟩:=htg.form;have x0:wr.cell? ⟨g,off+j*9,none⟩=some (.int .i64 r.1.op):=hcg 0 _ rfl;have x1:=hcg 1 _ rfl;have x2:=hcg 2 _ rfl;have x3:=hcg 3 _ rfl;have x4:=hcg 4 _ rfl;have x5:=hcg 5 _ rfl;have x6:=hcg 6 _ rfl;have x7:=hcg 7 _ rfl;have HX8:=Zh (hcg 8 _ rfl);obtain⟨b,o2,rfl,hbl,hcc⟩:=HX.out.at (k:=0) (by rw[HNN.out];omega);clear hcc hbl;obtain⟨d,hd⟩:∃ d,N-k=d:=⟨_,rfl⟩;have s0:(0:Int)<=(d:Int):=(by omega);have s1:(d:Int)<=(N:Int):=(by omega);have s2:(N:Int)<=(cw:Int):=(by omega);have s3:¬ cw=d:=(by omega);have s4:(N:Int)-(k:Int)=(d:Int):=(by omega);have s5:(d:Int).toNat=d:=(by omega);have s6:IntKind.i64.wrap (d:Int)=(d:Int):=IntWalk.i64_in _ (by omega);have HDD:=Zh hd;clear hd;have hlen:(xs.drop d).length=N-d:=(by rw[List.length_drop,HNN.out]);have hdx:xs.length-k=d:=(by rw[HNN.out];exact HDD.out);have hby2:∀ i,i<(xs.drop d).length->0<=(xs.drop d).getD i 0∧(xs.drop d).getD i 0<=255:=fun i hi=>by
             have:=HBY.out (d+i) (by rw[hlen] at hi;rw[HNN.out];omega);rw[List.getD_eq_getElem?_getD,List.getElem?_drop,←List.getD_eq_getElem?_getD];exact this
           have hbB2:Below w.heap.size w wr.drew:=hbB.drew;have hlast:=zx0 hwfr xs k (by rw[HNN.out];omega);rw[hdx] at hlast;have hHas:=(zqu (w:=wr.drew) (c:=cw-d) (A:=some ⟨b,o2+d,none⟩) (xs:=xs.drop d) hwfr (htg.stays (Below.refl _ _).drew) (((HX.out.below hbB2).more hbB2.size).drop d) hby2 (by rw[hlen];omega) ⟨Nat.lt_of_lt_of_le HT.out.1 hbB2.size,fun i hi=>za2 (HT.out.2 i hi) hbB2⟩).mono fun e w' h=>(show ∃ bb:Bool,e = .returned (.bool bb)∧(bb=true↔E xs r.1 (xs.length-k) xs.length)∧Below wr.drew.heap.size wr.drew w' from by
             obtain⟨bb,h1,h2,h3⟩:=h;exact⟨bb,h1,by rw[hdx];exact h2.trans hlast,h3⟩)
           unfold nodeP at hHas;rw[hlen] at hHas;have HHAS:=Zh hHas;have HS0:=Zh (fun (bb:Bool) hb=>zh3 (c:=false) (xs:=xs) (k:=k) hr (b:=bb) hb);have HS1:=Zh (fun (bb:Bool) hb=>zh3 (c:=true) (xs:=xs) (k:=k) hr (b:=bb) hb);clear hcg htg hHas hlast hbB2 hby2 hdx hlen hr hwfr;generalize endsB R false xs k j=P0 at *;generalize endsB R true xs k j=Q0 at *;go_wp2_with fail;go_still_tail 11,(by kernel_rfl);change wpList _ _ _ _ _ (World.drew _);go_upto_region 11 with (go_at_call 9;(with_reducible refine HHAS.out.mono ?_);rintro e w5 ⟨bb,rfl,hbb,hb5⟩;have HB5:=Zh (zay hb5);have E0:=Zh (HS0.out bb hbb);have E1:=Zh (HS1.out bb hbb);clear hb5 hbb)
           have x8:=za2 HX8.out HB5.out;clear HS0 HS1 HHAS HX8 x0 x1 x2 x3 x4 x5 x6 x7;obtain⟨cc,hcc⟩:∃ cc,r.2=cc:=⟨_,rfl⟩;rw[hcc] at x8 E0 E1;clear hcc;cases P0 <;> cases Q0 <;> cases bb <;> cases cc
           all_goals
             go_wp2;go_roundg (M-(j+1))
             case measure=>have:=HMJ.out;omega
             case rel=>exact⟨j+1,by go_num,by omega,rfl,by rw[E0.out];rfl,by rw[E1.out];rfl,gro HBJ.out HB5.out⟩
         . have hjM':¬ (j:Int)<(M:Int):=(by omega);obtain rfl:j=M:=by omega
           have hq0:∀ c,endsB R c xs k j=wantB R lam c xs k:=fun c=>by
             unfold wantB;rw[HMM.out,decide_eq_true ⟨d1,d2,by rw[HNN.out];exact d3⟩,Bool.true_and]
           have t1:(((o.1:Int) / 2 ^ k).tmod 2==1)=wantB R lam false xs k:=(by rw[zf0,HP.out k]);have t2:(((o.2:Int) / 2 ^ k).tmod 2==1)=wantB R lam true xs k:=(by rw[zf0,HQ.out k]);rw[hq0,hq0];have o3:=(HBJ.out.block g9 (za0 HO3.out)).trans HO3.out;have o1:wr.cell? ⟨g9,0,none⟩=some (.int .u64 (o.1:Int)):=cell_of_row wr _ 0 _ 123 (0,0) o3;have o2:wr.cell? ⟨g9,1,none⟩=some (.int .u64 (o.2:Int)):=cell_of_row wr _ 1 _ 123 (0,0) o3;clear hq0 o3;generalize wantB R lam false xs k=P0 at *;generalize wantB R lam true xs k=Q0 at *;cases P0 <;> cases Q0
           all_goals
             go_wp2;go_roundg (64-(k+1))
             case measure=>have:=HMK.out;omega
             case rel=>exact⟨k+1,by go_num,by omega,rfl,HBJ.out⟩
     . have hw:∀ c,wantB R lam c xs k=false:=fun c=>by
         cases h:wantB R lam c xs k
         . rfl
         . have:=wantB_iff.1 h;exact absurd ⟨this.1,this.2.1,by have:=HNN.out;omega⟩ hok
       have t1:(((o.1:Int) / 2 ^ k).tmod 2==1)=false:=(by rw[zf0,HP.out k,hw]);have t2:(((o.2:Int) / 2 ^ k).tmod 2==1)=false:=(by rw[zf0,HQ.out k,hw]);have o3:=(HBW.out.block g9 (za0 HO3.out)).trans HO3.out;have o1:wr.cell? ⟨g9,0,none⟩=some (.int .u64 (o.1:Int)):=cell_of_row wr _ 0 _ 123 (0,0) o3;have o2:wr.cell? ⟨g9,1,none⟩=some (.int .u64 (o.2:Int)):=cell_of_row wr _ 1 _ 123 (0,0) o3;have hno:(¬ (0:Int)<(M:Int))∨((0:Int)<(M:Int)∧¬ (1:Int)<=(k:Int))∨((0:Int)<(M:Int)∧(1:Int)<=(k:Int)∧¬ (k:Int)<=lam)∨((0:Int)<(M:Int)∧(1:Int)<=(k:Int)∧(k:Int)<=lam∧¬ (k:Int)<=(N:Int)):=(by omega);clear hok hw o3;rcases hno with d1|⟨d1,d2⟩|⟨d1,d2,d3⟩|⟨d1,d2,d3,d4⟩
       all_goals
         refine wp_loop_rounds 1 ?_;rw[rounds_succ];go_wp2;go_roundg (64-(k+1))
         case measure=>have:=HMK.out;omega
         case rel=>exact⟨k+1,by go_num,by omega,rfl,HBW.out⟩
   . have hk1:¬ (k:Int)<64:=(by omega);go_wp2;go_ret;exact⟨rfl,gro HB3.out HBW.out⟩
end
end Go.Proofs.YtgbdanddbgomhaaDoor
