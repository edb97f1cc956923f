import Derived.Test.YtgbdanddbgomhaaGreatDoorMv21
import Derived.Test.YtgbdanddbgomhaaGreatDoorMv4
set_option linter.unusedVariables false
set_option linter.unusedSimpArgs false
namespace Go.Proofs.YtgbdanddbgomhaaGreatDoor
open Go Go.RowKit
mutual
def anyP:T->Nat->Bool
 | .mk op p lo hi l=>fun x=>p x||anyL l x
def anyL:List T->Nat->Bool
 | []=>fun _=>false
 | t::ts=>fun x=>anyP t x||anyL ts x
end
theorem zoi (t:T):anyP t=orP t.set (anyL t.kids):=by cases t;rfl
theorem zqi (l l':List T) (x:Nat):anyL (l++l') x=(anyL l x||anyL l' x):=by
 induction l with
 | nil=>rfl
 | cons t ts ih=>simp[anyL,ih,Bool.or_assoc]
theorem zi1 (l:List T) (j:Nat) (h:j<l.length) (x:Nat):anyL (l.take (j+1)) x=(anyL (l.take j) x||anyP (l[j]'h) x):=by
 rw[List.take_succ_eq_append_getElem h,zqi];simp[anyL]
def RetSetOf (w:World) (p:Nat->Bool) (e:Ending) (w':World):Prop:=e = .returned (setV p)∧Below w.heap.size w w'
theorem Box8.put4 {w:World} {g g':Nat} {t:T} {k:Value} (h:Box8 w g t k) (hg:g≠g') (q:Nat->Bool):Box8 (Go.Proofs.YtgbdanddbgomhaaGreatDoor.put4 w g' q) g t k:=by
 unfold Box8 Go.Proofs.YtgbdanddbgomhaaGreatDoor.put4 at *;rw[Below.heap_setCell _ _ _ _ hg,Below.heap_setCell _ _ _ _ hg,Below.heap_setCell _ _ _ _ hg,Below.heap_setCell _ _ _ _ hg];exact h
section
open Go
def Shift (a n:Nat) (R R':Nat->Nat->Prop):Prop:=∀ i j,i<=n->j<=n->(R (a+i) (a+j)↔R' i j)
def Onw (R:Nat->Nat->Prop) (N:Nat):Prop:=∀ i j,i<=N->R i j->i<=j∧j<=N
end
section
open Go
theorem zi0:∀ (l:List Nat) (a:Nat),l.foldl (best1 false) a=0->a=0∨0∈l
 | [],a,h => .inl h
 | b::l,a,h=>by
   rcases zi0 l (best1 false a b) h with h1|h1
   . unfold best1 at h1;simp at h1;rcases h1 with h1|h1
     . exact .inl (by omega)
     . exact .inr (by simp;omega)
   . exact .inr (by simp[h1])
theorem E_null {xs:List Int} {t:T} (h:WF t) (i:Nat):LenU false t=0->E xs t i i:=by
 induction h with
 | one p=>intro h0;simp[LenU] at h0
 | cat l h2 hN h ih =>
   intro h0;have key:∀ l:List T,(∀ x∈l,LenU false x=0->E xs x i i)->(LenL false l).sum=0->ECat xs l i i:=by
     intro l;induction l with
     | nil=>intro _ _;rfl
     | cons u us ihu =>
       intro hu hs;simp only[LenL,List.sum_cons] at hs;exact⟨i,hu u (by simp) (by omega),ihu (fun x hx=>hu x (by simp[hx])) (by omega)⟩
   rw[zoj];refine key l ih ?_
   simpa [LenU] using h0
 | alt l h2 hN h ih =>
   intro h0;rw[zok,zcn];have h1:bestN false (LenL false l)=0:=(by simpa [LenU] using h0);have h3:0∈LenL false l:=by
     cases l with
     | nil=>simp at h2
     | cons u us =>
       rw[LenL] at h1 ⊢;rcases zi0 _ _ h1 with h4|h4
       . rw[h4];simp
       . simp[h4]
   rw[zaw,List.mem_map] at h3;obtain⟨u,hu,e⟩:=h3;exact⟨u,hu,ih u hu e⟩
 | rep m n u h0 h1 h2 h3 h ih =>
   intro hz;rw[zlv,zcm];have e:m.toNat*LenU false u=0:=(by simpa [LenU,LenL,bestN] using hz);rcases Nat.mul_eq_zero.1 e with e1|e1
   . exact⟨0,by omega,by omega,rfl⟩
   . have hu:=ih e1;have key:∀ c,iter (E xs u) c i i:=by
       intro c;induction c with
       | zero=>rfl
       | succ c ihc=>exact⟨i,ihc,hu⟩
     exact⟨m.toNat,by omega,by omega,key _⟩
theorem zbk {xs:List Int} {t:T} (h:WF t) (i:Nat) (hi:i<=xs.length):E xs t i i↔lenN false t=0:=by
 rw[zim false h];constructor
 . intro hE;have:=E_len h i i hi hE;omega
 . intro h0;exact E_null h i (by omega)
structure Cf where
 lam:Int
 q:Int
 cap:Int
 rate:Nat
 mask:Nat
def cfOk (c:Cf):Bool:=decide (1<=c.lam∧c.lam<=32)&&(rateOk c.rate&&(decide ((rateN c.rate:Int)<=c.q∧c.q<=1024)&&decide (1<=c.cap∧c.cap<=1000)))
def readP (lam:Int) (m:Nat) (s:ByteArray):Except Int T:=match parse s with
 | .error (c,_) => .error c
 | .ok t=>if lenN false t=0 then .error 5 else if lam<(lenN true t:Int) then .error 6 else if anyP t m=true then .error 7 else .ok t
def checkL (lam:Int) (m:Nat):List Ru->Nat->List (T×Bool)->Except (Int×Int) (List (T×Bool))
 | [],_,acc => .ok acc
 | x::l,k,acc=>match readP lam m x.pat with
   | .error c => .error (c,(k:Int))
   | .ok t=>checkL lam m l (k+1) (acc++[(t,x.luhn)])
def checkR (s:ByteArray) (c:Cf):Except (Int×Int) (List (T×Bool)):=
 if cfOk c=true then match parseR s with
   | .error (n,k) => .error (n,(k:Int))
   | .ok l=>checkL c.lam c.mask l 0 []
 else .error (1,-1)
theorem zp2 {lam:Int} {m:Nat} {s:ByteArray} {t:T} (h:readP lam m s = .ok t):parse s = .ok t∧WF t∧1<=lenN false t∧(lenN true t:Int)<=lam∧anyP t m=false:=by
 unfold readP at h;split at h
 . cases h
 . rename_i t' ht;split at h
   . cases h
   . split at h
     . cases h
     . split at h
       . cases h
       . rename_i h1 h2 h3;cases h;exact⟨ht,zgb ht,by omega,by omega,by simpa using h3⟩
theorem zg5 {lam:Int} {m:Nat}:∀ (l:List Ru) (k:Nat) (acc r:List (T×Bool)),checkL lam m l k acc = .ok r->r.length=acc.length+l.length
 | [],k,acc,r,h=>by cases h;simp
 | x::l,k,acc,r,h=>by
   rw[checkL] at h;split at h
   . cases h
   . have:=zg5 l _ _ _ h;rw[this];simp;omega
theorem zhv {lam:Int} {m:Nat}:∀ (l:List Ru) (k:Nat) (acc r:List (T×Bool)),checkL lam m l k acc = .ok r->∀ x∈r,x∈acc∨(WF x.1∧1<=lenN false x.1∧(lenN true x.1:Int)<=lam∧anyP x.1 m=false)
 | [],k,acc,r,h=>fun x hx=>by cases h;exact .inl hx
 | y::l,k,acc,r,h=>fun x hx=>by
   rw[checkL] at h;split at h
   . cases h
   . rename_i t ht;rcases zhv l _ _ _ h x hx with h1|h1
     . rcases List.mem_append.1 h1 with h2|h2
       . exact .inl h2
       . rw[List.mem_singleton] at h2;subst h2;exact .inr (zp2 ht).2
     . exact .inr h1
theorem zo5 {s:ByteArray} {c:Cf} {r:List (T×Bool)} (h:checkR s c = .ok r):cfOk c=true∧r.length<=8∧∀ x∈r,WF x.1∧1<=lenN false x.1∧(lenN true x.1:Int)<=c.lam∧anyP x.1 c.mask=false:=by
 unfold checkR at h;split at h
 . rename_i hc;split at h
   . cases h
   . rename_i l hl;have h8:=zcv hl;have h1:=zg5 _ _ _ _ h;refine⟨hc,by simpa [h1] using h8,fun x hx=>?_⟩;rcases zhv _ _ _ _ h x hx with h2|h2
     . cases h2
     . exact h2
 . cases h
theorem zkv {s:ByteArray} {x:Ru} (h:ruleT s=some x):x.pat.size<=s.size:=by
 unfold ruleT at h;split at h
 . cases h
 . split at h
   . cases h;unfold patOf;rw[ByteArray.size_extract];omega
   . cases h
theorem zcx (N:Nat):∀ (ls:List ByteArray) (k:Nat) (acc l:List Ru),(∀ x∈ls,x.size<=N)->(∀ x∈acc,x.pat.size<=N)->parseL ls k acc = .ok l->∀ x∈l,x.pat.size<=N
 | [],k,acc,l,h1,h2,h=>fun x hx=>by rw[parseL] at h;cases h;exact h2 x hx
 | y::ls,k,acc,l,h1,h2,h=>by
   have h1':∀ x∈ls,x.size<=N:=fun x hx=>h1 x (by simp[hx])
   rw[parseL] at h;split at h
   . exact zcx N ls _ _ _ h1' h2 h
   . split at h
     . cases h
     . rename_i z hz;split at h
       . cases h
       . split at h
         . cases h
         . refine zcx N ls _ _ _ h1' (fun x hx=>?_) h;rcases List.mem_append.1 hx with h3|h3
           . exact h2 x h3
           . rw[List.mem_singleton] at h3;subst h3;exact Nat.le_trans (zkv hz) (h1 y (by simp))
theorem zep {s:ByteArray} {l:List Ru} (h:parseR s = .ok l):∀ x∈l,x.pat.size<=s.size:=by
 unfold parseR at h;split at h
 . cases h
 . exact zcx s.size _ _ _ _ (zcy s) (fun x hx=>by cases hx) h
theorem zdq:∀ (ls:List ByteArray) (k:Nat) (acc:List Ru) (n:Int) (a:Nat),parseL ls k acc = .error (n,a)->n≠0
 | [],k,acc,n,a,h=>by rw[parseL] at h;cases h
 | y::ls,k,acc,n,a,h=>by
   rw[parseL] at h;split at h
   . exact zdq ls _ _ _ _ h
   . split at h
     . cases h;decide
     . split at h
       . cases h;decide
       . split at h
         . cases h;decide
         . exact zdq ls _ _ _ _ h
theorem zl0 {s:ByteArray} {n:Int} {a:Nat} (h:parseR s = .error (n,a)):¬ n=0:=by
 unfold parseR at h;split at h
 . cases h;decide
 . exact zdq _ _ _ _ _ h
end
section
attribute [local go_sem ↓] Go.wp_at_zero Go.wp_at_succ
set_option maxRecDepth 20000 in
set_option maxHeartbeats 4000000 in
theorem zng:∀ (N:Nat) (t:T) (w:World) (ok:Nat->Prop) (k:Value),SizeOf.sizeOf t<=N->WF t->Tree w ok t k->
   Calls Tryz.prog 14 #[nodeP t k] w (RetSetOf w (anyP t)):=by
 intro N;induction N with
 | zero=>intro t w ok k h;obtain⟨op,p,lo,hi,l⟩:=t;simp at h
 | succ N ih =>
 intro t w ok k hN hwf ht;obtain⟨A,n',c,rfl⟩:=ht.form;obtain⟨hn,hm⟩:=ht.bound;have hlen:=hwf.len;rw[←hn] at hlen;unfold maxLen at hm;have b1:=((Box8.new w t (.slice A n' c)).alloc (.cells #[.int .u64 0,.int .u64 0,.int .u64 0,.int .u64 0] 38)).alloc (.cells #[.int .u64 (word t.set 0),.int .u64 (word t.set 1),.int .u64 (word t.set 2),.int .u64 (word t.set 3)] 38);have bR:=(Box4.new0 (w.alloc (.cells #[.int .i64 t.op,.int .u64 (word t.set 0),.int .u64 (word t.set 1),.int .u64 (word t.set 2),.int .u64 (word t.set 3),.int .i64 t.lo,.int .i64 t.hi,.slice A n' c] 41))).alloc (.cells #[.int .u64 (word t.set 0),.int .u64 (word t.set 1),.int .u64 (word t.set 2),.int .u64 (word t.set 3)] 38);have bS:=Box4.new ((w.alloc (.cells #[.int .i64 t.op,.int .u64 (word t.set 0),.int .u64 (word t.set 1),.int .u64 (word t.set 2),.int .u64 (word t.set 3),.int .i64 t.lo,.int .i64 t.hi,.slice A n' c] 41)).alloc (.cells #[.int .u64 0,.int .u64 0,.int .u64 0,.int .u64 0] 38)) t.set;have hB:Below w.heap.size w (((w.alloc (.cells #[.int .i64 t.op,.int .u64 (word t.set 0),.int .u64 (word t.set 1),.int .u64 (word t.set 2),.int .u64 (word t.set 3),.int .i64 t.lo,.int .i64 t.hi,.slice A n' c] 41)).alloc (.cells #[.int .u64 0,.int .u64 0,.int .u64 0,.int .u64 0] 38)).alloc (.cells #[.int .u64 (word t.set 0),.int .u64 (word t.set 1),.int .u64 (word t.set 2),.int .u64 (word t.set 3)] 38)):=(((Below.refl _ _).alloc (Nat.le_refl _) _).alloc (by simp) _).alloc (by simp;omega) _;rw[World.size_alloc] at bR bS;rw[World.size_alloc] at bS;have HN:=Zh hn;have HT:=Zh ht;have HWF:=Zh hwf;have HB1:=Zh b1;have HBR:=Zh bR;have HBS:=Zh bS;have IH:=Zh ih;clear hn ih hwf ht b1 bR bS;unfold nodeP;go_enter Tryz.func14,Tryz.ntmps14;go_wp2;go_loopg [11] n' (fun m i wr=>∃ j:Nat,i = .int .i64 (j:Int)∧j<=n'∧m=n'-j∧Box8 wr w.heap.size t (.slice A n' c)∧Box4 wr (w.heap.size+1) noneP∧Box4 wr (w.heap.size+1+1) (orP t.set (anyL (t.kids.take j)))∧Below w.heap.size w wr)
 case atStart=>exact⟨0,rfl,Nat.zero_le _,rfl,HB1.out,HBR.out,HBS.out.congr fun x _=>by simp[orP,anyL],hB⟩
 case round =>
   obtain⟨j,rfl,hj,hmj,x1,xR,xS,hW⟩:=hrel;have HMJ:=Zh hmj;obtain⟨c0,c1,c2,c3,c4,c5,c6,c7⟩:=x1.cell;obtain⟨s0,s1,s2,s3⟩:=xS.cell;obtain⟨f0,f1,f2,f3⟩:=xS.frozen;clear hmj
   by_cases hlt:j<n'
   . have hlt':j<t.kids.length:=(by rw[←HN.out];exact hlt);obtain⟨g,B,m1,m2,e1,hg1,htk,hcells⟩:=kid8 HT.out j (List.getElem?_eq_getElem hlt');subst e1;have hks:=zas t j hlt';have hwk:=HWF.out.at j hlt';have hst:=zi1 t.kids j hlt';generalize t.kids[j]=u at *;have HC:∀ q v,(nodeC u (.slice B m1 m2))[q]?=some v->wr.cell? ⟨g,j*8+q,none⟩=some v:=fun q v h=>by rw[Nat.mul_comm j 8];exact (hW.cell (p:=⟨g,8*j+q,none⟩) hg1).trans (hcells q v h)
     have k0:wr.cell? ⟨g,j*8,none⟩=_:=HC 0 _ rfl;have k1:=HC 1 _ rfl;have k2:=HC 2 _ rfl;have k3:=HC 3 _ rfl;have k4:=HC 4 _ rfl;have k5:=HC 5 _ rfl;have k6:=HC 6 _ rfl;have k7:=HC 7 _ rfl;have HK:=Zh (fun w' (hb:Below wr.heap.size wr w')=>IH.out u w' ok (.slice B m1 m2) (by omega) hwk ((htk.stays hW).stays hb));have HST:=Zh hst;have j0:(0:Int)<=(j:Int):=(by omega);have j1:(j:Int)<(n':Int):=(by omega);clear HC hcells htk hks hwk hst;unfold nodeP RetSetOf at HK;generalize hq:orP t.set (anyL (t.kids.take j))=q at *;have HQ:=Zh hq;clear hq;have hls:=xS.lt;go_wp2_with fail;go_region_law (first
       | (go_simp;go_at_call 14;(with_reducible refine (HK.out _ (by first | exact ((Below.refl _ _).alloc (Nat.le_refl _) _).drew | exact (Below.refl _ _).alloc (Nat.le_refl _) _)).mono ?_);rintro e w5 ⟨rfl,hb5⟩;unfold setV;have hb5':=zaf hb5;obtain⟨n0,n1,n2,n3⟩:=((xS.alloc _).stays hb5').cell)
       | (go_simp;go_at_call 32;(with_reducible refine (or_p q (anyP u) _).mono ?_);rintro e w6 ⟨rfl,hb6⟩;unfold setV;obtain⟨z0,z1,z2,z3⟩:=(((xS.alloc _).stays hb5').stays hb6).cell;obtain⟨y0,y1,y2,y3⟩:=(((xS.alloc _).stays hb5').stays hb6).frozen))
     all_goals
       go_wp2;go_roundg (n'-(j+1))
       case measure=>have:=HMJ.out;omega
       case rel =>
         have hz:=hW.size;refine⟨j+1,by go_num,by omega,rfl,(((x1.alloc _).stays hb5').stays hb6).put4 (by omega) _,(((xR.alloc _).stays hb5').stays hb6).putFar (by omega) _,((((xS.alloc _).stays hb5').stays hb6).put (orP q (anyP u))).congr (fun x _=>?_),zac (gro (gro1 hW hb5') hb6) (by omega) _⟩;rw[←HQ.out];simp[orP,HST.out x,Bool.or_assoc]
   . have hjn:j=t.kids.length:=(by rw[←HN.out];omega);have hwhole:t.kids.take j=t.kids:=(by rw[hjn];exact List.take_length);rw[hwhole,←zoi] at xS;clear s0 s1 s2 s3 f0 f1 f2 f3;obtain⟨s0,s1,s2,s3⟩:=xS.cell;obtain⟨r0,r1,r2,r3⟩:=xR.frozen;obtain⟨r4,r5,r6,r7⟩:=xR.cell;have hz:=hW.size;have hlr:=xR.lt;go_wp2;have y:=(xR.put (anyP t)).cell;unfold put4 at y;obtain⟨y0,y1,y2,y3⟩:=y;refine bodyPost_ret (v:=setV (anyP t)) ?_ rfl ⟨rfl,zac (g:=w.heap.size+1) hW (by omega) (anyP t)⟩;unfold setV;simp[results,Tryz.results14,go_sem,y0,y1,y2,y3]
theorem zdd {t:T} {k:Value} {ok:Nat->Prop} (w:World) (hwf:WF t) (ht:Tree w ok t k):Calls Tryz.prog 14 #[nodeP t k] w (RetSetOf w (anyP t)):=
 zng _ t w ok k (Nat.le_refl _) hwf ht
end
section
attribute [local go_sem ↓] Go.wp_at_zero Go.wp_at_succ
set_option maxRecDepth 20000 in
set_option maxHeartbeats 4000000 in
theorem zqh:∀ (N:Nat) (t:T) (w:World) (ok:Nat->Prop) (k:Value),SizeOf.sizeOf t<=N->WF t->Tree w ok t k->
   Calls Tryz.prog 26 #[nodeP t k] w (RetSetOf w (anyP t)):=by
 intro N;induction N with
 | zero=>intro t w ok k h;obtain⟨op,p,lo,hi,l⟩:=t;simp at h
 | succ N ih =>
 intro t w ok k hN hwf ht;obtain⟨A,n',c,rfl⟩:=ht.form;obtain⟨hn,hm⟩:=ht.bound;have hlen:=hwf.len;rw[←hn] at hlen;unfold maxLen at hm;have b1:=((Box8.new w t (.slice A n' c)).alloc (.cells #[.int .u64 0,.int .u64 0,.int .u64 0,.int .u64 0] 38)).alloc (.cells #[.int .u64 (word t.set 0),.int .u64 (word t.set 1),.int .u64 (word t.set 2),.int .u64 (word t.set 3)] 38);have bR:=(Box4.new0 (w.alloc (.cells #[.int .i64 t.op,.int .u64 (word t.set 0),.int .u64 (word t.set 1),.int .u64 (word t.set 2),.int .u64 (word t.set 3),.int .i64 t.lo,.int .i64 t.hi,.slice A n' c] 41))).alloc (.cells #[.int .u64 (word t.set 0),.int .u64 (word t.set 1),.int .u64 (word t.set 2),.int .u64 (word t.set 3)] 38);have bS:=Box4.new ((w.alloc (.cells #[.int .i64 t.op,.int .u64 (word t.set 0),.int .u64 (word t.set 1),.int .u64 (word t.set 2),.int .u64 (word t.set 3),.int .i64 t.lo,.int .i64 t.hi,.slice A n' c] 41)).alloc (.cells #[.int .u64 0,.int .u64 0,.int .u64 0,.int .u64 0] 38)) t.set;have hB:Below w.heap.size w (((w.alloc (.cells #[.int .i64 t.op,.int .u64 (word t.set 0),.int .u64 (word t.set 1),.int .u64 (word t.set 2),.int .u64 (word t.set 3),.int .i64 t.lo,.int .i64 t.hi,.slice A n' c] 41)).alloc (.cells #[.int .u64 0,.int .u64 0,.int .u64 0,.int .u64 0] 38)).alloc (.cells #[.int .u64 (word t.set 0),.int .u64 (word t.set 1),.int .u64 (word t.set 2),.int .u64 (word t.set 3)] 38)):=(((Below.refl _ _).alloc (Nat.le_refl _) _).alloc (by simp) _).alloc (by simp;omega) _;rw[World.size_alloc] at bR bS;rw[World.size_alloc] at bS;have HN:=Zh hn;have HT:=Zh ht;have HWF:=Zh hwf;have HB1:=Zh b1;have HBR:=Zh bR;have HBS:=Zh bS;have IH:=Zh ih;clear hn ih hwf ht b1 bR bS;unfold nodeP;go_enter Tryz.func26,Tryz.ntmps26;go_wp2;go_loopg [4] n' (fun m i wr=>∃ j:Nat,i = .int .i64 (j:Int)∧j<=n'∧m=n'-j∧Box8 wr w.heap.size t (.slice A n' c)∧Box4 wr (w.heap.size+1) noneP∧Box4 wr (w.heap.size+1+1) (orP t.set (anyL (t.kids.take j)))∧Below w.heap.size w wr)
 case atStart=>exact⟨0,rfl,Nat.zero_le _,rfl,HB1.out,HBR.out,HBS.out.congr fun x _=>by simp[orP,anyL],hB⟩
 case round =>
   obtain⟨j,rfl,hj,hmj,x1,xR,xS,hW⟩:=hrel;have HMJ:=Zh hmj;obtain⟨c0,c1,c2,c3,c4,c5,c6,c7⟩:=x1.cell;obtain⟨s0,s1,s2,s3⟩:=xS.cell;obtain⟨f0,f1,f2,f3⟩:=xS.frozen;clear hmj
   by_cases hlt:j<n'
   . have hlt':j<t.kids.length:=(by rw[←HN.out];exact hlt);obtain⟨g,B,m1,m2,e1,hg1,htk,hcells⟩:=kid8 HT.out j (List.getElem?_eq_getElem hlt');subst e1;have hks:=zas t j hlt';have hwk:=HWF.out.at j hlt';have hst:=zi1 t.kids j hlt';generalize t.kids[j]=u at *;have HC:∀ q v,(nodeC u (.slice B m1 m2))[q]?=some v->wr.cell? ⟨g,j*8+q,none⟩=some v:=fun q v h=>by rw[Nat.mul_comm j 8];exact (hW.cell (p:=⟨g,8*j+q,none⟩) hg1).trans (hcells q v h)
     have k0:wr.cell? ⟨g,j*8,none⟩=_:=HC 0 _ rfl;have k1:=HC 1 _ rfl;have k2:=HC 2 _ rfl;have k3:=HC 3 _ rfl;have k4:=HC 4 _ rfl;have k5:=HC 5 _ rfl;have k6:=HC 6 _ rfl;have k7:=HC 7 _ rfl;have HK:=Zh (fun w' (hb:Below wr.heap.size wr w')=>IH.out u w' ok (.slice B m1 m2) (by omega) hwk ((htk.stays hW).stays hb));have HST:=Zh hst;have j0:(0:Int)<=(j:Int):=(by omega);have j1:(j:Int)<(n':Int):=(by omega);clear HC hcells htk hks hwk hst;unfold nodeP RetSetOf at HK;generalize hq:orP t.set (anyL (t.kids.take j))=q at *;have HQ:=Zh hq;clear hq;go_wp2_with fail;go_region_law (first
       | (go_simp;go_at_call 26;(with_reducible refine (HK.out _ (by first | exact (Below.refl _ _).drew | exact Below.refl _ _)).mono ?_);rintro e w5 ⟨rfl,hb5⟩;unfold setV;have hb5':=zaf hb5;obtain⟨n0,n1,n2,n3⟩:=(xS.stays hb5').cell)
       | (go_simp;go_at_call 48;(with_reducible refine (zmq q (anyP u) _).mono ?_);rintro e w6 ⟨rfl,hb6⟩;unfold setV;obtain⟨z0,z1,z2,z3⟩:=((xS.stays hb5').stays hb6).cell;obtain⟨y0,y1,y2,y3⟩:=((xS.stays hb5').stays hb6).frozen))
     all_goals
       go_wp2;go_roundg (n'-(j+1))
       case measure=>have:=HMJ.out;omega
       case rel =>
         have hz:=hW.size;refine⟨j+1,by go_num,by omega,rfl,((x1.stays hb5').stays hb6).put4 (by omega) _,((xR.stays hb5').stays hb6).putFar (by omega) _,(((xS.stays hb5').stays hb6).put (orP q (anyP u))).congr (fun x _=>?_),zac (gro (gro hW hb5') hb6) (by omega) _⟩;rw[←HQ.out];simp[orP,HST.out x,Bool.or_assoc]
   . have hjn:j=t.kids.length:=(by rw[←HN.out];omega);have hwhole:t.kids.take j=t.kids:=(by rw[hjn];exact List.take_length);rw[hwhole,←zoi] at xS;clear s0 s1 s2 s3 f0 f1 f2 f3;obtain⟨s0,s1,s2,s3⟩:=xS.cell;obtain⟨r0,r1,r2,r3⟩:=xR.frozen;obtain⟨r4,r5,r6,r7⟩:=xR.cell;have hz:=hW.size;have hlr:=xR.lt;go_wp2;have y:=(xR.put (anyP t)).cell;unfold put4 at y;obtain⟨y0,y1,y2,y3⟩:=y;refine bodyPost_ret (v:=setV (anyP t)) ?_ rfl ⟨rfl,zac (g:=w.heap.size+1) hW (by omega) (anyP t)⟩;unfold setV;simp[results,Tryz.results26,go_sem,y0,y1,y2,y3]
theorem zee {t:T} {k:Value} {ok:Nat->Prop} (w:World) (hwf:WF t) (ht:Tree w ok t k):Calls Tryz.prog 26 #[nodeP t k] w (RetSetOf w (anyP t)):=
 zqh _ t w ok k (Nat.le_refl _) hwf ht
end
end Go.Proofs.YtgbdanddbgomhaaGreatDoor
