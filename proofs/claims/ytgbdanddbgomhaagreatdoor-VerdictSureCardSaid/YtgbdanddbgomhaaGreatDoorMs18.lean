import Derived.Test.YtgbdanddbgomhaaGreatDoorMs17
import Derived.Test.YtgbdanddbgomhaaGreatDoorMs2
set_option linter.unusedVariables false
set_option linter.unusedSimpArgs false
namespace Go.Proofs.YtgbdanddbgomhaaGreatDoor
open Go
def Shift (a n:Nat) (R R':Nat->Nat->Prop):Prop:=∀ i j,i<=n->j<=n->(R (a+i) (a+j)↔R' i j)
def Onw (R:Nat->Nat->Prop) (N:Nat):Prop:=∀ i j,i<=N->R i j->i<=j∧j<=N
theorem fwd_E {xs:List Int} {t:T} (h:WF t):Onw (E xs t) xs.length:=fun i j hi hE=>E_bd h i j hi hE
theorem zne {l:List T} {t:T} {x:Nat} (h:t∈l) (hx:anyP t x=true):anyL l x=true:=by
 induction l with
 | nil=>cases h
 | cons u us ih =>
   simp only[anyL,Bool.or_eq_true];rcases List.mem_cons.1 h with rfl|h
   . exact .inl hx
   . exact .inr (ih h)
theorem E_any {xs:List Int} {t:T} (h:WF t):∀ i j,i<=xs.length->E xs t i j->∀ k,i<=k->k<j->anyP t (xs.getD k 0).toNat=true:=by
 induction h with
 | one p =>
   intro i j hi hE k h1 h2;rw[zm6] at hE;obtain rfl:k=i:=by omega
   simp only[anyP,Bool.or_eq_true];exact .inl hE.2.1
 | cat l h2 hN h ih =>
   have key:∀ (l:List T),(∀ x∈l,WF x)->(∀ x∈l,∀ i j,i<=xs.length->E xs x i j->∀ k,i<=k->k<j->anyP x (xs.getD k 0).toNat=true)->∀ i j,i<=xs.length->ECat xs l i j->∀ k,i<=k->k<j->anyL l (xs.getD k 0).toNat=true:=by
     intro l;induction l with
     | nil =>
       intro _ _ i j _ hE k h1 h2;have e:i=j:=hE;omega
     | cons u us ihl =>
       intro hw hs i j hi hE k h1 h2;obtain⟨y,e1,e2⟩:=hE;have b:=fwd_E (hw u (by simp)) i y hi e1;simp only[anyL,Bool.or_eq_true]
       by_cases hk:k<y
       . exact .inl (hs u (by simp) i y hi e1 k h1 hk)
       . exact .inr (ihl (fun x hx=>hw x (by simp[hx])) (fun x hx=>hs x (by simp[hx])) y j b.2 e2 k (by omega) h2)
   intro i j hi hE k h1 h2;rw[zks] at hE;simp only[anyP,Bool.or_eq_true];exact .inr (key l h ih i j hi hE k h1 h2)
 | alt l h2 hN h ih =>
   intro i j hi hE k h1 h2;rw[zkt,zbr] at hE;obtain⟨u,hu,hE⟩:=hE;simp only[anyP,Bool.or_eq_true];exact .inr (zne hu (ih u hu i j hi hE k h1 h2))
 | rep m n u h0 h1 h2 h3 h ih =>
   intro i j hi hE k e1 e2;rw[ziw] at hE;obtain⟨c,_,_,hE⟩:=hE;rw[zbq] at hE;have key:∀ (c i j:Nat),i<=xs.length->iter (E xs u) c i j->i<=k->k<j->anyP u (xs.getD k 0).toNat=true:=by
     intro c;induction c with
     | zero=>intro i j _ hE a b;have e:i=j:=hE;omega
     | succ c ihc =>
       intro i j hi hE a b;obtain⟨y,e1,e2⟩:=hE;have bb:=zeg (fwd_E h) c i y hi e1
       by_cases hk:k<y
       . exact ihc i y hi e1 a hk
       . exact ih y j bb.2 e2 k (by omega) b
   simp only[anyP,anyL,Bool.or_eq_true];exact .inr (.inl (key c i j hi hE e1 e2))
theorem zfk:∀ (l:List Nat) (a:Nat),l.foldl (best1 false) a=0->a=0∨0∈l
 | [],a,h => .inl h
 | b::l,a,h=>by
   rcases zfk l (best1 false a b) h with h1|h1
   . unfold best1 at h1;simp at h1;rcases h1 with h1|h1
     . exact .inl (by omega)
     . exact .inr (by simp;omega)
   . exact .inr (by simp[h1])
theorem E_null {xs:List Int} {t:T} (h:WF t) (i:Nat):LenU false t=0->E xs t i i:=by
 induction h with
 | one p=>intro h0;simp[LenU] at h0
 | cat l h2 hN h ih =>
   intro h0;have key:∀ l:List T,(∀ x∈l,LenU false x=0->E xs x i i)->(LenL false l).sum=0->ECat xs l i i:=by
     intro l;induction l with
     | nil=>intro _ _;rfl
     | cons u us ihu =>
       intro hu hs;simp only[LenL,List.sum_cons] at hs;exact⟨i,hu u (by simp) (by omega),ihu (fun x hx=>hu x (by simp[hx])) (by omega)⟩
   rw[zks];refine key l ih ?_
   simpa [LenU] using h0
 | alt l h2 hN h ih =>
   intro h0;rw[zkt,zbr];have h1:bestN false (LenL false l)=0:=(by simpa [LenU] using h0);have h3:0∈LenL false l:=by
     cases l with
     | nil=>simp at h2
     | cons u us =>
       rw[LenL] at h1 ⊢;rcases zfk _ _ h1 with h4|h4
       . rw[h4];simp
       . simp[h4]
   rw[zak,List.mem_map] at h3;obtain⟨u,hu,e⟩:=h3;exact⟨u,hu,ih u hu e⟩
 | rep m n u h0 h1 h2 h3 h ih =>
   intro hz;rw[ziw,zbq];have e:m.toNat*LenU false u=0:=(by simpa [LenU,LenL,bestN] using hz);rcases Nat.mul_eq_zero.1 e with e1|e1
   . exact⟨0,by omega,by omega,rfl⟩
   . have hu:=ih e1;have key:∀ c,iter (E xs u) c i i:=by
       intro c;induction c with
       | zero=>rfl
       | succ c ihc=>exact⟨i,ihc,hu⟩
     exact⟨m.toNat,by omega,by omega,key _⟩
theorem zc5 {xs:List Int} {t:T} (h:WF t) (i:Nat) (hi:i<=xs.length):E xs t i i↔lenN false t=0:=by
 rw[zee false h];constructor
 . intro hE;have:=zni h i i hi hE;omega
 . intro h0;exact E_null h i (by omega)
structure Cf where
 lam:Int
 q:Int
 cap:Int
 rate:Nat
 mask:Nat
def cfOk (c:Cf):Bool:=decide (1<=c.lam∧c.lam<=32)&&(rateOk c.rate&&(decide ((rateN c.rate:Int)<=c.q∧c.q<=1024)&&decide (1<=c.cap∧c.cap<=1000)))
def readP (lam:Int) (m:Nat) (s:ByteArray):Except Int T:=match parse s with
 | .error (c,_) => .error c
 | .ok t=>if lenN false t=0 then .error 5 else if lam<(lenN true t:Int) then .error 6 else if anyP t m=true then .error 7 else .ok t
def checkL (lam:Int) (m:Nat):List Ru->Nat->List (T×Bool)->Except (Int×Int) (List (T×Bool))
 | [],_,acc => .ok acc
 | x::l,k,acc=>match readP lam m x.pat with
   | .error c => .error (c,(k:Int))
   | .ok t=>checkL lam m l (k+1) (acc++[(t,x.luhn)])
def checkR (s:ByteArray) (c:Cf):Except (Int×Int) (List (T×Bool)):=
 if cfOk c=true then match parseR s with
   | .error (n,k) => .error (n,(k:Int))
   | .ok l=>checkL c.lam c.mask l 0 []
 else .error (1,-1)
theorem zl6 {lam:Int} {m:Nat} {s:ByteArray} {t:T} (h:readP lam m s = .ok t):parse s = .ok t∧WF t∧1<=lenN false t∧(lenN true t:Int)<=lam∧anyP t m=false:=by
 unfold readP at h;split at h
 . cases h
 . rename_i t' ht;split at h
   . cases h
   . split at h
     . cases h
     . split at h
       . cases h
       . rename_i h1 h2 h3;cases h;exact⟨ht,zgp ht,by omega,by omega,by simpa using h3⟩
theorem zdw {lam:Int} {m:Nat}:∀ (l:List Ru) (k:Nat) (acc r:List (T×Bool)),checkL lam m l k acc = .ok r->r.length=acc.length+l.length
 | [],k,acc,r,h=>by cases h;simp
 | x::l,k,acc,r,h=>by
   rw[checkL] at h;split at h
   . cases h
   . have:=zdw l _ _ _ h;rw[this];simp;omega
theorem zfh {lam:Int} {m:Nat}:∀ (l:List Ru) (k:Nat) (acc r:List (T×Bool)),checkL lam m l k acc = .ok r->∀ x∈r,x∈acc∨(WF x.1∧1<=lenN false x.1∧(lenN true x.1:Int)<=lam∧anyP x.1 m=false)
 | [],k,acc,r,h=>fun x hx=>by cases h;exact .inl hx
 | y::l,k,acc,r,h=>fun x hx=>by
   rw[checkL] at h;split at h
   . cases h
   . rename_i t ht;rcases zfh l _ _ _ h x hx with h1|h1
     . rcases List.mem_append.1 h1 with h2|h2
       . exact .inl h2
       . rw[List.mem_singleton] at h2;subst h2;exact .inr (zl6 ht).2
     . exact .inr h1
theorem zkm {s:ByteArray} {c:Cf} {r:List (T×Bool)} (h:checkR s c = .ok r):cfOk c=true∧r.length<=8∧∀ x∈r,WF x.1∧1<=lenN false x.1∧(lenN true x.1:Int)<=c.lam∧anyP x.1 c.mask=false:=by
 unfold checkR at h;split at h
 . rename_i hc;split at h
   . cases h
   . rename_i l hl;have h8:=zcx hl;have h1:=zdw _ _ _ _ h;refine⟨hc,by simpa [h1] using h8,fun x hx=>?_⟩;rcases zfh _ _ _ _ h x hx with h2|h2
     . cases h2
     . exact h2
 . cases h
theorem zi2 {s:ByteArray} {x:Ru} (h:ruleT s=some x):x.pat.size<=s.size:=by
 unfold ruleT at h;split at h
 . cases h
 . split at h
   . cases h;unfold patOf;rw[ByteArray.size_extract];omega
   . cases h
theorem zbx (N:Nat):∀ (ls:List ByteArray) (k:Nat) (acc l:List Ru),(∀ x∈ls,x.size<=N)->(∀ x∈acc,x.pat.size<=N)->parseL ls k acc = .ok l->∀ x∈l,x.pat.size<=N
 | [],k,acc,l,h1,h2,h=>fun x hx=>by rw[parseL] at h;cases h;exact h2 x hx
 | y::ls,k,acc,l,h1,h2,h=>by
   have h1':∀ x∈ls,x.size<=N:=fun x hx=>h1 x (by simp[hx])
   rw[parseL] at h;split at h
   . exact zbx N ls _ _ _ h1' h2 h
   . split at h
     . cases h
     . rename_i z hz;split at h
       . cases h
       . split at h
         . cases h
         . refine zbx N ls _ _ _ h1' (fun x hx=>?_) h;rcases List.mem_append.1 hx with h3|h3
           . exact h2 x h3
           . rw[List.mem_singleton] at h3;subst h3;exact Nat.le_trans (zi2 hz) (h1 y (by simp))
theorem zg6 {s:ByteArray} {l:List Ru} (h:parseR s = .ok l):∀ x∈l,x.pat.size<=s.size:=by
 unfold parseR at h;split at h
 . cases h
 . exact zbx s.size _ _ _ _ (zcz s) (fun x hx=>by cases hx) h
end Go.Proofs.YtgbdanddbgomhaaGreatDoor
