import Derived.Test.YtipfgpfplakhiaaDoorTw13
set_option linter.unusedVariables false
set_option linter.unusedSimpArgs false
namespace Go.Proofs.YtipfgpfplakhiaaDoor
open Go
theorem zj6:∀ (l:List T),(∀ t∈l,plN t=min (plR t) 1000)->min (ze5 l) 1000=min (plRL l) 1000
 | [],_=>rfl
 | t::ts,h=>by
  have h1:=h t yii;have h2:=zj6 ts fun u hu=>h u (by simp[hu])
  simp only[ze5,plRL];omega
theorem ybd {t:T} (hwf:WF t):plN t=min (plR t) 1000:=by
 induction hwf with
 | one p=>simp[plN,plR,ze5]
 | cat l h2 hN h ih =>
  have:=zj6 l ih;simp only[plN,plR]
  simpa using this
 | alt l h2 hN h ih =>
  have:=zj6 l ih;simp only[plN,plR]
  simpa using this
 | rep m n u h0 h1 h2 h3 hu ih =>
  have e1:plN (.mk 4 za9 m n [u])=min (plN u*n.toNat) 1000:=(by simp[plN,ze5]);have e2:plR (.mk 4 za9 m n [u])=n.toNat*plR u:=(by simp[plR,plRL]);rw[e1,e2,ih];have hn:1<=n.toNat:=yie;rcases Nat.le_total (plR u) 1000 with h|h
  .rw[Nat.min_eq_left h,ygv]
  .rw[Nat.min_eq_right h];have a1:1000<=1000*n.toNat:=Nat.le_mul_of_pos_right _ hn;have a2:plR u<=n.toNat*plR u:=yht _ hn;omega
section
open Go Go.RowKit
mutual
def anyP:T->Nat->Bool
 | .mk op p lo hi l=>fun x=>p x||anyL l x
def anyL:List T->Nat->Bool
 | []=>fun _=>false
 | t::ts=>fun x=>anyP t x||anyL ts x
end
def yem (w:World) (p:Nat->Bool) (e:Ending) (w':World):Prop:=e = .returned (setV p)∧Below w.heap.size w w'
end
def zna (a n:Nat) (R R':Nat->Nat->Prop):Prop:=∀ i j,i<=n->j<=n->(R (a+i) (a+j)↔R' i j)
def Onw (R:Nat->Nat->Prop) (N:Nat):Prop:=∀ i j,i<=N->R i j->i<=j∧j<=N
theorem zkm {a n N:Nat} {R R' S S':Nat->Nat->Prop} (hN:a+n<=N) (hR:zna a n R R') (hS:zna a n S S') (fR:Onw R N) (fS:Onw S N) (fR':Onw R' n):
 zna a n (fun i j=>∃ k,R i k∧S k j) (fun i j=>∃ k,R' i k∧S' k j):=by
 intro i j hi hj;constructor
 .rintro⟨k,h1,h2⟩;have b1:=fR (a+i) k yie h1;have b2:=fS k (a+j) b1.2 h2;refine⟨k-a,?_,?_⟩
  .have:=(hR i (k-a) hi yie).1;rw[show a+(k-a)=k by omega] at this;exact this h1
  .have:=(hS (k-a) j yie hj).1;rw[show a+(k-a)=k by omega] at this;exact this h2
 .rintro⟨k,h1,h2⟩;have b1:=fR' i k hi h1;exact⟨a+k,(hR i k hi b1.2).2 h1,(hS k j b1.2 hj).2 h2⟩
theorem zqx (a n:Nat):zna a n (fun i j=>i=j) (fun i j=>i=j):=by
 intro i j _ _;constructor
 .intro h;omega
 .intro h;omega
theorem zry {R:Nat->Nat->Prop} {N:Nat} (h:Onw R N) (m:Nat):Onw (iter R m) N:=fun i j hi hE=>zmt h m i j hi hE
theorem zhq {a n N:Nat} {R R':Nat->Nat->Prop} (hN:a+n<=N) (hR:zna a n R R') (fR:Onw R N) (fR':Onw R' n):∀ m,zna a n (iter R m) (iter R' m)
 | 0=>zqx a n
 | m+1=>zkm hN (zhq hN hR fR fR' m) hR (zry fR m) fR (zry fR' m)
theorem zrx (us xs bs:List Int) (i:Nat) (h:i<xs.length):(us++xs++bs).getD (us.length+i) 0=xs.getD i 0:=by
 rw[yf0,yf0,yfl,yfc yie,show us.length+i-us.length=i by omega,yfb h]
theorem zq7 {xs:List Int} {t:T} (h:WF t):Onw (E xs t) xs.length:=fun i j hi hE=>E_bd h i j hi hE
theorem zrz {xs:List Int}:∀ {l:List T},(∀ x∈l,WF x)->Onw (ECat xs l) xs.length
 | [],_,i,j,hi,h=>by have e:i=j:=h;omega
 | t::ts,hw,i,j,hi,h=>by
  obtain⟨k,h1,h2⟩:=h;have a:=zq7 (hw t yii) i k hi h1;have b:=zrz (fun x hx=>hw x yj4) k j a.2 h2;omega
theorem yd7 (us xs bs:List Int) {t:T} (h:WF t):zna us.length xs.length (E (us++xs++bs) t) (E xs t):=by
 have hlen:us.length+xs.length<=(us++xs++bs).length:=yii;induction h with
 | one p =>
  intro i j hi hj;rw[E_one,E_one];constructor
  .rintro⟨h1,h2,h3⟩;have hl:i<xs.length:=yie;rw[zrx us xs bs i hl] at h2;exact⟨hl,h2,by omega⟩
  .rintro⟨h1,h2,h3⟩;refine⟨by omega,?_,by omega⟩;rw[zrx us xs bs i h1];exact h2
 | cat l h2 hN h ih =>
  have key:∀ (l:List T),(∀ x∈l,WF x)->(∀ x∈l,zna us.length xs.length (E (us++xs++bs) x) (E xs x))->zna us.length xs.length (ECat (us++xs++bs) l) (ECat xs l):=by
   intro l;induction l with
   | nil=>exact fun _ _=>zqx _ _
   | cons t ts ihl=>exact fun hw hs=>zkm hlen (hs t yii) (ihl (fun x hx=>hw x yj4) (fun x hx=>hs x yj4)) (zq7 (hw t yii)) (zrz (fun x hx=>hw x yj4)) (zq7 (hw t yii))
  intro i j hi hj;rw[zu8,zu8];exact key l h ih i j hi hj
 | alt l h2 hN h ih =>
  intro i j hi hj;rw[zu9,zu9,zg2,zg2];constructor
  .rintro⟨t,ht,hE⟩;exact⟨t,ht,(ih t ht i j hi hj).1 hE⟩
  .rintro⟨t,ht,hE⟩;exact⟨t,ht,(ih t ht i j hi hj).2 hE⟩
 | rep m n t h0 h1 h2 h3 h ih =>
  intro i j hi hj;rw[zqk,zqk];constructor
  .rintro⟨k,ha,hb,hE⟩;rw[zd6] at hE;exact⟨k,ha,hb,by rw[zd6];exact (zhq hlen ih (zq7 h) (zq7 h) k i j hi hj).1 hE⟩
  .rintro⟨k,ha,hb,hE⟩;rw[zd6] at hE;exact⟨k,ha,hb,by rw[zd6];exact (zhq hlen ih (zq7 h) (zq7 h) k i j hi hj).2 hE⟩
theorem yd8 (xs ys:List Int) {t:T} (h:WF t):E (xs++ys) t xs.length (xs.length+ys.length)↔E ys t 0 ys.length:=by
 have:=yd7 xs ys [] h 0 ys.length (yf8 _) (yez _)
 simpa using this
end Go.Proofs.YtipfgpfplakhiaaDoor
