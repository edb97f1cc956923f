import Derived.Test.YtipfgpfplakhiaaDoorTw19
set_option linter.unusedVariables false
set_option linter.unusedSimpArgs false
namespace Go.Proofs.YtipfgpfplakhiaaDoor
open Go
structure PW (l:List Nat) (p:PT):Prop where
 inv:PInv p
 nod:l.Nodup
 all:∀ k∈l,k<p.n∧0<p.md k
theorem PW.step {b:Nat} {l:List Nat} {p:PT} (h:PW (b::l) p):(b<p.n∧0<p.md b)∧PW l (zbt p b)∧(zbt p b).N=p.N∧zb3 (b::l) p=zb3 l (zbt p b):=by
 have hb:=h.all b yii;obtain⟨q1,q2,q3,_,q5⟩:=zr7 h.inv hb.1 hb.2;obtain⟨n1,n2⟩:=yhd.1 h.nod;refine⟨hb,⟨q1,n2,fun k hk=>?_⟩,q2,rfl⟩;have h1:=h.all k (by simp[hk]);have hne:k≠b:=fun e=>n1 (e▸hk)
 have hnn:p.n<=(zbt p b).n:=by rcases q3 with ⟨e,_⟩|⟨e,_⟩ <;> omega
 exact⟨by omega,by rw[q5 k h1.1 hne];exact h1.2⟩
def Mkg (p:PT) (ms rem:List Nat) (r:PT×List Nat):Prop:=∃ done,MI p done r∧done++rem=ms
theorem zyy {p:PT} (hp:PInv p) (hc:zi3 p):MI p [] (p,[]):=
 ⟨hp,rfl,rfl,rfl,fun x hx=>by simp;exact zmk hp hx (hc _ (hp.gn x hx)),by simp,fun k hk=>by simp;exact hc k hk,fun k hk=>by simp at hk⟩
theorem zvp {p:PT} (hp:PInv p) (hc:zi3 p) (ms:List Nat):Mkg p ms ms (p,[]):=⟨[],zyy hp hc,rfl⟩
theorem zyx {p:PT} {ms rem:List Nat} {s:Nat} {r:PT×List Nat} (h:Mkg p ms (s::rem) r) (hn:ms.Nodup) (hs:∀ s∈ms,s<p.N):
 s<r.1.N∧¬ Mk r.1 s∧PInv r.1∧Mkg p ms rem (zg3 r s):=by
 obtain⟨done,hi,e⟩:=h;have hsm:s∈ms:=(by rw[←e];simp);have hsN:=hs s hsm;have hsd:s∉done:=fun hm=>by
  rw[←e,ygn] at hn;exact hn.2.2 s hm s yii rfl
 have hmk:¬ Mk r.1 s:=fun e=>hsd ((hi.mks s hsN).1 e)
 refine⟨by rw[hi.eN];exact hsN,hmk,hi.inv,done++[s],?_,by rw[←e];simp⟩;have h1:=zhx (p:=p) [s] done r hi (by
  rw[←e] at hn;have:(done++[s]++rem).Nodup:=by simpa using hn
  exact (ygn.1 this).1) (fun x hx=>by simp at hx;subst hx;exact hsN)
 simpa [zd2] using h1
theorem zoc {n:Nat}:∀ {l:List Nat},l.Nodup->(∀ k∈l,k<n)->l.length<=n:=by
 intro l hn hl;have:=List.Nodup.length_le_of_subset (l₂:=List.range n) hn (fun x hx=>yfz.2 (hl x hx))
 simpa using this
theorem zvo {p:PT} {ms rem:List Nat} {r:PT×List Nat} (h:Mkg p ms rem r):r.2.length<=p.n∧r.1.N=p.N∧r.1.n=p.n:=by
 obtain⟨done,hi,e⟩:=h;exact⟨zoc hi.nod hi.sub,hi.eN,hi.en'⟩
theorem ybq {p:PT} {ms:List Nat} {r:PT×List Nat} (h:Mkg p ms [] r):PW r.2 r.1:=by
 obtain⟨done,hi,e⟩:=h;exact⟨hi.inv,hi.nod,fun k hk=>⟨by rw[hi.en'];exact hi.sub k hk,(hi.set k (hi.sub k hk)).1 hk⟩⟩
theorem zqf {p:PT} (hp:PInv p) (hc:zi3 p) {ms:List Nat} (hn:ms.Nodup) (hs:∀ s∈ms,s<p.N):PInv (zcz ms p)∧(zcz ms p).N=p.N∧zi3 (zcz ms p):=by
 have h:=zp0 (alk:=fun s t=>s=t) (A:=fun _=>False) (g:=0) hp hc ⟨fun s t hs ht e=>by rw[e],fun s t hs ht h1 h2=>by
  have:=(h2 (p.grp s) (yf8 _) (hp.gn s hs)).1 rfl;exact this.symm⟩ (yf8 _) hn hs (fun s t e=>by rw[e])
 exact⟨h.1,h.2.1,h.2.2.2.2.1⟩
def ze0 (p:PT) (g:Nat):List Nat:=(List.range (p.en g-p.bg g)).map fun j=>p.st (p.bg g+j)
theorem zwr {p:PT} {g j:Nat} (h:j<p.en g-p.bg g):(ze0 p g)[j]?=some (p.st (p.bg g+j)):=by
 unfold ze0;rw[yfs,yhe h];rfl
theorem zwq (p:PT) (g:Nat):(ze0 p g).length=p.en g-p.bg g:=by simp[ze0]
theorem zoq {p:PT} (hp:PInv p) {g:Nat} (hg:g<p.n) (s:Nat):s∈ze0 p g↔s<p.N∧p.grp s=g:=by
 unfold ze0;rw[yg6];constructor
 .rintro⟨j,hj,rfl⟩;rw[yfz] at hj;obtain⟨h1,h2⟩:=hp.of g (p.bg g+j) hg yie yie;exact⟨hp.stN _ h1,h2⟩
 .rintro⟨h1,h2⟩;have:=hp.lo s h1;rw[h2] at this;exact⟨p.at' s-p.bg g,yfz.2 yie,by rw[show p.bg g+(p.at' s-p.bg g)=p.at' s by omega];exact hp.sa s h1⟩
theorem zjs {p:PT} (hp:PInv p) {g:Nat} (hg:g<p.n):(ze0 p g).Nodup:=by
 have hne:=hp.ne g hg;unfold ze0;rw[ygp,List.pairwise_map];refine List.Pairwise.imp_of_mem ?_ (ygp.1 List.nodup_range);intro i j hi hj hij e;rw[yfz] at hi hj;have h1:=hp.ats (p.bg g+i) yie;have h2:=hp.ats (p.bg g+j) yie;rw[e] at h1;omega
theorem zsq (δ:Nat->Nat->Nat) (C S c t:Nat) (l:List Nat):zcp δ C S c (t::l)=toW δ C S t c++zcp δ C S c l:=rfl
section
open Go Go.RowKit
def zpp (n:Nat) (G:Nat->Nat) (k:Nat):List Value:=(List.range k).map fun i => .slice (some ⟨G i,0,none⟩) n n
theorem zyi (n:Nat) (G:Nat->Nat) (k i:Nat) (h:i<k):(zpp n G k)[i]?=some (.slice (some ⟨G i,0,none⟩) n n):=by simp[zpp,h]
theorem zt1 (n:Nat) (G:Nat->Nat) (k g:Nat):zpp n (fun i=>if i=k then g else G i) (k+1)=zpp n G k++[.slice (some ⟨g,0,none⟩) n n]:=by
 unfold zpp;rw[ygh,yfu]
 congr 1
 .refine yhb fun i hi=>?_
  rw[yfz] at hi
  show Value.slice (some ⟨if i=k then g else G i,0,none⟩) n n=_
  rw[if_neg yie]
 .simp
def upd2 (L:Nat->Nat->Bool) (s t:Nat) (b:Bool):Nat->Nat->Bool:=fun i j=>if i=s then (if j=t then b else L i j) else L i j
structure MX (w:World) (B:Nat) (v:Value) (n k:Nat) (G:Nat->Nat) (L:Nat->Nat->Bool):Prop where
 row:w.ownsRow B 23 1 v k (zpp n G k)
 rows:∀ i,i<k->Bools w B (G i) n (L i)
 inj:∀ i j,i<k->j<k->G i=G j->i=j
section
variable {w w':World} {B n k:Nat} {v v':Value} {G:Nat->Nat} {L L':Nat->Nat->Bool}
theorem MX.nil (w:World) (B n:Nat) (G:Nat->Nat) (L:Nat->Nat->Bool):MX w B (.slice none 0 0) n 0 G L:=⟨yfx w B _ 1,fun i hi=>absurd hi (yhf _),fun i j hi=>absurd hi (yhf _)⟩
theorem MX.form (h:MX w B v n k G L):∃ A c,v = .slice A k c:=by
 rcases h.row.2 with ⟨rfl,h0⟩|⟨g,cap,cur,rfl,_⟩
 .exact⟨none,0,by rw[h0]⟩
 .exact⟨_,_,rfl⟩
theorem MX.block (h:MX w B v n k G L) {b:Nat} (hb:v.ownBlock=some b):B<=b∧b<w.heap.size:=yf5 h.row b hb
theorem MX.apart (h:MX w B v n k G L) {b:Nat} (hb:v.ownBlock=some b) (i:Nat) (hi:i<k):b≠G i:=by
 obtain⟨c1,h1⟩:=za7 h.row hb;obtain⟨c2,h2⟩:=(h.rows i hi).kind;exact za1 h1 h2 yij
theorem MX.at (h:MX w B v n k G L) (i:Nat) (hi:i<k):∃ g c,v = .slice (some ⟨g,0,none⟩) k c∧w.cell? ⟨g,i,none⟩=some (.slice (some ⟨G i,0,none⟩) n n):=by
 rcases h.row.2 with ⟨_,h0⟩|⟨g,cap,cur,rfl,hB,hg,_⟩
 .omega
 .exact⟨g,cap,rfl,(yf7 h.row i yie).trans (zyi n G k i hi)⟩
theorem MX.set (h:MX w B v n k G L) {s t:Nat} (hs:s<k) (ht:t<n) (b:Bool):MX (w.setCell ⟨G s,t,none⟩ (.bool b)) B v n k G (upd2 L s t b):=by
 have ho:∀ c,c≠G s->(w.setCell ⟨G s,t,none⟩ (.bool b)).heap[c]?=w.heap[c]?:=fun c hc=>heap_setCell_other w ⟨G s,t,none⟩ c (.bool b) hc
 refine⟨za8 h.row fun c e _=>ho c (h.apart e s hs),fun i hi=>?_,h.inj⟩
 by_cases e:i=s
 .subst e;refine ((h.rows i hi).set t ht b).congr fun j hj=>?_
  simp[upd2]
 .refine ((h.rows i hi).block (ho _ fun e'=>e (h.inj i s hi hs e'))).congr fun j hj=>?_
  simp[upd2,e]
theorem ya5 {w:World} {B g n:Nat} {M:Array Value} {F:Nat->Bool} (hM:M.toList=zch n F) (h:w.heap[g]?=some (.cells M 4 (0,0))) (hB:B<=g) (hn:n<=100000000):Bools w B g n F:=by
 have hl:(zch n F).length=n:=(by simp[zch]);have hs:M.size=n:=(by rw[←Array.length_toList,hM,hl]);exact⟨by rw[hl,ygl],.inr ⟨g,n,M,rfl,hB,h,yez _,by unfold maxLen;omega,by rw[hs,ygl],by rw[hM,yg0 (by rw[hl];omega)]⟩⟩
theorem MX.push (h:MX w B v n k G L) (hB:B<=w.heap.size) (hn:n<=100000000) {M:Array Value} {o:Obj} {u:World} (hM:M.toList=zch n fun _=>false)
 (hr:u.ownsRow B 23 1 v' (k+1) (zpp n G k++[.slice (some ⟨w.heap.size,0,none⟩) n n])) (hg:((w.alloc (.cells M 4)).alloc o).grownBy u v.ownBlock):
 MX u B v' n (k+1) (fun i=>if i=k then w.heap.size else G i) (fun i=>if i=k then fun _=>false else L i):=by
 have hb:Below w.heap.size w ((w.alloc (.cells M 4)).alloc o):=((yf6 _ _).alloc (yez _) _).alloc yii _;have hv:∀ b,v.ownBlock=some b->b<w.heap.size:=fun b e=>(h.block e).2
 have hnew:((w.alloc (.cells M 4)).alloc o).heap[w.heap.size]?=some (.cells M 4 (0,0)):=(yfo _ o w.heap.size yii).trans (heap_alloc_new w _);have hN:Bools u B w.heap.size n (fun _=>false):=ya5 hM ((hg.block w.heap.size yil fun e=>by have:=hv _ e.symm;omega).trans hnew) hB hn;refine⟨by rw[zt1];exact hr,fun i hi=>?_,fun i j hi hj e=>?_⟩
 .by_cases e:i=k
  .simp only[e,if_true];exact hN
  .simp only[e,if_false];have hi':i<k:=yie;refine ((h.rows i hi').stays hb).block (hg.block _ ((h.rows i hi').stays hb).in.2 fun e'=>?_);exact h.apart e'.symm i hi' rfl
 .by_cases e1:i=k <;> by_cases e2:j=k
  .omega
  .simp only[e1,e2,if_true,if_false] at e;have:=(h.rows j yie).in.2;omega
  .simp only[e1,e2,if_true,if_false] at e;have:=(h.rows i yie).in.2;omega
  .simp only[e1,e2,if_false] at e;exact h.inj i j yie yie e
end
theorem Tryd.infoBoolM:(Tryd.prog.info? 4).map (fun i=>(i.zero,i.size,i.bytes))=some (some (.bool false),1,1):=by kernel_rfl
theorem Tryd.infoBoolsM:(Tryd.prog.info? 23).map (fun i=>(i.zero,i.size,i.bytes))=some (some (.slice none 0 0),1,24):=by kernel_rfl
theorem zti (n:Nat) (hn:n<=100000000):∃ M:Array Value,M.toList=zch n (fun _=>false)∧∀ W:World,(Instr.makeSlice 23 (.int .i64 (n:Int)) (.int .i64 (n:Int))).run Tryd.prog W = .ok (.slice (some ⟨W.heap.size,0,none⟩) n n) (W.alloc (.cells M 4)):=by
 obtain⟨i1,a1,a2,a3,a4⟩:=info_parts Tryd.infoBoolM;refine⟨madeCells (Value.bool false).cells (n*1),zli n,fun W=>?_⟩;have:=run_make (P:=Tryd.prog) (w:=W) 23 4 i1 _ Tryd.underlying23 a1 a2 .i64 .i64 (n:Int) (n:Int) yie (Int.le_refl _) (by rw[a4];omega) yie;rw[a3] at this
 simpa using this
def cntM (n:Nat) (L:Nat->Nat->Bool):Nat:=(List.range (n*n)).countP fun k=>L (k / n) (k % n)
theorem zjz {α:Type} {p q:α->Bool}:∀ (l:List α),(∀ x∈l,q x=true->p x=true)->(∃ x∈l,p x=true∧q x=false)->l.countP q<l.countP p
 | [],_,h=>by obtain⟨x,hx,_⟩:=h;simp at hx
 | x::l,hle,h=>by
  have hmono:l.countP q<=l.countP p:=List.countP_mono_left fun y hy=>hle y (by simp[hy])
  rw[List.countP_cons,List.countP_cons]
  by_cases hx:p x=true∧q x=false
  .rw[hx.1,hx.2];simp;omega
  .have h':∃ y∈l,p y=true∧q y=false:=by
    obtain⟨y,hy,e⟩:=h;rcases yfi.1 hy with rfl|hy
    .exact absurd e hx
    .exact⟨y,hy,e⟩
   have:=zjz l (fun y hy=>hle y (by simp[hy])) h';have hq:=hle x yii;cases hqx:q x with
   | false=>simp;omega
   | true=>rw[hq hqx];simp;omega
theorem zzx {n s t:Nat} {L:Nat->Nat->Bool} (hs:s<n) (ht:t<n) (h:L s t=true):cntM n (upd2 L s t false)<cntM n L:=by
 refine zjz _ (fun k _ hk=>?_) ⟨s*n+t,?_,?_,?_⟩
 .unfold upd2 at hk;split at hk
  .split at hk
   .cases hk
   .exact hk
  .exact hk
 .rw[yfz]
  calc s*n+t<s*n+n:=by omega
   _=(s+1)*n:=by rw[yha]
   _<=n*n:=yg4 _ hs
 .have h1:(s*n+t) / n=s:=(by rw[ygv,Nat.mul_add_div yie,Nat.div_eq_of_lt ht,yh1]);have h2:(s*n+t) % n=t:=(by rw[ygv,Nat.mul_add_mod,yh8 ht]);rw[h1,h2];exact h
 .have h1:(s*n+t) / n=s:=(by rw[ygv,Nat.mul_add_div yie,Nat.div_eq_of_lt ht,yh1]);have h2:(s*n+t) % n=t:=(by rw[ygv,Nat.mul_add_mod,yh8 ht]);rw[h1,h2];simp[upd2]
structure AlkM {O:Type} (δ:Nat->Nat->Nat) (o:Nat->O) (N C:Nat) (L:Nat->Nat->Bool):Prop where
 sound:∀ s t,Alk δ o N C s t->L s t=true
 out:∀ s t,s<N->t<N->L s t=true->o s=o t
def zhn (δ:Nat->Nat->Nat) (C:Nat) (L:Nat->Nat->Bool) (s t:Nat):Prop:=L s t=true->∀ c,c<C->L (δ s c) (δ t c)=true
section
variable {O:Type} {δ:Nat->Nat->Nat} {o:Nat->O} {N C:Nat} {L:Nat->Nat->Bool}
theorem AlkM.drop (h:AlkM δ o N C L) (hδ:∀ s c,s<N->c<C->δ s c<N) {s t c:Nat} (hs:s<N) (ht:t<N) (hc:c<C) (hL:L (δ s c) (δ t c)=false):AlkM δ o N C (upd2 L s t false):=by
 refine⟨fun i j ha=>?_,fun i j hi hj hl=>h.out i j hi hj ?_⟩
 .unfold upd2;split
  .split
   .rename_i e1 e2;subst e1 e2;have:=h.sound (δ i c) (δ j c) ⟨hδ i c hs hc,hδ j c ht hc,fun w hw=>by
     have:=ha.2.2 (c::w) (fun d hd=>by
      rcases yfi.1 hd with rfl|hd
      .exact hc
      .exact hw d hd)
     simpa [goW] using this⟩
    rw[hL] at this;cases this
   .exact h.sound i j ha
  .exact h.sound i j ha
 .unfold upd2 at hl;split at hl
  .split at hl
   .cases hl
   .exact hl
  .exact hl
theorem AlkM.done (h:AlkM δ o N C L) (hδ:∀ s c,s<N->c<C->δ s c<N) (hcl:∀ s t,s<N->t<N->zhn δ C L s t) {s t:Nat} (hs:s<N) (ht:t<N):L s t=true↔Alk δ o N C s t:=by
 refine⟨fun hl=>⟨hs,ht,fun w hw=>?_⟩,fun ha=>h.sound s t ha⟩;have key:∀ (w:List Nat) (s t:Nat),s<N->t<N->L s t=true->(∀ c∈w,c<C)->o (goW δ w s)=o (goW δ w t):=by
  intro w;induction w with
  | nil=>intro s t hs ht hl _;exact h.out s t hs ht hl
  | cons c w ih =>
   intro s t hs ht hl hw;have hc:=hw c yii;exact ih (δ s c) (δ t c) (hδ s c hs hc) (hδ t c ht hc) (hcl s t hs ht hl c hc) fun d hd=>hw d (by simp[hd])
 exact key w s t hs ht hl hw
end
end
end Go.Proofs.YtipfgpfplakhiaaDoor
