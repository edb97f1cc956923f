import Derived.Test.YtgbdanddbgomhaaDoorMw23
import Derived.Test.YtgbdanddbgomhaaDoorMw8
set_option linter.unusedVariables false
set_option linter.unusedSimpArgs false
namespace Go.Proofs.YtgbdanddbgomhaaDoor
open Go Go.RowKit
structure NfaIn (w:World) (B:Nat) (vs v1:Value) (gm:Nat) (vf:Value) (s:Lay) (x:Str):Prop where
 sets:∀ p,p<s.sets.length->∃ g c,vs = .slice (some ⟨g,0,none⟩) s.sets.length c∧g<B∧∀ r,r<4->w.cell? ⟨g,p*4+r,none⟩=some (.int .u64 (word (s.sets.getD p noneP) r))
 first:Ints w 0 v1 (ns x.first)
 firstB:∀ b,v1.ownBlock=some b->b<B
 last:∀ p,p<s.sets.length->w.cell? ⟨gm,p,none⟩=some (.bool (x.last.contains p))
 lastB:gm<B
 fols:∀ p,p<s.sets.length->∃ g c v,vf = .slice (some ⟨g,0,none⟩) s.sets.length c∧g<B∧w.cell? ⟨g,p,none⟩=some v∧Ints w 0 v (ns (s.follow.getD p []))∧∀ b,v.ownBlock=some b->b<B
theorem NfaAt.rest {w:World} {C gm:Nat} {vs v1 vf:Value} {s:Lay} {x:Str} (h:NfaAt w C vs v1 gm vf s x) (hl:LInv s):NfaIn w w.heap.size vs v1 gm vf s x:=by
 obtain⟨Q,hr⟩:=h.rows;obtain⟨fs,hfo,hfs⟩:=hr.fols;refine⟨fun p hp=>?_,h.first.low (Nat.zero_le _),fun b e=>(h.first.in e).2,fun p hp=>h.last.cell p hp,h.last.in.2,fun p hp=>?_⟩
 . have hs:=hr.sets;rcases hs.2 with ⟨_,h0⟩|⟨g,c,cur,rfl,_,hg,_⟩
   . omega
   . refine⟨g,c,rfl,za0 hg,fun r hr=>?_⟩;rw[World.ownsRow.cellAt hs (p*4+r) (by omega),zbr _ _ _ hp hr,List.getD_eq_getElem?_getD,List.getElem?_eq_getElem hp];rfl
 . have hp':p<s.follow.length:=(by rw[hl.len];exact hp);rcases hfo.2 with ⟨_,h0⟩|⟨g,c,cur,rfl,_,hg,_⟩
   . omega
   . have hpf:p<fs.length:=(by rw[hfs.len];exact hp');refine⟨g,c,fs[p]'hpf,by rw[hl.len],za0 hg,?_,(hfs.get p _ _ (List.getElem?_eq_getElem hpf) (zi9 s.follow p [] hp')).low (Nat.zero_le _),fun b e=>?_⟩
     . rw[World.ownsRow.cellAt hfo p (by omega)];exact List.getElem?_eq_getElem hpf
     . exact ((hfs.get p _ _ (List.getElem?_eq_getElem hpf) (zi9 s.follow p [] hp')).in e).2
theorem NfaIn.below {w w':World} {B gm:Nat} {vs v1 vf:Value} {s:Lay} {x:Str} (h:NfaIn w B vs v1 gm vf s x) (hb:Below B w w'):NfaIn w' B vs v1 gm vf s x:=by
 refine⟨fun p hp=>?_,h.first.block fun b e _=>hb.block b (h.firstB b e),h.firstB,fun p hp=>(hb.cell (p:=⟨gm,p,none⟩) h.lastB).trans (h.last p hp),h.lastB,fun p hp=>?_⟩
 . obtain⟨g,c,e,hg,hc⟩:=h.sets p hp;exact⟨g,c,e,hg,fun r hr=>(hb.cell (p:=⟨g,p*4+r,none⟩) hg).trans (hc r hr)⟩
 . obtain⟨g,c,v,e,hg,hc,hi,hv⟩:=h.fols p hp;exact⟨g,c,v,e,hg,(hb.cell (p:=⟨g,p,none⟩) hg).trans hc,hi.block fun b e _=>hb.block b (hv b e),hv⟩
section
theorem Tryd.infoPlc:(Tryd.prog.info? 160).map (fun i=>(i.zero,i.size,i.bytes))=some (some (.agg #[.int .u64 0,.int .u64 0,.int .u64 0,.int .u64 0,.slice none 0 0,.int .i64 0,.bool false,.bool false]),8,72):=by kernel_rfl
def PlcRow (w:World) (B:Nat) (v:Value) (ps:List Plc):Prop:=
 ∃ vs,vs.length=ps.length∧w.ownsRow B 160 8 v ps.length (plcsC ps vs)∧∀ (i:Nat) u p,vs[i]?=some u->ps[i]?=some p->Ints w 0 u (ns p.fol)∧∀ b,u.ownBlock=some b->b<B
section
variable {w w':World} {B:Nat} {v:Value} {ps:List Plc}
theorem PlcRow.nil (w:World) (B:Nat):PlcRow w B (.slice none 0 0) []:=⟨[],rfl,World.ownsRow_nil w B _ 8,fun i u p h=>by simp at h⟩
theorem PlcRow.form (h:PlcRow w B v ps):∃ A c,v = .slice A ps.length c∧ps.length<=c:=by
 obtain⟨vs,h1,h2,h3⟩:=h;rcases h2.2 with ⟨rfl,h0⟩|⟨g,cap,cur,rfl,_,_,hc,_⟩
 . exact⟨none,0,by rw[h0],by omega⟩
 . exact⟨_,_,rfl,hc⟩
theorem PlcRow.in (h:PlcRow w B v ps) {b:Nat} (hb:v.ownBlock=some b):B<=b∧b<w.heap.size:=by
 obtain⟨vs,h1,h2,h3⟩:=h;exact World.ownsRow.lt h2 b hb
theorem PlcRow.kind (h:PlcRow w B v ps) {b:Nat} (hb:v.ownBlock=some b):∃ cur,w.heap[b]?=some (.cells cur 160 (0,0)):=by
 obtain⟨vs,h1,h2,h3⟩:=h;exact zaa h2 hb
theorem PlcRow.block (h:PlcRow w B v ps) (hB:B<=w.heap.size) (hb:Below B w w') (ho:∀ b,v.ownBlock=some b->w'.heap[b]?=w.heap[b]?):PlcRow w' B v ps:=by
 obtain⟨vs,h1,h2,h3⟩:=h;exact⟨vs,h1,za3 h2 fun b e _=>ho b e,fun i u p e1 e2=>⟨(h3 i u p e1 e2).1.block fun b e _=>hb.block b ((h3 i u p e1 e2).2 b e),(h3 i u p e1 e2).2⟩⟩
theorem PlcRow.stays (h:PlcRow w B v ps) (hB:B<=w.heap.size) (hb:Below w.heap.size w w'):PlcRow w' B v ps:=
 h.block hB (hb.mono hB) fun b e=>hb.block b (h.in e).2
theorem PlcRow.cellSet (h:PlcRow w B v ps) (hB:B<=w.heap.size) {a:Addr} (ha:a.block<B) (hk:∃ cur ty,w.heap[a.block]?=some (.cells cur ty (0,0))∧ty≠3) (u:Value):PlcRow (w.setCell a u) B v ps:=by
 obtain⟨vs,h1,h2,h3⟩:=h;obtain⟨cur,ty,hc,hty⟩:=hk;exact⟨vs,h1,za3 h2 fun b e _=>Below.heap_setCell _ _ _ _ (by have:=(World.ownsRow.lt h2 b e).1;omega),fun i x p e1 e2=>⟨(h3 i x p e1 e2).1.block fun b e _=>Below.heap_setCell _ _ _ _ (by
   intro e';obtain⟨c2,k2⟩:=(h3 i x p e1 e2).1.kind e;subst e';exact za1 hc k2 hty rfl),(h3 i x p e1 e2).2⟩⟩
theorem PlcRow.rules (h:PlcRow w B v ps) {v1:Value} {fs:List Nat} (hf:Ints w B v1 (ns fs)) {gr lam:Nat} (hr:HasO w gr (.cells #[v,v1,.int .i64 lam] 108 (0,0))):RulesIn w gr ⟨ps,fs,lam⟩:=by
 obtain⟨vs,h1,h2,h3⟩:=h;exact⟨v,vs,v1,hr,h1,zap h2 (Nat.zero_le _),fun i u p e1 e2=>(h3 i u p e1 e2).1,hf.low (Nat.zero_le _)⟩
end
theorem zt0 {w:World} {B:Nat} {v:Value} {ps:List Plc} (h:PlcRow w B v ps) (hB:B<=w.heap.size) (hl:ps.length<=100000) (p:Plc) (u:Value) (hu:Ints w 0 u (ns p.fol)) (hub:∀ b,u.ownBlock=some b->b<B) (td:TypeId) (ad:Addr) (c:Nat)
   (hc:∀ (j:Nat) x,(plcC p u)[j]?=some x->w.cell? (ad.add j)=some x):
   ∃ v' w',(Builtin.append_ #[106,106] td #[v,.slice (some ad) 1 c]).run Tryd.prog w = .ok v' w'∧PlcRow w' B v' (ps++[p])∧w.grownBy w' v.ownBlock∧(v'.ownBlock=v.ownBlock∨v'.ownBlock=some w.heap.size):=by
 have h0:=h;obtain⟨vs,h1,h2,h3⟩:=h;obtain⟨i0,hi,hz0,hz1,hz2⟩:=info_parts Tryd.infoPlc;have hone:u.oneCell'=true:=by
   obtain⟨A,c',e⟩:=hu.form;rw[e];rfl
 obtain⟨v',w',hr,h4,h5,_,h6⟩:=run_append_own_at (P:=Tryd.prog) w B 106 td 160 i0 _ 8 72 Tryd.underlying106 hi hz0 hz1 hz2 rfl (by decide) v ps.length (plcsC ps vs) h2 ad 1 c (plcC p u) rfl hc
   (by
     intro x hx;simp only[plcC,List.mem_cons,List.not_mem_nil,or_false] at hx;rcases hx with rfl|rfl|rfl|rfl|rfl|rfl|rfl|rfl
     all_goals first | rfl | exact hone) (by unfold maxLen;omega) (by omega) hB
 have key:∀ (u':Value) (l:List Int),Ints w 0 u' l->(∀ b,u'.ownBlock=some b->b<B)->Ints w' 0 u' l:=fun u' l hu' hb'=>hu'.block fun b e hb=>h5.block b hb fun e'=>by
   have h7:=(World.ownsRow.lt h2 b e'.symm).1;have h8:=hb' b e;omega
 refine⟨v',w',hr,⟨vs++[u],by simp[h1],?_,fun i u' p' e1 e2=>?_⟩,h5,h6⟩
 . rw[zj1 ps vs p u h1]
   simpa using h4
 . by_cases hi':i<ps.length
   . rw[List.getElem?_append_left hi'] at e2;rw[List.getElem?_append_left (by omega)] at e1;exact⟨key _ _ (h3 i u' p' e1 e2).1 (h3 i u' p' e1 e2).2,(h3 i u' p' e1 e2).2⟩
   . have e0:i=ps.length:=by
       have:=(List.getElem?_eq_some_iff.1 e2).1;simp at this;omega
     subst e0;rw[List.getElem?_append_right (Nat.le_refl _)] at e2;rw[List.getElem?_append_right (by omega)] at e1;simp[h1] at e1 e2;subst e1 e2;exact⟨key _ _ hu hub,hub⟩
def nfaC (vs v1 vm vf:Value) (e:Bool):List Value:=[vs,v1,vm,vf,.bool e]
def RdNfas (w:World) (B:Nat) (A:Option Addr) (L:List (Lay×Str)):Prop:=
 ∀ i s x,L[i]?=some (s,x)->∃ g off A1 m1 c1 A2 m2 c2 gm A3 m3 c3,A=some ⟨g,off,none⟩∧g<B∧(∀ q u,(nfaC (.slice A1 m1 c1) (.slice A2 m2 c2) (.slice (some ⟨gm,0,none⟩) s.sets.length s.sets.length) (.slice A3 m3 c3) x.empty)[q]?=some u->w.cell? ⟨g,off+i*5+q,none⟩=some u)∧
   m1=s.sets.length∧m2=x.first.length∧m3=s.sets.length∧NfaIn w B (.slice A1 m1 c1) (.slice A2 m2 c2) gm (.slice A3 m3 c3) s x
theorem RdNfas.below {w w':World} {B:Nat} {A:Option Addr} {L:List (Lay×Str)} (h:RdNfas w B A L) (hb:Below B w w'):RdNfas w' B A L:=fun i s x e=>by
 obtain⟨g,off,A1,m1,c1,A2,m2,c2,gm,A3,m3,c3,h1,h2,h3,h4,h5,h6,h7⟩:=h i s x e;exact⟨g,off,A1,m1,c1,A2,m2,c2,gm,A3,m3,c3,h1,h2,fun q u hu=>(hb.cell (p:=⟨g,off+i*5+q,none⟩) h2).trans (h3 q u hu),h4,h5,h6,h7.below hb⟩
def plcOf (s:Lay) (x:Str) (base:Nat) (b:Bool) (p:Nat):Plc:=⟨s.sets.getD p noneP,s.follow.getD p [],base,x.last.contains p,b⟩
def plcsOf (s:Lay) (x:Str) (base:Nat) (b:Bool):Nat->List Plc
 | 0=>[]
 | k+1=>plcsOf s x base b k++[plcOf s x base b k]
theorem zao (s:Lay) (x:Str) (base:Nat) (b:Bool):∀ k,(plcsOf s x base b k).length=k
 | 0=>rfl
 | k+1=>by simp[plcsOf,zao s x base b k]
def lx0:Lay×Str:=(⟨[],[]⟩,⟨[],[],false⟩)
def togP (L:List (Lay×Str)) (bs:List Bool):Nat->List Plc
 | 0=>[]
 | k+1=>togP L bs k++plcsOf (L.getD k lx0).1 (L.getD k lx0).2 (togP L bs k).length (bs.getD k false) (L.getD k lx0).1.sets.length
def togF (L:List (Lay×Str)) (bs:List Bool):Nat->List Nat
 | 0=>[]
 | k+1=>togF L bs k++(L.getD k lx0).2.first.map ((togP L bs k).length+·)
theorem zeo (L:List (Lay×Str)) (bs:List Bool) (P:Nat) (hP:∀ s x,(s,x)∈L->s.sets.length<=P):∀ k,k<=L.length->(togP L bs k).length<=k*P
 | 0,_=>by simp[togP]
 | k+1,h=>by
   have ih:=zeo L bs P hP k (by omega);have hm:L.getD k lx0∈L:=(by rw[List.getD_eq_getElem?_getD,List.getElem?_eq_getElem (by omega)];exact List.getElem_mem _);have:=hP (L.getD k lx0).1 (L.getD k lx0).2 hm;simp only[togP,List.length_append,zao];rw[Nat.succ_mul];omega
theorem zhn (L:List (Lay×Str)) (bs:List Bool) (P:Nat) (hP:∀ s x,(s,x)∈L->x.first.length<=P):∀ k,k<=L.length->(togF L bs k).length<=k*P
 | 0,_=>by simp[togF]
 | k+1,h=>by
   have ih:=zhn L bs P hP k (by omega);have hm:L.getD k lx0∈L:=(by rw[List.getD_eq_getElem?_getD,List.getElem?_eq_getElem (by omega)];exact List.getElem_mem _);have:=hP (L.getD k lx0).1 (L.getD k lx0).2 hm;simp only[togF,List.length_append,List.length_map];rw[Nat.succ_mul];omega
end
structure OkLay (s:Lay) (x:Str):Prop where
 sets:s.sets.length<=256
 firstN:x.first.length<=256
 first:∀ p∈x.first,p<s.sets.length
 fol:∀ q p,p∈s.follow.getD q []->p<s.sets.length
 folN:∀ q,(s.follow.getD q []).length<=100000
theorem zvg {t:T} (hwf:WF t) (h256:plR t<=256):OkLay (lay0 t).1 (lay0 t).2:=by
 have hsz:(lay0 t).1.sets.length=plR t:=(by have:=zm6 hwf ⟨[],[]⟩;simpa [lay0] using this);obtain⟨hl,hg⟩:=zc7 (xs:=[]) hwf;have hfo:∀ q p,p∈(lay0 t).1.follow.getD q []->p<(lay0 t).1.sets.length:=hl.lt;refine⟨by omega,?_,fun p hp=>(hg.first p hp).2,hfo,fun q=>?_⟩
 . have:=zhp _ 0 _ hg.sf hg.first
   omega
 . by_cases hq:q<(lay0 t).1.sets.length
   . have:=zhp _ 0 (lay0 t).1.sets.length (hg.st q (Nat.zero_le _) hq) fun p hp=>⟨Nat.zero_le _,hfo q p hp⟩
     omega
   . rw[List.getD_eq_getElem?_getD,List.getElem?_eq_none (by rw[hl.len];omega)];simp
theorem zgi {s:Lay} {x:Str} {base:Nat} {b:Bool} {p:Plc}:∀ k,p∈plcsOf s x base b k->∃ j,j<k∧p=plcOf s x base b j
 | 0,h=>by simp[plcsOf] at h
 | k+1,h=>by
   rw[plcsOf,List.mem_append,List.mem_singleton] at h;rcases h with h|h
   . obtain⟨j,hj,e⟩:=zgi k h;exact⟨j,by omega,e⟩
   . exact⟨k,by omega,h⟩
theorem zgj {s:Lay} {x:Str} {base:Nat} {b:Bool}:∀ (k j:Nat),j<k->(plcsOf s x base b k)[j]?=some (plcOf s x base b j)
 | 0,j,h=>by omega
 | k+1,j,h=>by
   rw[plcsOf]
   by_cases hj:j<k
   . rw[List.getElem?_append_left (by rw[zao];exact hj)];exact zgj k j hj
   . have:j=k:=by omega
     subst this;rw[List.getElem?_append_right (by rw[zao];exact Nat.le_refl _),zao,Nat.sub_self];rfl
theorem zkr {L:List (Lay×Str)} (hL:∀ s x,(s,x)∈L->OkLay s x) {k:Nat} (hk:k<L.length):OkLay (L.getD k lx0).1 (L.getD k lx0).2:=by
 have hm:L.getD k lx0∈L:=(by rw[List.getD_eq_getElem?_getD,List.getElem?_eq_getElem hk];exact List.getElem_mem _);exact hL _ _ hm
theorem zla {L:List (Lay×Str)} {bs:List Bool} (hL:∀ s x,(s,x)∈L->OkLay s x):∀ k,k<=L.length->∀ p∈togP L bs k,(∀ q∈p.fol,p.base+q<(togP L bs k).length)∧p.fol.length<=100000∧p.base<=k*256
 | 0,_=>fun p h=>by simp[togP] at h
 | k+1,hk=>fun p h=>by
   have hlen:=zeo L bs 256 (fun s x h=>(hL s x h).sets) k (by omega);have ho:=zkr hL (k:=k) (by omega);rw[togP,List.mem_append] at h;rw[togP,List.length_append,zao];have hm:k*256<=(k+1)*256:=Nat.mul_le_mul_right _ (Nat.le_succ _);rcases h with h|h
   . obtain⟨h1,h2,h3⟩:=zla hL k (by omega) p h;exact⟨fun q hq=>Nat.lt_of_lt_of_le (h1 q hq) (Nat.le_add_right _ _),h2,Nat.le_trans h3 hm⟩
   . obtain⟨j,hj,rfl⟩:=zgi _ h;refine⟨fun q hq=>?_,ho.folN j,?_⟩
     . have h4:=ho.fol j q hq;exact Nat.add_lt_add_left h4 _
     . exact Nat.le_trans hlen hm
theorem zhm {L:List (Lay×Str)} {bs:List Bool} (hL:∀ s x,(s,x)∈L->OkLay s x):∀ k,k<=L.length->∀ p∈togF L bs k,p<(togP L bs k).length
 | 0,_=>fun p h=>by simp[togF] at h
 | k+1,hk=>fun p h=>by
   have ho:=zkr hL (k:=k) (by omega);rw[togF,List.mem_append,List.mem_map] at h;rw[togP,List.length_append,zao];rcases h with h|⟨q,hq,rfl⟩
   . have:=zhm hL k (by omega) p h;omega
   . have:=ho.first q hq
     omega
theorem zow {L:List (Lay×Str)} {bs:List Bool} {lam:Nat} (hL:∀ s x,(s,x)∈L->OkLay s x) (hn:L.length<=64) (hlam:1<=lam∧lam<=32):Valid ⟨togP L bs L.length,togF L bs L.length,lam⟩:=by
 have hP:=zeo L bs 256 (fun s x h=>(hL s x h).sets) L.length (Nat.le_refl _);have hF:=zhn L bs 256 (fun s x h=>(hL s x h).firstN) L.length (Nat.le_refl _);have hm:L.length*256<=64*256:=Nat.mul_le_mul_right _ hn;refine⟨hlam,by show (togP L bs L.length).length<=_;omega,zhm hL L.length (Nat.le_refl _),by show (togF L bs L.length).length<=_;omega,fun i p hp=>?_⟩;obtain⟨h1,h2,h3⟩:=zla hL L.length (Nat.le_refl _) p (List.mem_of_getElem? hp);exact⟨h1,h2,by omega⟩
structure Wd where
 rule:Nat
 place:Nat
 age:Nat
theorem Wd.ext' {x y:Wd} (h1:x.rule=y.rule) (h2:x.place=y.place) (h3:x.age=y.age):x=y:=by
 cases x;cases y;simp at h1 h2 h3;simp[h1,h2,h3]
instance:DecidableEq Wd:=fun x y=>if h:x.rule=y.rule∧x.place=y.place∧x.age=y.age then .isTrue (Wd.ext' h.1 h.2.1 h.2.2) else .isFalse fun e=>h (by rw[e];exact⟨rfl,rfl,rfl⟩)
def sameW (s t:List Wd):Bool:=decide (s.length=t.length∧∀ x∈s,x∈t)
def RdTr (w:World) (A:Option Addr) (L:List Bool):Prop:=∀ (i:Nat) x,L[i]?=some x->∃ b off,A=some ⟨b,off,none⟩∧b<w.heap.size∧w.cell? ⟨b,off+i,none⟩=some (.bool x)
def okWd (L:List (Lay×Str)) (bs:List Bool) (x:Wd):Prop:=∃ s t b,L[x.rule]?=some (s,t)∧bs[x.rule]?=some b∧x.place<s.sets.length∧x.age<=63
def tellStep (L:List (Lay×Str)) (bs:List Bool) (x:Wd) (o:Nat×Nat):Nat×Nat:=match L[x.rule]?,bs[x.rule]? with
 | some (_,t),some b=>if t.last.contains x.place=true then (if b=true then (o.1,o.2 ||| 2 ^ x.age) else (o.1 ||| 2 ^ x.age,o.2)) else o
 | _,_=>o
def tellW (L:List (Lay×Str)) (bs:List Bool):List Wd->Nat×Nat->Nat×Nat
 | [],o=>o
 | x::l,o=>tellW L bs l (tellStep L bs x o)
def fstOne (r:Nat) (s:Lay) (b:Nat) (l:List Nat):List Wd:=(l.filter fun p=>s.sets.getD p noneP b).map fun p=>⟨r,p,1⟩
def fstN (L:List (Lay×Str)) (b:Nat):Nat->List Wd
 | 0=>[]
 | k+1=>fstN L b k++(match L[k]? with | some (s,x)=>fstOne k s b x.first | none=>[])
def folPut (s:Lay) (b:Nat) (x:Wd) (q:Nat) (o:List Wd):List Wd:=if s.sets.getD q noneP b=true∧¬ (⟨x.rule,q,x.age+1⟩:Wd)∈o then o++[⟨x.rule,q,x.age+1⟩] else o
def folOne (s:Lay) (b:Nat) (x:Wd):List Nat->List Wd->List Wd
 | [],o=>o
 | q::l,o=>folOne s b x l (folPut s b x q o)
def stepOne (L:List (Lay×Str)) (lam b:Nat) (x:Wd) (o:List Wd):List Wd:=match L[x.rule]? with
 | some (s,_)=>if x.age<lam then folOne s b x (s.follow.getD x.place []) o else o
 | none=>o
def stepW (L:List (Lay×Str)) (lam b:Nat):List Wd->List Wd->List Wd
 | [],o=>o
 | x::st,o=>stepW L lam b st (stepOne L lam b x o)
def OkRef (L:List (Lay×Str)):Prop:=∀ (i:Nat) s x,L[i]?=some (s,x)->(∀ p∈x.first,p<s.sets.length)∧x.first.length<=100000∧∀ p,p<s.sets.length->(∀ q∈s.follow.getD p [],q<s.sets.length)∧(s.follow.getD p []).length<=100000
def OkSt (L:List (Lay×Str)) (st:List Wd):Prop:=∀ x∈st,∃ s t,L[x.rule]?=some (s,t)∧x.place<s.sets.length∧x.age<=63
theorem NfaIn.wider {w:World} {B B' gm:Nat} {vs v1 vf:Value} {s:Lay} {x:Str} (h:NfaIn w B vs v1 gm vf s x) (hB:B<=B'):NfaIn w B' vs v1 gm vf s x where
 sets:=fun p hp=>by obtain⟨g,c,e,hg,hc⟩:=h.sets p hp;exact⟨g,c,e,by omega,hc⟩
 first:=h.first
 firstB:=fun b e=>by have:=h.firstB b e;omega
 last:=h.last
 lastB:=by have:=h.lastB;omega
 fols:=fun p hp=>by obtain⟨g,c,v,e,hg,hc,hi,hv⟩:=h.fols p hp;exact⟨g,c,v,e,by omega,hc,hi,fun b e=>by have:=hv b e;omega⟩
theorem RdNfas.stays {w w':World} {A:Option Addr} {L:List (Lay×Str)} (h:RdNfas w w.heap.size A L) (hb:Below w.heap.size w w'):RdNfas w' w'.heap.size A L:=fun i s x e=>by
 obtain⟨g,off,A1,m1,c1,A2,m2,c2,gm,A3,m3,c3,h1,h2,h3,h4,h5,h6,h7⟩:=(h.below hb) i s x e;exact⟨g,off,A1,m1,c1,A2,m2,c2,gm,A3,m3,c3,h1,Nat.lt_of_lt_of_le h2 hb.size,h3,h4,h5,h6,h7.wider hb.size⟩
section
def Solid (w:World) (E:Nat->Prop) (vs v1:Value) (gm:Nat) (vf:Value) (s:Lay) (x:Str):Prop:=
 ∀ w',w.heap.size<=w'.heap.size->(∀ b,E b->w'.heap[b]?=w.heap[b]?)->NfaIn w' w'.heap.size vs v1 gm vf s x
theorem Solid.of_at {w:World} {C gm:Nat} {vs v1 vf:Value} {s:Lay} {x:Str} (h:NfaAt w C vs v1 gm vf s x) (hl:LInv s):Solid w (fun b=>C<=b∧b<w.heap.size) vs v1 gm vf s x:=fun w' hs hk=>by
 have own:∀ {v:Value} {n e size:Nat} {xs:List Value},w.ownsRow C e size v n xs->w'.ownsRow C e size v n xs:=fun h=>za3 h fun b e hb=>hk b ⟨(World.ownsRow.lt h b e).1,hb⟩
 obtain⟨Q,hr⟩:=h.rows;obtain⟨fs,h1,h2⟩:=hr.fols;exact NfaAt.rest (C:=C) ⟨⟨Q,own hr.sets,hr.setsQ,⟨fs,own h1,⟨h2.len,fun i v l e1 e2=>own (h2.get i v l e1 e2),h2.inQ,h2.apart⟩⟩,hr.folsQ⟩,own h.first,own h.last⟩ hl
theorem zkh {w:World} {B e size n c k:Nat} {A:Option Addr} {xs:List Value} (h:w.ownsRow B e size (.slice A n c) k xs):n=k:=by
 rcases h.2 with ⟨e,e0⟩|⟨g,cap,cur,e,_⟩
 . injection e with _ e _
   omega
 . injection e
def Elem (w:World) (E:Nat->Prop) (c:List Value) (s:Lay) (x:Str):Prop:=
 ∃ A1 m1 c1 A2 m2 c2 gm A3 m3 c3,c=nfaC (.slice A1 m1 c1) (.slice A2 m2 c2) (.slice (some ⟨gm,0,none⟩) s.sets.length s.sets.length) (.slice A3 m3 c3) x.empty∧m1=s.sets.length∧m2=x.first.length∧m3=s.sets.length∧Solid w E (.slice A1 m1 c1) (.slice A2 m2 c2) gm (.slice A3 m3 c3) s x
section
variable {w w':World} {E E':Nat->Prop} {c:List Value} {s:Lay} {x:Str} {ty tys:TypeId} {B:Nat} {v:Value} {L:List (Lay×Str)}
theorem Elem.keep (h:Elem w E c s x) (hs:w.heap.size<=w'.heap.size) (hk:∀ b,E b->w'.heap[b]?=w.heap[b]?):Elem w' E c s x:=by
 obtain⟨A1,m1,c1,A2,m2,c2,gm,A3,m3,c3,h1,h2,h3,h4,h5⟩:=h;exact⟨A1,m1,c1,A2,m2,c2,gm,A3,m3,c3,h1,h2,h3,h4,fun w'' hs' hk'=>h5 w'' (Nat.le_trans hs hs') fun b e=>(hk' b e).trans (hk b e)⟩
theorem Elem.wide (h:Elem w E c s x) (he:∀ b,E b->E' b):Elem w E' c s x:=by
 obtain⟨A1,m1,c1,A2,m2,c2,gm,A3,m3,c3,h1,h2,h3,h4,h5⟩:=h;exact⟨A1,m1,c1,A2,m2,c2,gm,A3,m3,c3,h1,h2,h3,h4,fun w'' hs' hk'=>h5 w'' hs' fun b e=>hk' b (he b e)⟩
theorem Elem.of_at {C gm m1 c1 m2 c2 m3 c3:Nat} {A1 A2 A3:Option Addr} (h:NfaAt w C (.slice A1 m1 c1) (.slice A2 m2 c2) gm (.slice A3 m3 c3) s x) (hl:LInv s):
   Elem w (fun b=>C<=b∧b<w.heap.size) (nfaC (.slice A1 m1 c1) (.slice A2 m2 c2) (.slice (some ⟨gm,0,none⟩) s.sets.length s.sets.length) (.slice A3 m3 c3) x.empty) s x:=by
 obtain⟨Q,hr⟩:=h.rows;obtain⟨fs,h1,h2⟩:=hr.fols;have e2:=zkh h.first
 have e3:=zkh h1;rw[hl.len] at e3;exact⟨A1,m1,c1,A2,m2,c2,gm,A3,m3,c3,rfl,zkh hr.sets,by simpa [ns] using e2,e3,Solid.of_at h hl⟩
theorem Elem.one (h:Elem w E c s x):c.length=5∧∀ u∈c,u.oneCell'=true:=by
 obtain⟨A1,m1,c1,A2,m2,c2,gm,A3,m3,c3,rfl,_⟩:=h;refine⟨rfl,fun u hu=>?_⟩;simp only[nfaC,List.mem_cons,List.not_mem_nil,or_false] at hu;rcases hu with rfl|rfl|rfl|rfl|rfl <;> rfl
def NfaRow (ty:TypeId) (w:World) (B:Nat) (v:Value) (L:List (Lay×Str)) (E:Nat->Prop):Prop:=
 (∀ b,E b->b<w.heap.size∧v.ownBlock≠some b)∧∃ cs:List (List Value),cs.length=L.length∧w.ownsRow B ty 5 v L.length cs.flatten∧∀ (i:Nat) c s x,cs[i]?=some c->L[i]?=some (s,x)->Elem w E c s x
theorem NfaRow.nil (ty:TypeId) (w:World) (B:Nat):NfaRow ty w B (.slice none 0 0) [] fun _=>False:=
 ⟨fun b e=>e.elim,[],rfl,World.ownsRow_nil w B _ 5,fun i c s x h=>by simp at h⟩
theorem NfaRow.keep (h:NfaRow ty w B v L E) (hs:w.heap.size<=w'.heap.size) (hv:∀ b,v.ownBlock=some b->w'.heap[b]?=w.heap[b]?) (hk:∀ b,E b->w'.heap[b]?=w.heap[b]?):NfaRow ty w' B v L E:=by
 obtain⟨h1,cs,h2,h3,h4⟩:=h;exact⟨fun b e=>⟨Nat.lt_of_lt_of_le (h1 b e).1 hs,(h1 b e).2⟩,cs,h2,za3 h3 fun b e _=>hv b e,fun i c s x e1 e2=>(h4 i c s x e1 e2).keep hs hk⟩
theorem NfaRow.lt (h:NfaRow ty w B v L E) {b:Nat} (hb:v.ownBlock=some b):B<=b∧b<w.heap.size:=by
 obtain⟨h1,cs,h2,h3,h4⟩:=h;exact World.ownsRow.lt h3 b hb
theorem NfaRow.kind (h:NfaRow ty w B v L E) {b:Nat} (hb:v.ownBlock=some b):∃ cur,w.heap[b]?=some (.cells cur ty (0,0)):=by
 obtain⟨h1,cs,h2,h3,h4⟩:=h;exact zaa h3 hb
theorem NfaRow.stays (h:NfaRow ty w B v L E) (hb:Below w.heap.size w w'):NfaRow ty w' B v L E:=h.keep hb.size (fun b e=>hb.block b (h.lt e).2) fun b e=>hb.block b (h.1 b e).1
theorem NfaRow.wide (h:NfaRow ty w B v L E) (he:∀ b,E b->E' b) (hE:∀ b,E' b->b<w.heap.size∧v.ownBlock≠some b):NfaRow ty w B v L E':=by
 obtain⟨h1,cs,h2,h3,h4⟩:=h;exact⟨hE,cs,h2,h3,fun i c s x e1 e2=>(h4 i c s x e1 e2).wide he⟩
theorem NfaRow.form (h:NfaRow ty w B v L E):∃ A c,v = .slice A L.length c∧L.length<=c:=by
 obtain⟨h1,cs,h2,h3,h4⟩:=h;rcases h3.2 with ⟨rfl,h0⟩|⟨g,cap,cur,rfl,_,_,hc,_⟩
 . exact⟨none,0,by rw[h0],by omega⟩
 . exact⟨_,_,rfl,hc⟩
theorem zmn:∀ (cs:List (List Value)) (i q:Nat) (c:List Value),(∀ d∈cs,d.length=5)->cs[i]?=some c->q<5->cs.flatten[i*5+q]?=c[q]?
 | [],i,q,c,hl,h,hq=>by simp at h
 | d::cs,0,q,c,hl,h,hq=>by
   simp at h;subst h;rw[List.flatten_cons,List.getElem?_append_left (by rw[hl d (List.mem_cons_self ..)];omega)];simp
 | d::cs,i+1,q,c,hl,h,hq=>by
   have ih:=zmn cs i q c (fun d' hd=>hl d' (List.mem_cons_of_mem _ hd)) (by simpa using h) hq;have hd:=hl d (List.mem_cons_self ..);rw[List.flatten_cons,List.getElem?_append_right (by rw[hd];omega),hd,show (i+1)*5+q-5=i*5+q by omega];exact ih
theorem NfaRow.fresh {E2:Nat->Prop} {n:Nat} (h:NfaRow ty w B v L E) (hb:Below w.heap.size w w') (hn:w.heap.size<=n) (he:∀ b,E b->E2 b) (h2:∀ b,E2 b->E b∨(w.heap.size<=b∧b<w'.heap.size)):NfaRow ty w' B v L E2:=
 (h.stays hb).wide he fun b e=>(h2 b e).elim (fun e'=>⟨Nat.lt_of_lt_of_le (h.1 b e').1 hb.size,(h.1 b e').2⟩) fun e'=>⟨e'.2,fun e2=>by have:=(h.lt e2).2;omega⟩
theorem NfaRow.off {ty2:TypeId} {v2:Value} {L2:List (Lay×Str)} (h:NfaRow ty w B v L E) (h2:NfaRow ty2 w B v2 L2 E) (hne:ty≠ty2) (hg:w.grownBy w' v2.ownBlock):NfaRow ty w' B v L E:=
 h.keep hg.size (fun b e=>hg.block b (h.lt e).2 fun e'=>by
   obtain⟨c1,k1⟩:=h.kind e;obtain⟨c2,k2⟩:=h2.kind e'.symm;exact za1 k1 k2 hne rfl) fun b e=>hg.block b (h.1 b e).1 fun e'=>(h2.1 b e).2 e'.symm
theorem zic {b:Nat} {cs:Array Value} {t:TypeId} (h:HasO w b (.cells cs t (0,0))) (j:Nat) (u:Value) (hu:cs.toList[j]?=some u):w.cell? ((⟨b,0,none⟩:Addr).add j)=some u:=by
 rw[Addr.add_lit,Nat.zero_add,cell_of_row w b j _ _ (0,0) h]
 simpa using hu
theorem NfaRow.rd (h:NfaRow ty w B v L E) {A:Option Addr} {n c:Nat} (hv:v = .slice A n c):RdNfas w w.heap.size A L:=fun i s x hi=>by
 obtain⟨h1,cs,h2,h3,h4⟩:=h;have hl:i<L.length:=(List.getElem?_eq_some_iff.1 hi).1;obtain⟨d,hd⟩:∃ d,cs[i]?=some d:=⟨_,List.getElem?_eq_getElem (by omega)⟩;have hall:∀ d∈cs,d.length=5:=fun d hd=>by
   obtain⟨j,hj⟩:=List.getElem?_of_mem hd;obtain⟨⟨s',x'⟩,hx⟩:∃ z,L[j]?=some z:=⟨_,List.getElem?_eq_getElem (by have:=(List.getElem?_eq_some_iff.1 hj).1;omega)⟩;exact (h4 j d s' x' hj hx).one.1
 have he:=h4 i d s x hd hi;obtain⟨A1,m1,c1,A2,m2,c2,gm,A3,m3,c3,rfl,e1,e2,e3,e4⟩:=he;rcases h3.2 with ⟨_,h0⟩|⟨g,cap,cur,e,hB,hg,_⟩
 . omega
 . rw[e] at hv h3;injection hv with f1 f2 f3
   refine⟨g,0,A1,m1,c1,A2,m2,c2,gm,A3,m3,c3,f1.symm,za0 hg,fun q u hu=>?_,e1,e2,e3,e4 w (Nat.le_refl _) fun _ _=>rfl⟩;have hq:q<5:=(List.getElem?_eq_some_iff.1 hu).1;rw[Nat.zero_add,World.ownsRow.cellAt h3 (i*5+q) (by omega),zmn cs i q _ hall hd hq];exact hu
structure NfaTy (ty tys:TypeId):Prop where
 und:Tryd.prog.underlying tys=some (.slice ty)
 info:(Tryd.prog.info? ty).map (fun i=>(i.zero,i.size,i.bytes))=some (some (.agg #[.slice none 0 0,.slice none 0 0,.slice none 0 0,.slice none 0 0,.bool false]),5,104)
theorem zt6 (hT:NfaTy ty tys) (h:NfaRow ty w B v L E) (hB:B<=w.heap.size) (hl:L.length<=1000) (he:Elem w E c s x) (td:TypeId) (ad:Addr) (cp:Nat) (hc:∀ (j:Nat) u,c[j]?=some u->w.cell? (ad.add j)=some u):
   ∃ v' w',(Builtin.append_ #[tys,tys] td #[v,.slice (some ad) 1 cp]).run Tryd.prog w = .ok v' w'∧NfaRow ty w' B v' (L++[(s,x)]) E∧w.grownBy w' v.ownBlock∧(v'.ownBlock=v.ownBlock∨v'.ownBlock=some w.heap.size):=by
 obtain⟨h1,cs,h2,h3,h4⟩:=h;obtain⟨i0,hi,hz0,hz1,hz2⟩:=info_parts hT.info;obtain⟨v',w',hr,h5,h6,_,h7⟩:=run_append_own_at (P:=Tryd.prog) w B tys td ty i0 _ 5 104 hT.und hi hz0 hz1 hz2 rfl (by decide) v L.length cs.flatten h3 ad 1 cp c he.one.1 hc he.one.2 (by unfold maxLen;omega) (by omega) hB;have hk:∀ b,E b->w'.heap[b]?=w.heap[b]?:=fun b e=>h6.block b (h1 b e).1 fun e'=>(h1 b e).2 e'.symm
 refine⟨v',w',hr,⟨fun b e=>⟨Nat.lt_of_lt_of_le (h1 b e).1 h6.size,fun e'=>?_⟩,cs++[c],by simp[h2],by rw[List.flatten_append,List.length_append];simpa using h5,fun i c' s' x' e1 e2=>?_⟩,h6,h7⟩
 . rcases h7 with e7|e7
   . exact (h1 b e).2 (e7▸e')
   . rw[e7] at e';injection e' with e'
     have:=(h1 b e).1;omega
 . by_cases hi':i<L.length
   . rw[List.getElem?_append_left hi'] at e2;rw[List.getElem?_append_left (by omega)] at e1;exact (h4 i c' s' x' e1 e2).keep h6.size hk
   . have e0:i=L.length:=by
       have:=(List.getElem?_eq_some_iff.1 e2).1;simp at this;omega
     subst e0;rw[List.getElem?_append_right (Nat.le_refl _)] at e2;rw[List.getElem?_append_right (by omega)] at e1;simp[h2] at e1 e2;obtain⟨rfl,rfl⟩:=e2;subst e1;exact he.keep h6.size hk
theorem zgc (hT:NfaTy ty tys) {ops:Array Oper} {rest:List Oper} {o:Oper} {a:Act} {Q:Exit->Act->World->Prop} (hgd:o.guard=none) (s0 x0:Operand)
   (ho:o.op = .call {callee := .builtin .append,args:=#[s0,x0],argTypes:=#[tys,tys]}) (hs:a.eval s0=v) (h:NfaRow ty w B v L E) (hB:B<=w.heap.size) (hl:L.length<=1000) (he:Elem w E c s x)
   (ad:Addr) (cp:Nat) (hx:a.eval x0 = .slice (some ad) 1 cp) (hc:∀ (j:Nat) u,c[j]?=some u->w.cell? (ad.add j)=some u)
   (hk:∀ v' w',NfaRow ty w' B v' (L++[(s,x)]) E->w.grownBy w' v.ownBlock->(v'.ownBlock=v.ownBlock∨v'.ownBlock=some w.heap.size)->wpList Tryd.prog ops Q rest (a.put o.dst v') w'):wpList Tryd.prog ops Q (o::rest) a w:=by
 obtain⟨v',w',hr,h2,h3,h4⟩:=zt6 hT h hB hl he o.type ad cp hc;refine wpList_plain hgd fun _ hK=>?_
 unfold Oper.wp execOp;simp only[ho,resolve,invoke,builtin,Sem.run_bind,Sem.run_pure,Result.andThen_ok,List.map_toArray,List.map_cons,List.map_nil,hs,hx,hr];exact hK _ _ (hk v' w' h2 h3 h4)
end
theorem NfaRow.off2 {w w':World} {E:Nat->Prop} {ty e2:TypeId} {B B2 size n:Nat} {v v2:Value} {L:List (Lay×Str)} {xs:List Value} (h:NfaRow ty w B v L E) (h2:w.ownsRow B2 e2 size v2 n xs) (hne:ty≠e2) (hE:∀ b,E b->v2.ownBlock≠some b) (hg:w.grownBy w' v2.ownBlock):NfaRow ty w' B v L E:=
 h.keep hg.size (fun b e=>hg.block b (h.lt e).2 fun e'=>by
   obtain⟨c1,k1⟩:=h.kind e;obtain⟨c2,k2⟩:=zaa h2 e'.symm;exact za1 k1 k2 hne rfl) fun b e=>hg.block b (h.1 b e).1 fun e'=>hE b e e'.symm
theorem NfaRow.off3 {w w':World} {E:Nat->Prop} {ty e2:TypeId} {B B2 size n:Nat} {v v2:Value} {L:List (Lay×Str)} {xs:List Value} (h:w.ownsRow B2 e2 size v2 n xs) (h2:NfaRow ty w B v L E) (hne:ty≠e2) (hg:w.grownBy w' v.ownBlock):w'.ownsRow B2 e2 size v2 n xs:=
 za3 h fun b e hb=>hg.block b hb fun e'=>by
   obtain⟨c1,k1⟩:=h2.kind e'.symm;obtain⟨c2,k2⟩:=zaa h e;exact za1 k1 k2 hne rfl
theorem zij {w:World} {ops:Array Oper} {rest:List Oper} {o:Oper} {a:Act} {Q:Exit->Act->World->Prop} (hgd:o.guard=none) (s0 x0:Operand)
   (ho:o.op = .call {callee := .builtin .append,args:=#[s0,x0],argTypes:=#[39,39]}) {B n:Nat} {v:Value} {xs:List Value} (hs:a.eval s0=v) (h:w.ownsRow B 4 1 v n xs) (hB:B<=w.heap.size) (hl:n<=1000) (b:Bool)
   (ad:Addr) (cp:Nat) (hx:a.eval x0 = .slice (some ad) 1 cp) (hc:∀ (j:Nat) u,[Value.bool b][j]?=some u->w.cell? (ad.add j)=some u)
   (hk:∀ v' w',w'.ownsRow B 4 1 v' (n+1) (xs++[.bool b])->w.grownBy w' v.ownBlock->(v'.ownBlock=v.ownBlock∨v'.ownBlock=some w.heap.size)->wpList Tryd.prog ops Q rest (a.put o.dst v') w'):wpList Tryd.prog ops Q (o::rest) a w:=by
 obtain⟨i0,hi,hz0,hz1,hz2⟩:=info_parts Tryd.infoBool;obtain⟨v',w',hr,h5,h6,_,h7⟩:=run_append_own_at (P:=Tryd.prog) w B 39 o.type 4 i0 _ 1 1 Tryd.underlying39 hi hz0 hz1 hz2 rfl (by decide) v n xs h ad 1 cp [.bool b] rfl hc (fun u hu=>by simp at hu;subst hu;rfl) (by unfold maxLen;omega) (by omega) hB;refine wpList_plain hgd fun _ hK=>?_
 unfold Oper.wp execOp;simp only[ho,resolve,invoke,builtin,Sem.run_bind,Sem.run_pure,Result.andThen_ok,List.map_toArray,List.map_cons,List.map_nil,hs,hx,hr];exact hK _ _ (hk v' w' h5 h6 h7)
theorem zwk:NfaTy 42 53:=⟨Tryd.underlying53,by kernel_rfl⟩
theorem zwl:NfaTy 103 54:=⟨Tryd.underlying54,by kernel_rfl⟩
end
end Go.Proofs.YtgbdanddbgomhaaDoor
