import Derived.Test.YtipfgpfplakhiaaDoorTw13
import Derived.Test.YtipfgpfplakhiaaDoorTw8
set_option linter.unusedVariables false
set_option linter.unusedSimpArgs false
set_option maxRecDepth 20000
set_option maxHeartbeats 4000000
namespace Go.Proofs.YtipfgpfplakhiaaDoor
open Go Go.RowKit
section
structure RowsAt (w:World) (B:Nat) (vs vf:Value) (s:Lay) (Q:Nat->Prop):Prop where
 sets:w.ownsRow B 53 4 vs s.sets.length (zcj s.sets)
 setsQ:∀ b,vs.ownBlock=some b->Q b
 fols:∃ fs,w.ownsRow B 68 1 vf s.follow.length fs∧FolAt w B fs s.follow Q
 folsQ:∀ b,vf.ownBlock=some b->Q b
section
variable {w w':World} {B:Nat} {s:Lay} {Q:Nat->Prop} {fs:List Value} {ls:List (List Nat)} {vs vf:Value}
theorem FolAt.block (h:FolAt w B fs ls Q) (hb:∀ b,Q b->b<w.heap.size->w'.heap[b]?=w.heap[b]?):FolAt w' B fs ls Q:=
 ⟨h.len,fun i v l h1 h2=>(h.get i v l h1 h2).block fun b e=>hb b (h.inQ i v b h1 e),h.inQ,h.apart⟩
theorem RowsAt.block (h:RowsAt w B vs vf s Q) (hb:∀ b,Q b->b<w.heap.size->w'.heap[b]?=w.heap[b]?):RowsAt w' B vs vf s Q:=by
 obtain⟨fs,h1,h2⟩:=h.fols;exact⟨za8 h.sets fun b e=>hb b (h.setsQ b e),h.setsQ,⟨fs,za8 h1 fun b e=>hb b (h.folsQ b e),h2.block hb⟩,h.folsQ⟩
end
end
theorem Tryd.infoBool:(Tryd.prog.info? 4).map (fun i=>(i.zero,i.size,i.bytes))=some (some (.bool false),1,1):=by kernel_rfl
structure NfaAt (w:World) (C:Nat) (vs v1:Value) (gm:Nat) (vf:Value) (s:Lay) (x:Str):Prop where
 rows:∃ Q,RowsAt w C vs vf s Q
 first:Ints w C v1 (ns x.first)
 last:Bools w C gm s.sets.length (fun j=>x.last.contains j)
section
def Nice (s:Lay) (a b:Nat) (x:Str):Prop:=∃ R,Good [] s a b x R
theorem Nice.len {s:Lay} {a b:Nat} {x:Str} (h:Nice s a b x):x.first.length<=b-a∧x.last.length<=b-a:=by
 obtain⟨R,h⟩:=h;exact⟨zfr _ _ _ h.sf h.first,zfr _ _ _ h.sl h.last⟩
theorem zmy {α:Type} (l:List α) (i:Nat) (d:α) (h:i<l.length):l[i]?=some (l.getD i d):=by
 rw[yf0,yey h];rfl
theorem zoi (f:List (List Nat)) (ps ys:List Nat):∀ (k:Nat) (h:k<ps.length),zaw f (ps.take (k+1)) ys=zec (zaw f (ps.take k) ys) (ps[k]'h) ys:=by
 induction ps generalizing f with
 | nil=>intro k h;simp at h
 | cons p ps ih =>
  intro k h;cases k with
  | zero=>simp[zaw]
  | succ k =>
   simp only[yi8,zaw,List.getElem_cons_succ];exact ih _ k yit
section
variable {w w2:World} {B gl:Nat} {s:Lay} {Q:Nat->Prop} {fs:List Value} {ls:List (List Nat)} {ys:List Nat}
theorem FolAt.put (h:FolAt w B fs ls Q) (hQ:∀ b,Q b->b<w.heap.size) (p:Nat) (hp:p<ls.length) (vp v':Value) (hvp:fs[p]?=some vp) (hg:w.grownBy w2 vp.ownBlock) (hv:Ints w2 B v' (ns (ls.getD p []++ys)))
 (hor:v'.ownBlock=vp.ownBlock∨v'.ownBlock=some w.heap.size):FolAt w2 B (fs.set p v') (zec ls p ys) (fun b=>Q b∨v'.ownBlock=some b):=by
 have hpf:p<fs.length:=(by rw[h.len];exact hp);have hset:∀ i,(fs.set p v')[i]?=if i=p then some v' else fs[i]?:=fun i=>by
  rw[ygu]
  by_cases e:p=i
  .subst e;simp[hpf]
  .have e':¬ i=p:=fun x=>e x.symm
   simp[e,e']
 have hls:∀ i,(zec ls p ys)[i]?=if i=p then some (ls.getD p []++ys) else ls[i]?:=fun i=>by
  rw[zec,ygu]
  by_cases e:p=i
  .subst e;simp[hp]
  .have e':¬ i=p:=fun x=>e x.symm
   simp[e,e']
 refine⟨by simp[zec,h.len],fun i v l h1 h2=>?_,fun i v b h1 h2=>?_,fun i j v v'' b h1 h2 h3 h4=>?_⟩
 .rw[hset] at h1;rw[hls] at h2
  by_cases e:i=p
  .rw[if_pos e] at h1 h2;injection h1 with h1
   injection h2 with h2
   subst h1 h2;exact hv
  .rw[if_neg e] at h1 h2;refine (h.get i v l h1 h2).block fun b hb hlt=>hg.block b hlt fun e'=>e ?_
   exact h.apart i p v vp b h1 hvp hb e'.symm
 .rw[hset] at h1
  by_cases e:i=p
  .rw[if_pos e] at h1;injection h1 with h1
   subst h1;exact .inr h2
  .rw[if_neg e] at h1;exact .inl (h.inQ i v b h1 h2)
 .rw[hset] at h1 h2;have key:∀ k v0,k≠p->fs[k]?=some v0->v0.ownBlock=some b->v'.ownBlock=some b->False:=by
   intro k v0 hk hv0 hb0 hb';rcases hor with e|e
   .exact hk (h.apart k p v0 vp b hv0 hvp hb0 (e.symm.trans hb'))
   .have:=hQ b (h.inQ k v0 b hv0 hb0);rw[e] at hb';injection hb' with hb'
    omega
  by_cases e:i=p
  .by_cases e2:j=p
   .rw[e,e2]
   .rw[if_pos e] at h1;rw[if_neg e2] at h2;injection h1 with h1
    subst h1;exact (key j v'' e2 h2 h4 h3).elim
  .rw[if_neg e] at h1
   by_cases e2:j=p
   .rw[if_pos e2] at h2;injection h2 with h2
    subst h2;exact (key i v e h1 h3 h4).elim
   .rw[if_neg e2] at h2;exact h.apart i j v v'' b h1 h2 h3 h4
end
end
structure NfaIn (w:World) (B:Nat) (vs v1:Value) (gm:Nat) (vf:Value) (s:Lay) (x:Str):Prop where
 sets:∀ p,p<s.sets.length->∃ g c,vs = .slice (some ⟨g,0,none⟩) s.sets.length c∧g<B∧∀ r,r<4->w.cell? ⟨g,p*4+r,none⟩=some (.int .u64 (word (s.sets.getD p za9) r))
 first:Ints w 0 v1 (ns x.first)
 firstB:∀ b,v1.ownBlock=some b->b<B
 last:∀ p,p<s.sets.length->w.cell? ⟨gm,p,none⟩=some (.bool (x.last.contains p))
 lastB:gm<B
 fols:∀ p,p<s.sets.length->∃ g c v,vf = .slice (some ⟨g,0,none⟩) s.sets.length c∧g<B∧w.cell? ⟨g,p,none⟩=some v∧Ints w 0 v (ns (s.follow.getD p []))∧∀ b,v.ownBlock=some b->b<B
theorem NfaAt.rest {w:World} {C gm:Nat} {vs v1 vf:Value} {s:Lay} {x:Str} (h:NfaAt w C vs v1 gm vf s x) (hl:LInv s):NfaIn w w.heap.size vs v1 gm vf s x:=by
 obtain⟨Q,hr⟩:=h.rows;obtain⟨fs,hfo,hfs⟩:=hr.fols;refine⟨fun p hp=>?_,h.first.low (yf8 _),fun b e=>(h.first.in e).2,fun p hp=>h.last.cell p hp,h.last.in.2,fun p hp=>?_⟩
 .have hs:=hr.sets;rcases hs.2 with ⟨_,h0⟩|⟨g,c,cur,rfl,_,hg,_⟩
  .omega
  .refine⟨g,c,rfl,za0 hg,fun r hr=>?_⟩;rw[yf7 hs (p*4+r) yie,zf4 _ _ _ hp hr,yf0,yey hp];rfl
 .have hp':p<s.follow.length:=(by rw[hl.len];exact hp);rcases hfo.2 with ⟨_,h0⟩|⟨g,c,cur,rfl,_,hg,_⟩
  .omega
  .have hpf:p<fs.length:=(by rw[hfs.len];exact hp');refine⟨g,c,fs[p]'hpf,by rw[hl.len],za0 hg,?_,(hfs.get p _ _ (yey hpf) (zmy s.follow p [] hp')).low (yf8 _),fun b e=>?_⟩
   .rw[yf7 hfo p yie];exact yey hpf
   .exact ((hfs.get p _ _ (yey hpf) (zmy s.follow p [] hp')).in e).2
theorem NfaIn.below {w w':World} {B gm:Nat} {vs v1 vf:Value} {s:Lay} {x:Str} (h:NfaIn w B vs v1 gm vf s x) (hb:Below B w w'):NfaIn w' B vs v1 gm vf s x:=by
 refine⟨fun p hp=>?_,h.first.block fun b e _=>hb.block b (h.firstB b e),h.firstB,fun p hp=>(hb.cell (p:=⟨gm,p,none⟩) h.lastB).trans (h.last p hp),h.lastB,fun p hp=>?_⟩
 .obtain⟨g,c,e,hg,hc⟩:=h.sets p hp;exact⟨g,c,e,hg,fun r hr=>(hb.cell (p:=⟨g,p*4+r,none⟩) hg).trans (hc r hr)⟩
 .obtain⟨g,c,v,e,hg,hc,hi,hv⟩:=h.fols p hp;exact⟨g,c,v,e,hg,(hb.cell (p:=⟨g,p,none⟩) hg).trans hc,hi.block fun b e _=>hb.block b (hv b e),hv⟩
section
theorem Tryd.infoPlc:(Tryd.prog.info? 117).map (fun i=>(i.zero,i.size,i.bytes))=some (some (.agg #[.int .u64 0,.int .u64 0,.int .u64 0,.int .u64 0,.slice none 0 0,.int .i64 0,.bool false,.bool false]),8,72):=by kernel_rfl
def PlcRow (w:World) (B:Nat) (v:Value) (ps:List Plc):Prop:=
 ∃ vs,vs.length=ps.length∧w.ownsRow B 117 8 v ps.length (zj5 ps vs)∧∀ (i:Nat) u p,vs[i]?=some u->ps[i]?=some p->Ints w 0 u (ns p.fol)∧∀ b,u.ownBlock=some b->b<B
section
variable {w w':World} {B:Nat} {v:Value} {ps:List Plc}
theorem PlcRow.nil (w:World) (B:Nat):PlcRow w B (.slice none 0 0) []:=⟨[],rfl,yfx w B _ 8,fun i u p h=>by simp at h⟩
theorem PlcRow.form (h:PlcRow w B v ps):∃ A c,v = .slice A ps.length c∧ps.length<=c:=by
 obtain⟨vs,h1,h2,h3⟩:=h;rcases h2.2 with ⟨rfl,h0⟩|⟨g,cap,cur,rfl,_,_,hc,_⟩
 .exact⟨none,0,by rw[h0],by omega⟩
 .exact⟨_,_,rfl,hc⟩
theorem PlcRow.in (h:PlcRow w B v ps) {b:Nat} (hb:v.ownBlock=some b):B<=b∧b<w.heap.size:=by
 obtain⟨vs,h1,h2,h3⟩:=h;exact yf5 h2 b hb
theorem PlcRow.kind (h:PlcRow w B v ps) {b:Nat} (hb:v.ownBlock=some b):∃ cur,w.heap[b]?=some (.cells cur 117 (0,0)):=by
 obtain⟨vs,h1,h2,h3⟩:=h;exact za7 h2 hb
theorem PlcRow.block (h:PlcRow w B v ps) (hB:B<=w.heap.size) (hb:Below B w w') (ho:∀ b,v.ownBlock=some b->w'.heap[b]?=w.heap[b]?):PlcRow w' B v ps:=by
 obtain⟨vs,h1,h2,h3⟩:=h;exact⟨vs,h1,za8 h2 fun b e _=>ho b e,fun i u p e1 e2=>⟨(h3 i u p e1 e2).1.block fun b e _=>hb.block b ((h3 i u p e1 e2).2 b e),(h3 i u p e1 e2).2⟩⟩
theorem PlcRow.stays (h:PlcRow w B v ps) (hB:B<=w.heap.size) (hb:Below w.heap.size w w'):PlcRow w' B v ps:=
 h.block hB (hb.mono hB) fun b e=>hb.block b (h.in e).2
theorem PlcRow.cellSet (h:PlcRow w B v ps) (hB:B<=w.heap.size) {a:Addr} (ha:a.block<B) (hk:∃ cur ty,w.heap[a.block]?=some (.cells cur ty (0,0))∧ty≠3) (u:Value):PlcRow (w.setCell a u) B v ps:=by
 obtain⟨vs,h1,h2,h3⟩:=h;obtain⟨cur,ty,hc,hty⟩:=hk;exact⟨vs,h1,za8 h2 fun b e _=>yf9 _ _ _ _ (by have:=(yf5 h2 b e).1;omega),fun i x p e1 e2=>⟨(h3 i x p e1 e2).1.block fun b e _=>yf9 _ _ _ _ (by
  intro e';obtain⟨c2,k2⟩:=(h3 i x p e1 e2).1.kind e;subst e';exact za1 hc k2 hty rfl),(h3 i x p e1 e2).2⟩⟩
theorem PlcRow.rules (h:PlcRow w B v ps) {v1:Value} {fs:List Nat} (hf:Ints w B v1 (ns fs)) {gr lam:Nat} (hr:HasO w gr (.cells #[v,v1,.int .i64 lam] 77 (0,0))):RulesIn w gr ⟨ps,fs,lam⟩:=by
 obtain⟨vs,h1,h2,h3⟩:=h;exact⟨v,vs,v1,hr,h1,zbh h2 (yf8 _),fun i u p e1 e2=>(h3 i u p e1 e2).1,hf.low (yf8 _)⟩
end
theorem zyo {w:World} {B:Nat} {v:Value} {ps:List Plc} (h:PlcRow w B v ps) (hB:B<=w.heap.size) (hl:ps.length<=100000) (p:Plc) (u:Value) (hu:Ints w 0 u (ns p.fol)) (hub:∀ b,u.ownBlock=some b->b<B) (td:TypeId) (ad:Addr) (c:Nat)
 (hc:∀ (j:Nat) x,(plcC p u)[j]?=some x->w.cell? (ad.add j)=some x):
 ∃ v' w',(Builtin.append_ #[75,75] td #[v,.slice (some ad) 1 c]).run Tryd.prog w = .ok v' w'∧PlcRow w' B v' (ps++[p])∧w.grownBy w' v.ownBlock∧(v'.ownBlock=v.ownBlock∨v'.ownBlock=some w.heap.size):=by
 have h0:=h;obtain⟨vs,h1,h2,h3⟩:=h;obtain⟨i0,hi,hz0,hz1,hz2⟩:=info_parts Tryd.infoPlc;have hone:u.oneCell'=true:=by
  obtain⟨A,c',e⟩:=hu.form;rw[e];rfl
 obtain⟨v',w',hr,h4,h5,_,h6⟩:=run_append_own_at (P:=Tryd.prog) w B 75 td 117 i0 _ 8 72 Tryd.underlying75 hi hz0 hz1 hz2 rfl yij v ps.length (zj5 ps vs) h2 ad 1 c (plcC p u) rfl hc
  (by
    intro x hx;simp only[plcC,yfi,yfk,or_false] at hx;rcases hx with rfl|rfl|rfl|rfl|rfl|rfl|rfl|rfl
    all_goals first | rfl | exact hone) yin yie hB
 have key:∀ (u':Value) (l:List Int),Ints w 0 u' l->(∀ b,u'.ownBlock=some b->b<B)->Ints w' 0 u' l:=fun u' l hu' hb'=>hu'.block fun b e hb=>h5.block b hb fun e'=>by
  have h7:=(yf5 h2 b e'.symm).1;have h8:=hb' b e;omega
 refine⟨v',w',hr,⟨vs++[u],by simp[h1],?_,fun i u' p' e1 e2=>?_⟩,h5,h6⟩
 .rw[zo5 ps vs p u h1]
  simpa using h4
 .by_cases hi':i<ps.length
  .rw[yfb hi'] at e2;rw[yfb yie] at e1;exact⟨key _ _ (h3 i u' p' e1 e2).1 (h3 i u' p' e1 e2).2,(h3 i u' p' e1 e2).2⟩
  .have e0:i=ps.length:=by
    have:=(yf4.1 e2).1;simp at this;omega
   subst e0;rw[yfc (yez _)] at e2;rw[yfc yie] at e1;simp[h1] at e1 e2;subst e1 e2;exact⟨key _ _ hu hub,hub⟩
def nfaC (vs v1 vm vf:Value) (e:Bool):List Value:=[vs,v1,vm,vf,.bool e]
def RdNfas (w:World) (B:Nat) (A:Option Addr) (L:List (Lay×Str)):Prop:=
 ∀ i s x,L[i]?=some (s,x)->∃ g off A1 m1 c1 A2 m2 c2 gm A3 m3 c3,A=some ⟨g,off,none⟩∧g<B∧(∀ q u,(nfaC (.slice A1 m1 c1) (.slice A2 m2 c2) (.slice (some ⟨gm,0,none⟩) s.sets.length s.sets.length) (.slice A3 m3 c3) x.empty)[q]?=some u->w.cell? ⟨g,off+i*5+q,none⟩=some u)∧
  m1=s.sets.length∧m2=x.first.length∧m3=s.sets.length∧NfaIn w B (.slice A1 m1 c1) (.slice A2 m2 c2) gm (.slice A3 m3 c3) s x
theorem RdNfas.below {w w':World} {B:Nat} {A:Option Addr} {L:List (Lay×Str)} (h:RdNfas w B A L) (hb:Below B w w'):RdNfas w' B A L:=fun i s x e=>by
 obtain⟨g,off,A1,m1,c1,A2,m2,c2,gm,A3,m3,c3,h1,h2,h3,h4,h5,h6,h7⟩:=h i s x e;exact⟨g,off,A1,m1,c1,A2,m2,c2,gm,A3,m3,c3,h1,h2,fun q u hu=>(hb.cell (p:=⟨g,off+i*5+q,none⟩) h2).trans (h3 q u hu),h4,h5,h6,h7.below hb⟩
def zma (s:Lay) (x:Str) (base:Nat) (b:Bool) (p:Nat):Plc:=⟨s.sets.getD p za9,s.follow.getD p [],base,x.last.contains p,b⟩
def zby (s:Lay) (x:Str) (base:Nat) (b:Bool):Nat->List Plc
 | 0=>[]
 | k+1=>zby s x base b k++[zma s x base b k]
theorem zb7 (s:Lay) (x:Str) (base:Nat) (b:Bool):∀ k,(zby s x base b k).length=k
 | 0=>rfl
 | k+1=>by simp[zby,zb7 s x base b k]
def lx0:Lay×Str:=(⟨[],[]⟩,⟨[],[],false⟩)
def togP (L:List (Lay×Str)) (bs:List Bool):Nat->List Plc
 | 0=>[]
 | k+1=>togP L bs k++zby (L.getD k lx0).1 (L.getD k lx0).2 (togP L bs k).length (bs.getD k false) (L.getD k lx0).1.sets.length
def togF (L:List (Lay×Str)) (bs:List Bool):Nat->List Nat
 | 0=>[]
 | k+1=>togF L bs k++(L.getD k lx0).2.first.map ((togP L bs k).length+·)
theorem zij (L:List (Lay×Str)) (bs:List Bool) (P:Nat) (hP:∀ s x,(s,x)∈L->s.sets.length<=P):∀ k,k<=L.length->(togP L bs k).length<=k*P
 | 0,_=>by simp[togP]
 | k+1,h=>by
  have ih:=zij L bs P hP k yie;have hm:L.getD k lx0∈L:=(by rw[yf0,yey yie];exact yfq _);have:=hP (L.getD k lx0).1 (L.getD k lx0).2 hm;simp only[togP,yfd,zb7];rw[yha];omega
theorem zly (L:List (Lay×Str)) (bs:List Bool) (P:Nat) (hP:∀ s x,(s,x)∈L->x.first.length<=P):∀ k,k<=L.length->(togF L bs k).length<=k*P
 | 0,_=>by simp[togF]
 | k+1,h=>by
  have ih:=zly L bs P hP k yie;have hm:L.getD k lx0∈L:=(by rw[yf0,yey yie];exact yfq _);have:=hP (L.getD k lx0).1 (L.getD k lx0).2 hm;simp only[togF,yfd,yfr];rw[yha];omega
end
section
def Solid (w:World) (E:Nat->Prop) (vs v1:Value) (gm:Nat) (vf:Value) (s:Lay) (x:Str):Prop:=
 ∀ w',w.heap.size<=w'.heap.size->(∀ b,E b->w'.heap[b]?=w.heap[b]?)->NfaIn w' w'.heap.size vs v1 gm vf s x
theorem Solid.of_at {w:World} {C gm:Nat} {vs v1 vf:Value} {s:Lay} {x:Str} (h:NfaAt w C vs v1 gm vf s x) (hl:LInv s):Solid w (fun b=>C<=b∧b<w.heap.size) vs v1 gm vf s x:=fun w' hs hk=>by
 have own:∀ {v:Value} {n e size:Nat} {xs:List Value},w.ownsRow C e size v n xs->w'.ownsRow C e size v n xs:=fun h=>za8 h fun b e hb=>hk b ⟨(yf5 h b e).1,hb⟩
 obtain⟨Q,hr⟩:=h.rows;obtain⟨fs,h1,h2⟩:=hr.fols;exact NfaAt.rest (C:=C) ⟨⟨Q,own hr.sets,hr.setsQ,⟨fs,own h1,⟨h2.len,fun i v l e1 e2=>own (h2.get i v l e1 e2),h2.inQ,h2.apart⟩⟩,hr.folsQ⟩,own h.first,own h.last⟩ hl
theorem zpt {w:World} {B e size n c k:Nat} {A:Option Addr} {xs:List Value} (h:w.ownsRow B e size (.slice A n c) k xs):n=k:=by
 rcases h.2 with ⟨e,e0⟩|⟨g,cap,cur,e,_⟩
 .injection e with _ e _
  omega
 .injection e
def Elem (w:World) (E:Nat->Prop) (c:List Value) (s:Lay) (x:Str):Prop:=
 ∃ A1 m1 c1 A2 m2 c2 gm A3 m3 c3,c=nfaC (.slice A1 m1 c1) (.slice A2 m2 c2) (.slice (some ⟨gm,0,none⟩) s.sets.length s.sets.length) (.slice A3 m3 c3) x.empty∧m1=s.sets.length∧m2=x.first.length∧m3=s.sets.length∧Solid w E (.slice A1 m1 c1) (.slice A2 m2 c2) gm (.slice A3 m3 c3) s x
section
variable {w w':World} {E E':Nat->Prop} {c:List Value} {s:Lay} {x:Str} {ty tys:TypeId} {B:Nat} {v:Value} {L:List (Lay×Str)}
theorem Elem.keep (h:Elem w E c s x) (hs:w.heap.size<=w'.heap.size) (hk:∀ b,E b->w'.heap[b]?=w.heap[b]?):Elem w' E c s x:=by
 obtain⟨A1,m1,c1,A2,m2,c2,gm,A3,m3,c3,h1,h2,h3,h4,h5⟩:=h;exact⟨A1,m1,c1,A2,m2,c2,gm,A3,m3,c3,h1,h2,h3,h4,fun w'' hs' hk'=>h5 w'' (yfa hs hs') fun b e=>(hk' b e).trans (hk b e)⟩
theorem Elem.wide (h:Elem w E c s x) (he:∀ b,E b->E' b):Elem w E' c s x:=by
 obtain⟨A1,m1,c1,A2,m2,c2,gm,A3,m3,c3,h1,h2,h3,h4,h5⟩:=h;exact⟨A1,m1,c1,A2,m2,c2,gm,A3,m3,c3,h1,h2,h3,h4,fun w'' hs' hk'=>h5 w'' hs' fun b e=>hk' b (he b e)⟩
theorem Elem.of_at {C gm m1 c1 m2 c2 m3 c3:Nat} {A1 A2 A3:Option Addr} (h:NfaAt w C (.slice A1 m1 c1) (.slice A2 m2 c2) gm (.slice A3 m3 c3) s x) (hl:LInv s):
 Elem w (fun b=>C<=b∧b<w.heap.size) (nfaC (.slice A1 m1 c1) (.slice A2 m2 c2) (.slice (some ⟨gm,0,none⟩) s.sets.length s.sets.length) (.slice A3 m3 c3) x.empty) s x:=by
 obtain⟨Q,hr⟩:=h.rows;obtain⟨fs,h1,h2⟩:=hr.fols;have e2:=zpt h.first
 have e3:=zpt h1;rw[hl.len] at e3;exact⟨A1,m1,c1,A2,m2,c2,gm,A3,m3,c3,rfl,zpt hr.sets,by simpa [ns] using e2,e3,Solid.of_at h hl⟩
theorem Elem.one (h:Elem w E c s x):c.length=5∧∀ u∈c,u.oneCell'=true:=by
 obtain⟨A1,m1,c1,A2,m2,c2,gm,A3,m3,c3,rfl,_⟩:=h;refine⟨rfl,fun u hu=>?_⟩;simp only[nfaC,yfi,yfk,or_false] at hu;rcases hu with rfl|rfl|rfl|rfl|rfl <;> rfl
def NfaRow (ty:TypeId) (w:World) (B:Nat) (v:Value) (L:List (Lay×Str)) (E:Nat->Prop):Prop:=
 (∀ b,E b->b<w.heap.size∧v.ownBlock≠some b)∧∃ cs:List (List Value),cs.length=L.length∧w.ownsRow B ty 5 v L.length cs.flatten∧∀ (i:Nat) c s x,cs[i]?=some c->L[i]?=some (s,x)->Elem w E c s x
theorem zs4:∀ (cs:List (List Value)) (i q:Nat) (c:List Value),(∀ d∈cs,d.length=5)->cs[i]?=some c->q<5->cs.flatten[i*5+q]?=c[q]?
 | [],i,q,c,hl,h,hq=>by simp at h
 | d::cs,0,q,c,hl,h,hq=>by
  simp at h;subst h;rw[List.flatten_cons,yfb (by rw[hl d (yg9 ..)];omega)];simp
 | d::cs,i+1,q,c,hl,h,hq=>by
  have ih:=zs4 cs i q c (fun d' hd=>hl d' (yfv _ hd)) yit hq;have hd:=hl d (yg9 ..);rw[List.flatten_cons,yfc (by rw[hd];omega),hd,show (i+1)*5+q-5=i*5+q by omega];exact ih
theorem NfaRow.rd (h:NfaRow ty w B v L E) {A:Option Addr} {n c:Nat} (hv:v = .slice A n c):RdNfas w w.heap.size A L:=fun i s x hi=>by
 obtain⟨h1,cs,h2,h3,h4⟩:=h;have hl:i<L.length:=(yf4.1 hi).1;obtain⟨d,hd⟩:∃ d,cs[i]?=some d:=⟨_,yey yie⟩;have hall:∀ d∈cs,d.length=5:=fun d hd=>by
  obtain⟨j,hj⟩:=ygr hd;obtain⟨⟨s',x'⟩,hx⟩:∃ z,L[j]?=some z:=⟨_,yey (by have:=(yf4.1 hj).1;omega)⟩;exact (h4 j d s' x' hj hx).one.1
 have he:=h4 i d s x hd hi;obtain⟨A1,m1,c1,A2,m2,c2,gm,A3,m3,c3,rfl,e1,e2,e3,e4⟩:=he;rcases h3.2 with ⟨_,h0⟩|⟨g,cap,cur,e,hB,hg,_⟩
 .omega
 .rw[e] at hv h3;injection hv with f1 f2 f3
  refine⟨g,0,A1,m1,c1,A2,m2,c2,gm,A3,m3,c3,f1.symm,za0 hg,fun q u hu=>?_,e1,e2,e3,e4 w (yez _) fun _ _=>rfl⟩;have hq:q<5:=(yf4.1 hu).1;rw[yg5,yf7 h3 (i*5+q) yie,zs4 cs i q _ hall hd hq];exact hu
structure yeu (ty tys:TypeId):Prop where
 und:Tryd.prog.underlying tys=some (.slice ty)
 info:(Tryd.prog.info? ty).map (fun i=>(i.zero,i.size,i.bytes))=some (some (.agg #[.slice none 0 0,.slice none 0 0,.slice none 0 0,.slice none 0 0,.bool false]),5,104)
end
theorem nfaTyP:yeu 73 30:=⟨Tryd.underlying30,by kernel_rfl⟩
end
section
structure LayAt (w:World) (B gl:Nat) (s:Lay) (Q:Nat->Prop):Prop where
 ge:∀ b,Q b->B<=b∧b<w.heap.size
 glQ:Q gl
 box:∃ vs vf,w.heap[gl]?=some (.cells #[vs,vf] 130 (0,0))∧RowsAt w B vs vf s Q
section
variable {w w':World} {B gl:Nat} {s:Lay} {Q Q':Nat->Prop} {fs:List Value} {ls:List (List Nat)} {vs vf:Value}
theorem LayAt.block (h:LayAt w B gl s Q) (hs:w.heap.size<=w'.heap.size) (hb:∀ b,Q b->w'.heap[b]?=w.heap[b]?):LayAt w' B gl s Q:=by
 obtain⟨vs,vf,h1,h2⟩:=h.box;exact⟨fun b e=>by have:=h.ge b e;omega,h.glQ,vs,vf,(hb gl h.glQ).trans h1,h2.block fun b e _=>hb b e⟩
theorem LayAt.off (h:LayAt w B gl s Q) (hk:Kept Q' w w') (hq:∀ b,Q b->¬ Q' b):LayAt w' B gl s Q:=h.block hk.size fun b e=>hk.block b (h.ge b e).2 (hq b e)
theorem LayAt.stays (h:LayAt w B gl s Q) (hb:Below w.heap.size w w'):LayAt w' B gl s Q:=h.block hb.size fun b e=>hb.block b (h.ge b e).2
theorem LayAt.alloc (h:LayAt w B gl s Q) (o:Obj):LayAt (w.alloc o) B gl s Q:=h.block yii fun b e=>yfo _ _ _ (h.ge b e).2
theorem LayAt.far (h:LayAt w B gl s Q) {a:Addr} (ha:¬ Q a.block) (u:Value):LayAt (w.setCell a u) B gl s Q:=h.block (by simp[World.setCell]) fun b e=>yf9 _ _ _ _ (by intro e';subst e';exact ha e)
end
structure StrAt (w:World) (C:Nat) (v1 v2:Value) (x:Str) (Q:Nat->Prop):Prop where
 first:Ints w C v1 (ns x.first)
 last:Ints w C v2 (ns x.last)
 apart:∀ b,v1.ownBlock=some b->v2.ownBlock≠some b
 out1:∀ b,v1.ownBlock=some b->¬ Q b
 out2:∀ b,v2.ownBlock=some b->¬ Q b
section
variable {w w':World} {C:Nat} {v1 v2:Value} {x:Str} {Q Q':Nat->Prop}
theorem StrAt.off (h:StrAt w C v1 v2 x Q) (hk:Kept Q w w') (hq:∀ b,Q' b->Q b∨w.heap.size<=b):StrAt w' C v1 v2 x Q':=
 ⟨h.first.off hk h.out1,h.last.off hk h.out2,h.apart,fun b e e'=>(hq b e').elim (h.out1 b e) fun e''=>by have:=(h.first.in e).2;omega,fun b e e'=>(hq b e').elim (h.out2 b e) fun e''=>by have:=(h.last.in e).2;omega⟩
theorem StrAt.stays (h:StrAt w C v1 v2 x Q) (hb:Below w.heap.size w w'):StrAt w' C v1 v2 x Q:=⟨h.first.stays hb,h.last.stays hb,h.apart,h.out1,h.out2⟩
theorem StrAt.alloc (h:StrAt w C v1 v2 x Q) (o:Obj):StrAt (w.alloc o) C v1 v2 x Q:=h.stays ((yf6 _ _).alloc (yez _) _)
theorem StrAt.low {C':Nat} (h:StrAt w C v1 v2 x Q) (hC:C'<=C):StrAt w C' v1 v2 x Q:=⟨h.first.low hC,h.last.low hC,h.apart,h.out1,h.out2⟩
end
def BoxS (w:World) (g:Nat) (v1 v2:Value) (e:Bool):Prop:=w.heap[g]?=some (.cells #[v1,v2,.bool e] 132 (0,0))
section
variable {w w':World} {g:Nat} {v1 v2:Value} {e:Bool}
theorem BoxS.cell (h:BoxS w g v1 v2 e):w.cell? ⟨g,0,none⟩=some v1∧w.cell? ⟨g,1,none⟩=some v2∧w.cell? ⟨g,2,none⟩=some (.bool e):=by
 unfold BoxS at h;refine⟨?_,?_,?_⟩ <;> exact cell_of_row w g _ _ 132 (0,0) h
theorem BoxS.frozen (h:BoxS w g v1 v2 e):w.frozen? ⟨g,0,none⟩=false∧w.frozen? ⟨g,1,none⟩=false∧w.frozen? ⟨g,2,none⟩=false:=by
 unfold BoxS at h;refine⟨?_,?_,?_⟩ <;> simp[World.frozen?,h]
theorem BoxS.lt (h:BoxS w g v1 v2 e):g<w.heap.size:=za0 h
theorem BoxS.new (w:World) (v1 v2:Value) (e:Bool):BoxS (w.alloc (.cells #[v1,v2,.bool e] 132)) w.heap.size v1 v2 e:=heap_alloc_new w _
theorem BoxS.stays (h:BoxS w g v1 v2 e) (hb:Below w.heap.size w w'):BoxS w' g v1 v2 e:=(hb.block g h.lt).trans h
theorem BoxS.alloc (h:BoxS w g v1 v2 e) (o:Obj):BoxS (w.alloc o) g v1 v2 e:=(yfo w o g h.lt).trans h
theorem BoxS.off {Q:Nat->Prop} (h:BoxS w g v1 v2 e) (hk:Kept Q w w') (hq:¬ Q g):BoxS w' g v1 v2 e:=(hk.block g h.lt hq).trans h
theorem BoxS.grown {row:Option Nat} (h:BoxS w g v1 v2 e) (hg:w.grownBy w' row) (hr:some g≠row):BoxS w' g v1 v2 e:=(hg.block g h.lt hr).trans h
theorem BoxS.grownI {B:Nat} {v:Value} {l:List Int} (h:BoxS w g v1 v2 e) (hi:Ints w B v l) (hg:w.grownBy w' v.ownBlock):BoxS w' g v1 v2 e:=h.grown hg fun e'=>by
 obtain⟨cur,hc⟩:=hi.kind e'.symm;exact za1 hc h yij rfl
theorem BoxS.put0 (h:BoxS w g v1 v2 e) (v:Value):BoxS (w.setCell ⟨g,0,none⟩ v) g v v2 e:=by
 unfold BoxS at h ⊢;rw[heap_setCell_same w g 0 _ _ v h];rfl
theorem BoxS.far (h:BoxS w g v1 v2 e) {a:Addr} (ha:g≠a.block) (u:Value):BoxS (w.setCell a u) g v1 v2 e:=(yf9 w a u g ha).trans h
end
section
variable {w:World} {g x:Nat} {v1 v2:Value} {e:Bool}
theorem BoxS.put (h:BoxS w g v1 v2 e) (u1 u2:Value) (e':Bool):BoxS (((w.setCell ⟨g,0,none⟩ u1).setCell ⟨g,1,none⟩ u2).setCell ⟨g,2,none⟩ (.bool e')) g u1 u2 e':=by
 unfold BoxS at h ⊢;have h0:=heap_setCell_same w g 0 _ _ u1 h;have h1:=heap_setCell_same _ g 1 _ _ u2 h0;rw[heap_setCell_same _ g 2 _ _ (.bool e') h1];rfl
theorem zza (h:BoxS w g v1 v2 e):(loadVar 132 ⟨g,0,none⟩).run Tryd.prog w = .ok (.agg #[v1,v2,.bool e]) w:=by
 obtain⟨c0,c1,c2⟩:=h.cell;have h1:(loadCells ⟨g,0,none⟩ 3).run Tryd.prog w = .ok #[v1,v2,.bool e] w:=run_loadCells w ⟨g,0,none⟩ 3 (fun j=>if j=0 then v1 else if j=1 then v2 else .bool e) (fun j hj=>by
  rw[Addr.add_lit,yg5]
  match j,hj with
  | 0,_=>exact c0
  | 1,_=>exact c1
  | 2,_=>exact c2)
 have h2:(isAgg 132).run Tryd.prog w = .ok true w:=yih;have h3:(sizeOf 132).run Tryd.prog w = .ok 3 w:=yih;simp[loadVar,Sem.run_bind,h1,h2,h3]
theorem zc5 {fn:Func} {R:Ending->World->Prop} {a:Act} (hr:fn.results=#[.cell x 132]) (hx:a.tmps.getD x undef = .pointer (some ⟨g,0,none⟩)) (hd:a.defers=[]) (h:BoxS w g v1 v2 e)
 (hR:R (.returned (.agg #[v1,v2,.bool e])) w):bodyPost Tryd.prog fn R .ret a w:=by
 refine bodyPost_ret ?_ hd hR;have e0:(#[ResultVar.cell x 132]:Array ResultVar)=[ResultVar.cell x 132].toArray:=rfl;rw[ygj] at hx;unfold results;rw[hr,e0];simp[Sem.run_bind,hx,zza h,asAddr]
end
end
section
section
variable {w w2:World} {B gl:Nat} {s:Lay} {Q:Nat->Prop} {fs:List Value} {ls:List (List Nat)} {ys:List Nat}
structure Seen (w:World) (B gl:Nat) (s:Lay) (Q:Nat->Prop) (p gf cf:Nat) (vp:Value):Prop where
 glc:w.cell? ⟨gl,1,none⟩=some (.slice (some ⟨gf,0,none⟩) s.follow.length cf)
 fc:w.cell? ⟨gf,p,none⟩=some vp
 fz:w.frozen? ⟨gf,p,none⟩=false
 list:Ints w B vp (ns (s.follow.getD p []))
 gfQ:Q gf
 glQ:Q gl
 gfl:gf<w.heap.size
 gll:gl<w.heap.size
 ne:gf≠gl
 vgf:vp.ownBlock≠some gf
 vgl:vp.ownBlock≠some gl
 vQ:∀ b,vp.ownBlock=some b->Q b
theorem LayAt.open (h:LayAt w B gl s Q) (p:Nat) (hp:p<s.follow.length):∃ gf cf vp,Seen w B gl s Q p gf cf vp∧
 ∀ (ys:List Nat) (w2:World) (v':Value),Ints w2 B v' (ns (s.follow.getD p []++ys))->w.grownBy w2 vp.ownBlock->(v'.ownBlock=vp.ownBlock∨v'.ownBlock=some w.heap.size)->
  LayAt (w2.setCell ⟨gf,p,none⟩ v') B gl ⟨s.sets,zec s.follow p ys⟩ (fun b=>Q b∨v'.ownBlock=some b):=by
 obtain⟨vs,vf,h1,h2⟩:=h.box;obtain⟨fs,h3,h4⟩:=h2.fols;have hpf:p<fs.length:=(by rw[h4.len];exact hp);obtain⟨vp,hvp⟩:∃ vp,fs[p]?=some vp:=⟨_,yey hpf⟩;rcases h3.2 with ⟨_,h0⟩|⟨gf,cf,cur,rfl,hB,hgf,_⟩
 .omega
 have hl:=h4.get p vp _ hvp (zmy s.follow p [] hp);have hne:gf≠gl:=za1 hgf h1 yij;have hv1:∀ b,vp.ownBlock=some b->b≠gf∧b≠gl:=fun b e=>by
  obtain⟨cur',hc⟩:=hl.kind e;exact⟨za1 hc hgf yij,za1 hc h1 yij⟩
 have hgfl:=za0 hgf;have hgll:=za0 h1;refine⟨gf,cf,vp,⟨cell_of_row w gl 1 _ _ (0,0) h1,?_,yfw h3 p,hl,h2.folsQ gf rfl,h.glQ,hgfl,hgll,hne,fun e=>(hv1 _ e).1 rfl,fun e=>(hv1 _ e).2 rfl,fun b e=>h4.inQ p vp b hvp e⟩,fun ys w2 v' hv hg hor=>?_⟩
 .rw[yf7 h3 p yie,hvp]
 .have hput:=h4.put (fun b e=>(h.ge b e).2) p hp vp v' hvp hg hv hor;have hgf2:w2.heap[gf]?=some (.cells cur 68 (0,0)):=(hg.block gf hgfl fun e=>(hv1 gf e.symm).1 rfl).trans hgf;have hgl2:=(hg.block gl hgll fun e=>(hv1 gl e.symm).2 rfl).trans h1;have hset:∀ b,b≠gf->(w2.setCell ⟨gf,p,none⟩ v').heap[b]?=w2.heap[b]?:=fun b hb=>yf9 _ _ _ _ hb
  have hkind:∀ b,v'.ownBlock=some b->b≠gf:=fun b e=>by
   obtain⟨cur',hc⟩:=hv.kind e;exact za1 hc hgf2 yij
  have h32:w2.ownsRow B 68 1 (.slice (some ⟨gf,0,none⟩) s.follow.length cf) s.follow.length fs:=za8 h3 fun b e hb=>by
   injection e with e
   subst e;exact hg.block gf hb fun e'=>(hv1 gf e'.symm).1 rfl
  refine⟨fun b e=>?_,.inl h.glQ,vs,_,(hset gl hne.symm).trans hgl2,⟨za8 h2.sets fun b e hb=>?_,fun b e => .inl (h2.setsQ b e),⟨fs.set p v',?_,?_⟩,fun b e => .inl (h2.folsQ b e)⟩⟩
  .rcases e with e|e
   .have:=h.ge b e;have hsz:=hg.size;exact⟨this.1,by simp only[World.setCell,Array.size_modify];omega⟩
   .have:=hv.in e;exact⟨this.1,by simp only[World.setCell,Array.size_modify];exact this.2⟩
  .obtain⟨cur',hc⟩:=za7 h2.sets e;have hb1:b≠gf:=za1 hc hgf yij;refine (hset b hb1).trans (hg.block b hb fun e'=>?_);obtain⟨cur'',hc'⟩:=hl.kind e'.symm;exact za1 hc' hc yij rfl
  .have:=(yg1 h32 p v').1;rw[show (zec s.follow p ys).length=s.follow.length from zfv _ _ _];exact this
  .refine⟨hput.len,fun i v l e1 e2=>(hput.get i v l e1 e2).block fun b e hb=>hset b ?_,hput.inQ,hput.apart⟩;obtain⟨cur',hc⟩:=(hput.get i v l e1 e2).kind e;exact za1 hc hgf2 yij
end
end
section
attribute [local go_sem ↓] Go.wp_at_zero Go.wp_at_succ
structure TwoS (vx1 vx2 vy1 vy2:Value):Prop where
 a11:∀ b,vx1.ownBlock=some b->vy1.ownBlock≠some b
 a12:∀ b,vx1.ownBlock=some b->vy2.ownBlock≠some b
 a21:∀ b,vx2.ownBlock=some b->vy1.ownBlock≠some b
 a22:∀ b,vx2.ownBlock=some b->vy2.ownBlock≠some b
def zc0 (w:World) (B gl C:Nat) (s:Lay) (x:Str) (Q P:Nat->Prop) (e:Ending) (w':World):Prop:=
 ∃ v1 v2 Q',e = .returned (.agg #[v1,v2,.bool x.empty])∧LayAt w' B gl s Q'∧StrAt w' C v1 v2 x Q'∧Kept P w w'∧∀ b,Q' b->Q b∨w.heap.size<=b
theorem zol {w:World} {B gl C a b c:Nat} {s:Lay} {Q:Nat->Prop} {x y:Str} {vx1 vx2 vy1 vy2:Value} (hlay:LayAt w B gl s Q) (hx:StrAt w C vx1 vx2 x Q) (hy:StrAt w C vy1 vy2 y Q)
 (hxy:TwoS vx1 vx2 vy1 vy2) (hB:B<=w.heap.size) (hC:C<=w.heap.size) (hl:LInv s) (n1:Nice s a b x) (n2:Nice s b c y) (hc:c<=s.sets.length) (h1000:s.sets.length<=1000):
 Calls Tryd.prog 76 #[.pointer (some ⟨gl,0,none⟩),.agg #[vx1,vx2,.bool x.empty],.agg #[vy1,vy2,.bool y.empty]] w
  (zc0 w B gl C (zcb s x y) (zb8 x y) Q (fun b=>Q b∨vx1.ownBlock=some b∨vx2.ownBlock=some b)):=by
 obtain⟨A1,m1,c1,rfl⟩:=hx.first.form3
 obtain⟨A3,m3,c3,rfl⟩:=hy.first.form3
 obtain⟨A4',m4',c4',rfl⟩:=hy.last.form3;have hbc:b<=c:=(by obtain⟨R,g⟩:=n2;exact g.le);have l1:=n1.len;have l2:=n2.len;have hxl:∀ p∈x.last,p<s.follow.length:=fun p hp=>by
  obtain⟨R,g1⟩:=n1;obtain⟨R2,g2⟩:=n2;rw[hl.len];have:=(g1.last p hp).2;have:=g2.le;omega
 have hbd:∀ (k:Nat) q,q∈x.last->((zaw s.follow (x.last.take k) y.first).getD q []).length<=2000:=by
  intro k q hq;obtain⟨R,g1⟩:=n1;have hb:=g1.last q hq;have hr:=zfr _ a b (g1.st q hb.1 hb.2) fun p hp=>g1.stay q p hb.1 hb.2 hp
  have hnd:x.last.Nodup:=g1.sl.imp fun h=>Nat.ne_of_lt h
  rw[zgd _ _ _ (fun p hp=>hxl p (List.mem_of_mem_take hp)) (hnd.sublist (List.take_sublist _ _))];split
  .rw[yfd];omega
  .omega
 have bX:=((BoxS.new w (.slice A1 m1 c1) vx2 x.empty).alloc (.cells #[(.slice A3 m3 c3),(.slice A4' m4' c4'),.bool y.empty] 132)).alloc (.cells #[.slice none 0 0,.slice none 0 0,.bool false] 132);have bY:=(BoxS.new (w.alloc (.cells #[(.slice A1 m1 c1),vx2,.bool x.empty] 132)) (.slice A3 m3 c3) (.slice A4' m4' c4') y.empty).alloc (.cells #[.slice none 0 0,.slice none 0 0,.bool false] 132);have bR:=BoxS.new ((w.alloc (.cells #[(.slice A1 m1 c1),vx2,.bool x.empty] 132)).alloc (.cells #[(.slice A3 m3 c3),(.slice A4' m4' c4'),.bool y.empty] 132)) (.slice none 0 0) (.slice none 0 0) false;have hB0:Below w.heap.size w (((w.alloc (.cells #[(.slice A1 m1 c1),vx2,.bool x.empty] 132)).alloc (.cells #[(.slice A3 m3 c3),(.slice A4' m4' c4'),.bool y.empty] 132)).alloc (.cells #[.slice none 0 0,.slice none 0 0,.bool false] 132)):=
  (((yf6 _ _).alloc (yez _) _).alloc yii _).alloc yil _
 simp only[yfe] at bY bR;obtain⟨A2,c2,e2,-,-⟩:=hx.last.news;rw[zaj] at e2;subst e2;have hsz:=hB0.size;obtain⟨L,hL⟩:∃ L,x.last.length=L:=⟨_,rfl⟩;rw[hL] at bX bY bR hB0 hx hxy hsz ⊢;obtain⟨ex,hex⟩:∃ e,x.empty=e:=⟨_,rfl⟩;obtain⟨ey,hey⟩:∃ e,y.empty=e:=⟨_,rfl⟩;rw[hex] at bX bY bR hB0 hsz ⊢;rw[hey] at bX bY bR hB0 hsz ⊢;have HLAY:=Zh (hlay.stays hB0);have HX:=Zh (hx.stays hB0);have HY:=Zh (hy.stays hB0);have HBX:=Zh bX;have HBY:=Zh bY;have HBR:=Zh bR;have HB0:=Zh hB0;have HSZ:=Zh (And.intro hB (And.intro hC hsz));have HE:=Zh (And.intro hex hey);have HL:=Zh hL;have HGE:=Zh hlay.ge;have HXY:=Zh hxy;have HXL:=Zh hxl;have HBD:=Zh hbd;have HLI:=Zh hl;have H12:=Zh (And.intro l1 l2);have HN:=Zh (And.intro n1 n2);have HC:=Zh hc;have HBC:=Zh hbc;have H1000:=Zh h1000;clear hlay hx hy bX bY bR hB0 hB hC hex hey hL hxy hxl hbd hl l1 l2 n1 n2 hc hbc h1000 hsz;go_enter Tryd.func76,Tryd.ntmps76;go_wp2;generalize hw3:(((w.alloc (.cells #[(.slice A1 m1 c1),.slice A2 L c2,.bool ex] 132)).alloc (.cells #[(.slice A3 m3 c3),(.slice A4' m4' c4'),.bool ey] 132)).alloc (.cells #[.slice none 0 0,.slice none 0 0,.bool false] 132))=w3 at *;clear hw3;go_loopg [13] L (fun m i wr=>∃ k:Nat,i = .int .i64 (k:Int)∧k<=L∧m=L-k∧∃ Qr,LayAt wr B gl ⟨s.sets,zaw s.follow (x.last.take k) y.first⟩ Qr∧(∀ b,Qr b->Q b∨w3.heap.size<=b)∧Kept Q w3 wr)
 case atStart=>exact⟨0,rfl,yf8 _,rfl,Q,by simpa [zaw] using HLAY.o,fun b h => .inl h,Kept.refl _ _⟩
 case round =>
  obtain⟨k,rfl,hk,hmk,Qr,hlr,hqr,hkr⟩:=hrel;have HMK:=Zh hmk;clear hmk
  by_cases hkl:k<L
  .have hkl':k<x.last.length:=(by rw[HL.o];exact hkl);have hxw:=HX.o.off hkr (Q':=Q) fun b h => .inl h
   have hyw:=HY.o.off hkr (Q':=Q) fun b h => .inl h
   obtain⟨g2,c2',e2,hC2,hg2,hcell⟩:=hxw.last.at k (by rw[zaj];exact hkl');rw[zaj,HL.o] at e2;simp only[Value.slice.injEq] at e2;obtain⟨rfl,-,rfl⟩:=e2;have hpl:=HXL.o _ (yfq hkl');have htk:=zoi s.follow x.last y.first k hkl'
   have hce:(ns x.last)[k]'(by rw[zaj];exact hkl')=((x.last[k]'hkl':Nat):Int):=(by simp[ns]);rw[hce] at hcell;obtain⟨p,hp⟩:∃ p,x.last[k]'hkl'=p:=⟨_,rfl⟩;have hbd:=HBD.o k _ (yfq hkl');rw[hp] at hpl htk hcell hbd;have hlr':p<(⟨s.sets,zaw s.follow (x.last.take k) y.first⟩:Lay).follow.length:=by show p<(zaw s.follow (x.last.take k) y.first).length;rw[zer];exact hpl
   obtain⟨gf,cf,vp,seen,close⟩:=hlr.open p hlr';have cgl:=seen.glc;rw[show (⟨s.sets,zaw s.follow (x.last.take k) y.first⟩:Lay).follow.length=s.follow.length from zer _ _ _] at cgl;have cgf:=seen.fc;have fgf:=seen.fz;have hQw:∀ b,w.heap.size<=b->¬ Q b:=fun b h h'=>by have:=(HGE.o b h').2;omega
   have byw:=HBY.o.off hkr (hQw _ yie);have cy1:=byw.cell.1;have p0:(0:Int)<=(p:Int):=yie;obtain⟨nF,hnF⟩:∃ n,s.follow.length=n:=⟨_,rfl⟩;rw[hnF] at hpl cgl;have p1:(p:Int)<(nF:Int):=yie;have k0:(0:Int)<=(k:Int):=yie;have k1:(k:Int)<(L:Int):=yie;have hL9:L<=1000:=(by have:=H12.o.1.2;have:=HL.o;have:=H1000.o;have:=HC.o;have:=HBC.o;omega);have hyl:=H12.o.2.1;have h1000:=H1000.o;have hc:=HC.o;have hBw:B<=wr.heap.size:=(by have:=HSZ.o;have:=hkr.size;omega);have hlist:Ints wr B vp (ns ((zaw s.follow (x.last.take k) y.first).getD p [])):=seen.list;have HLIST:=Zh hlist;have HYL:=Zh hyw.first
   have HS:=Zh seen;have HCL:=Zh close;have HTK:=Zh htk;have HLR:=Zh hlr;have HQR:=Zh hqr;have HKR:=Zh hkr;clear hlist hxw hyw hce htk hlr' seen close byw hlr hqr hkr hQw hp hnF;go_upto_region 4 with fail
   go_region_law (first
    | (refine zax rfl _ _ yik yik yik HLIST.o HYL.o (by rw[zaj,zaj];omega) hBw ?_;intro v4 w4 i4 g4 o4;obtain⟨A4,n4,c4,rfl⟩:=i4.form3;have cgl4:w4.cell? ⟨gl,1,none⟩=some (.slice (some ⟨gf,0,none⟩) nF cf):=(yfp (g4.block gl HS.o.gll (fun e=>HS.o.vgl e.symm))).trans cgl;have cgf4:w4.cell? ⟨gf,p,none⟩=some vp:=(yfp (g4.block gf HS.o.gfl (fun e=>HS.o.vgf e.symm))).trans cgf;have fgf4:w4.frozen? ⟨gf,p,none⟩=false:=(World.frozen?_of_block (g4.block gf HS.o.gfl (fun e=>HS.o.vgf e.symm))).trans fgf)
    | fail)
   all_goals
    go_wp2;go_roundg (L-(k+1))
    case measure=>have:=HMK.o;omega
    case rel =>
     have hg:wr.grownBy w4 vp.ownBlock:=⟨g4.os,g4.tape,g4.output,g4.size,g4.block⟩;have hclose:=HCL.o y.first w4 _ (by rw[zja];exact i4) hg o4
     have hnew:∀ b,Qr b∨(Value.slice A4 n4 c4).ownBlock=some b->Q b∨w3.heap.size<=b:=by
      rintro b (e|e)
      .exact HQR.o b e
      .rcases o4 with e2|e2
       .exact HQR.o b (HS.o.vQ b (e2.symm.trans e))
       .rw[e] at e2;injection e2 with e2
        have e3:b=wr.heap.size:=e2;have:=HKR.o.size;exact .inr yie
     refine⟨k+1,by go_num,by omega,rfl,_,?_,hnew,?_⟩
     .rw[HTK.o];exact hclose
     .exact (HKR.o.grown hg fun b e=>HQR.o b (HS.o.vQ b e)).setCell (HQR.o gf HS.o.gfQ) _
  .have hkL:k=L:=yie;subst hkL;have htl:x.last.take k=x.last:=(by rw[←HL.o];exact yfy);rw[htl] at hlr;have hxw:=HX.o.off hkr (Q':=Qr) hqr;have hyw:=HY.o.off hkr (Q':=Qr) hqr;have hQw:∀ b,w.heap.size<=b->¬ Q b:=fun b h h'=>by have:=(HGE.o b h').2;omega
   have bxw:=HBX.o.off hkr (hQw _ (yez _));have byw:=HBY.o.off hkr (hQw _ yie);have brw:=HBR.o.off hkr (hQw _ yie);obtain⟨cx0,cx1,cx2⟩:=bxw.cell;obtain⟨cy0,cy1,cy2⟩:=byw.cell;obtain⟨cr0,cr1,cr2⟩:=brw.cell;obtain⟨fr0,fr1,fr2⟩:=brw.frozen;have hlt:=brw.lt;have hl1:=H12.o.1;have hl2:=H12.o.2;have hcs:=HC.o;have hbc:=HBC.o;have h1000:=H1000.o;have hCw:C<=wr.heap.size:=(by have:=HSZ.o;have:=hkr.size;omega);have X1:=Zh (hxw.first);have X2:=Zh (hxw.last);have Y1:=Zh (hyw.first);have Y2:=Zh (hyw.last);have HXW:=Zh hxw;have HYW:=Zh hyw;have BXW:=Zh bxw;have BYW:=Zh byw;have BRW:=Zh brw;have HLR:=Zh hlr;have HQR:=Zh hqr;have HKR:=Zh hkr;have HQW:=Zh hQw;have HKL:=Zh htl;clear htl hkl hk hxw hyw bxw byw brw hlr hqr hkr hQw;have N1:∀ b,(Value.slice A1 m1 c1).ownBlock=some b->b≠w.heap.size+1+1∧b<wr.heap.size∧¬ Qr b:=fun b e=>by
    obtain⟨cur,hc⟩:=X1.o.kind e;exact⟨za1 hc BRW.o yij,(X1.o.in e).2,HXW.o.out1 b e⟩
   have N2:∀ b,(Value.slice A2 k c2).ownBlock=some b->b≠w.heap.size+1+1∧b<wr.heap.size∧¬ Qr b:=fun b e=>by
    obtain⟨cur,hc⟩:=X2.o.kind e;exact⟨za1 hc BRW.o yij,(X2.o.in e).2,HXW.o.out2 b e⟩
   have N4:∀ b,(Value.slice A4' m4' c4').ownBlock=some b->b≠w.heap.size+1+1∧b<wr.heap.size∧¬ Qr b:=fun b e=>by
    obtain⟨cur,hc⟩:=Y2.o.kind e;exact⟨za1 hc BRW.o yij,(Y2.o.in e).2,HYW.o.out2 b e⟩
   have Q6:∀ b,Qr b->b≠w.heap.size+1+1∧b<wr.heap.size:=fun b e=>⟨fun e2=>by
    rcases HQR.o b e with h|h
    .exact HQW.o b yie h
    .have:=HBR.o.lt;omega,(HLR.o.ge b e).2⟩
   have NN1:=Zh N1;have NN2:=Zh N2;have NN4:=Zh N4;have QQ6:=Zh Q6;have hsz3:=HSZ.o.2.2;clear N1 N2 N4 Q6;cases ex <;> cases ey
   .have hj:zb8 x y=⟨x.first,y.last,false⟩:=yje;have HJ:=Zh hj;clear hj;obtain⟨dx0,dx1,dx2⟩:=(BXW.o.alloc (.cells #[.slice A1 m1 c1,.slice A4' m4' c4',.bool false] 132)).cell;obtain⟨dy0,dy1,dy2⟩:=(BYW.o.alloc (.cells #[.slice A1 m1 c1,.slice A4' m4' c4',.bool false] 132)).cell;obtain⟨dr0,dr1,dr2⟩:=(BRW.o.alloc (.cells #[.slice A1 m1 c1,.slice A4' m4' c4',.bool false] 132)).cell;obtain⟨er0,er1,er2⟩:=(BRW.o.alloc (.cells #[.slice A1 m1 c1,.slice A4' m4' c4',.bool false] 132)).frozen;obtain⟨dn0,dn1,dn2⟩:=(BoxS.new wr (.slice A1 m1 c1) (.slice A4' m4' c4') false).cell;obtain⟨en0,en1,en2⟩:=(BoxS.new wr (.slice A1 m1 c1) (.slice A4' m4' c4') false).frozen;go_wp2;refine zc5 (x:=6) rfl rfl rfl ((BRW.o.put _ _ _).alloc _) ?_;rw[HJ.o];have K1:Kept (fun b=>b=w.heap.size+1+1) wr ((((wr.setCell ⟨w.heap.size+1+1,0,none⟩ (.slice A1 m1 c1)).setCell ⟨w.heap.size+1+1,1,none⟩ (.slice A4' m4' c4')).setCell ⟨w.heap.size+1+1,2,none⟩ (.bool false)).alloc (.cells #[.slice A1 m1 c1,.slice A4' m4' c4',.bool false] 132)):=(((((Kept.refl (fun b=>b=w.heap.size+1+1) wr).setCell (a:=⟨w.heap.size+1+1,0,none⟩) (.inl rfl) _).setCell (a:=⟨w.heap.size+1+1,1,none⟩) (.inl rfl) _).setCell (a:=⟨w.heap.size+1+1,2,none⟩) (.inl rfl) _).alloc _);have I1:=X1.o.off K1 fun b e=>(NN1.o b e).1
    have I2:=Y2.o.off K1 fun b e=>(NN4.o b e).1
    have O1:=NN1.o;have O2:=NN4.o;have AP:∀ b,(Value.slice A1 m1 c1).ownBlock=some b->(Value.slice A4' m4' c4').ownBlock≠some b:=HXY.o.a12;have LF:=HLR.o.off K1 (fun b h=>(QQ6.o b h).1);have KF:=((Kept.of_below (fun b=>Q b∨(Value.slice A1 m1 c1).ownBlock=some b∨(Value.slice A2 k c2).ownBlock=some b) HB0.o).trans HKR.o fun b h => .inl (.inl h)).trans K1 (fun b h => .inr (by have h':b=w.heap.size+1+1:=h;omega));exact⟨_,_,Qr,rfl,LF,⟨I1,I2,AP,fun b e=>(O1 b e).2.2,fun b e=>(O2 b e).2.2⟩,KF,fun b h=>(HQR.o b h).elim .inl fun h => .inr yie⟩
   .have hj:zb8 x y=⟨x.first,x.last++y.last,false⟩:=yje;have HJ:=Zh hj;clear hj;obtain⟨dx0,dx1,dx2⟩:=(BXW.o.alloc (.cells #[.slice A1 m1 c1,.slice A4' m4' c4',.bool false] 132)).cell;obtain⟨dy0,dy1,dy2⟩:=(BYW.o.alloc (.cells #[.slice A1 m1 c1,.slice A4' m4' c4',.bool false] 132)).cell;obtain⟨dr0,dr1,dr2⟩:=(BRW.o.alloc (.cells #[.slice A1 m1 c1,.slice A4' m4' c4',.bool false] 132)).cell;obtain⟨er0,er1,er2⟩:=(BRW.o.alloc (.cells #[.slice A1 m1 c1,.slice A4' m4' c4',.bool false] 132)).frozen;obtain⟨dn0,dn1,dn2⟩:=(BoxS.new wr (.slice A1 m1 c1) (.slice A4' m4' c4') false).cell;obtain⟨en0,en1,en2⟩:=(BoxS.new wr (.slice A1 m1 c1) (.slice A4' m4' c4') false).frozen;go_wp2_with (refine zbc rfl _ _ yik yik yik (X2.o.alloc (.cells #[.slice A1 m1 c1,.slice A4' m4' c4',.bool false] 132)) (Y2.o.alloc (.cells #[.slice A1 m1 c1,.slice A4' m4' c4',.bool false] 132)) (by rw[zaj,zaj];omega) yil ?_;intro v5 w5 i5 g5 o5;obtain⟨A5,n5,c5,rfl⟩:=i5.form3;obtain⟨fx0,fx1,fx2⟩:=((BXW.o.alloc (.cells #[.slice A1 m1 c1,.slice A4' m4' c4',.bool false] 132)).grownI (X2.o.alloc (.cells #[.slice A1 m1 c1,.slice A4' m4' c4',.bool false] 132)) g5).cell;obtain⟨fy0,fy1,fy2⟩:=((BYW.o.alloc (.cells #[.slice A1 m1 c1,.slice A4' m4' c4',.bool false] 132)).grownI (X2.o.alloc (.cells #[.slice A1 m1 c1,.slice A4' m4' c4',.bool false] 132)) g5).cell;obtain⟨fr0,fr1,fr2⟩:=((BRW.o.alloc (.cells #[.slice A1 m1 c1,.slice A4' m4' c4',.bool false] 132)).grownI (X2.o.alloc (.cells #[.slice A1 m1 c1,.slice A4' m4' c4',.bool false] 132)) g5).cell;obtain⟨hr0,hr1,hr2⟩:=((BRW.o.alloc (.cells #[.slice A1 m1 c1,.slice A4' m4' c4',.bool false] 132)).grownI (X2.o.alloc (.cells #[.slice A1 m1 c1,.slice A4' m4' c4',.bool false] 132)) g5).frozen;obtain⟨fn0,fn1,fn2⟩:=((BoxS.new wr (.slice A1 m1 c1) (.slice A4' m4' c4') false).grownI (X2.o.alloc (.cells #[.slice A1 m1 c1,.slice A4' m4' c4',.bool false] 132)) g5).cell;obtain⟨hn0,hn1,hn2⟩:=((BoxS.new wr (.slice A1 m1 c1) (.slice A4' m4' c4') false).grownI (X2.o.alloc (.cells #[.slice A1 m1 c1,.slice A4' m4' c4',.bool false] 132)) g5).frozen);refine zc5 (x:=6) rfl rfl rfl (((((BRW.o.alloc (.cells #[.slice A1 m1 c1,.slice A4' m4' c4',.bool false] 132)).grownI (X2.o.alloc (.cells #[.slice A1 m1 c1,.slice A4' m4' c4',.bool false] 132)) g5).far yj1 _).put _ _ _)) ?_;rw[HJ.o];have K1:Kept (fun b=>(Value.slice A2 k c2).ownBlock=some b∨b=w.heap.size+1+1) wr ((((w5.setCell ⟨wr.heap.size,1,none⟩ (.slice A5 n5 c5)).setCell ⟨w.heap.size+1+1,0,none⟩ (.slice A1 m1 c1)).setCell ⟨w.heap.size+1+1,1,none⟩ (.slice A5 n5 c5)).setCell ⟨w.heap.size+1+1,2,none⟩ (.bool false)):=(((((((Kept.refl _ wr).alloc (.cells #[.slice A1 m1 c1,.slice A4' m4' c4',.bool false] 132)).grown g5 fun b e => .inl (.inl e)).setCell (.inr (yez _)) _).setCell (.inl (.inr rfl)) _).setCell (.inl (.inr rfl)) _).setCell (.inl (.inr rfl)) _);have K3:Kept (fun b=>b=w.heap.size+1+1∨b=wr.heap.size) w5 ((((w5.setCell ⟨wr.heap.size,1,none⟩ (.slice A5 n5 c5)).setCell ⟨w.heap.size+1+1,0,none⟩ (.slice A1 m1 c1)).setCell ⟨w.heap.size+1+1,1,none⟩ (.slice A5 n5 c5)).setCell ⟨w.heap.size+1+1,2,none⟩ (.bool false)):=(((((Kept.refl _ w5).setCell (.inl (.inr rfl)) _).setCell (.inl (.inl rfl)) _).setCell (.inl (.inl rfl)) _).setCell (.inl (.inl rfl)) _);have B5:∀ b,(Value.slice A5 n5 c5).ownBlock=some b->(Value.slice A2 k c2).ownBlock=some b∨b=wr.heap.size+1:=fun b e=>by
     rcases o5 with h|h
     .exact .inl (h.symm.trans e)
     .rw[e] at h;injection h with h;exact .inr yit
    have I1:=X1.o.off K1 fun b e h=>h.elim (HXW.o.apart b e) (NN1.o b e).1
    have I2:=i5.off K3 fun b e h=>by
     rcases B5 b e with h2|h2
     .have:=NN2.o b h2;omega
     .omega
    have AP:∀ b,(Value.slice A1 m1 c1).ownBlock=some b->(Value.slice A5 n5 c5).ownBlock≠some b:=fun b e e2=>by
     rcases B5 b e2 with h2|h2
     .exact HXW.o.apart b e h2
     .have:=NN1.o b e;omega
    rw[←zja] at I2;have LF:=HLR.o.off K1 (fun b h h2=>by
     rcases h2 with e|e
     .exact (NN2.o b e).2.2 h
     .exact (QQ6.o b h).1 e)
    have KF:=((Kept.of_below (fun b=>Q b∨(Value.slice A1 m1 c1).ownBlock=some b∨(Value.slice A2 k c2).ownBlock=some b) HB0.o).trans HKR.o fun b h => .inl (.inl h)).trans K1 (fun b h2=>by
     rcases h2 with e|e
     .exact .inl (.inr (.inr e))
     .exact .inr yie)
    exact⟨_,_,Qr,rfl,LF,⟨I1,I2,AP,fun b e=>(NN1.o b e).2.2,fun b e h=>by
     rcases B5 b e with h2|h2
     .exact (NN2.o b h2).2.2 h
     .have:=QQ6.o b h;omega⟩,KF,fun b h=>(HQR.o b h).elim .inl fun h => .inr yie⟩
   .have hj:zb8 x y=⟨x.first++y.first,y.last,false⟩:=yje;have HJ:=Zh hj;clear hj;obtain⟨dx0,dx1,dx2⟩:=(BXW.o.alloc (.cells #[.slice A1 m1 c1,.slice A4' m4' c4',.bool false] 132)).cell;obtain⟨dy0,dy1,dy2⟩:=(BYW.o.alloc (.cells #[.slice A1 m1 c1,.slice A4' m4' c4',.bool false] 132)).cell;obtain⟨dr0,dr1,dr2⟩:=(BRW.o.alloc (.cells #[.slice A1 m1 c1,.slice A4' m4' c4',.bool false] 132)).cell;obtain⟨er0,er1,er2⟩:=(BRW.o.alloc (.cells #[.slice A1 m1 c1,.slice A4' m4' c4',.bool false] 132)).frozen;obtain⟨dn0,dn1,dn2⟩:=(BoxS.new wr (.slice A1 m1 c1) (.slice A4' m4' c4') false).cell;obtain⟨en0,en1,en2⟩:=(BoxS.new wr (.slice A1 m1 c1) (.slice A4' m4' c4') false).frozen;go_wp2_with (refine zbc rfl _ _ yik yik yik (X1.o.alloc (.cells #[.slice A1 m1 c1,.slice A4' m4' c4',.bool false] 132)) (Y1.o.alloc (.cells #[.slice A1 m1 c1,.slice A4' m4' c4',.bool false] 132)) (by rw[zaj,zaj];omega) yil ?_;intro v4 w4 i4 g4 o4;obtain⟨A4,n4,c4,rfl⟩:=i4.form3;obtain⟨fx0,fx1,fx2⟩:=((BXW.o.alloc (.cells #[.slice A1 m1 c1,.slice A4' m4' c4',.bool false] 132)).grownI (X1.o.alloc (.cells #[.slice A1 m1 c1,.slice A4' m4' c4',.bool false] 132)) g4).cell;obtain⟨fy0,fy1,fy2⟩:=((BYW.o.alloc (.cells #[.slice A1 m1 c1,.slice A4' m4' c4',.bool false] 132)).grownI (X1.o.alloc (.cells #[.slice A1 m1 c1,.slice A4' m4' c4',.bool false] 132)) g4).cell;obtain⟨fr0,fr1,fr2⟩:=((BRW.o.alloc (.cells #[.slice A1 m1 c1,.slice A4' m4' c4',.bool false] 132)).grownI (X1.o.alloc (.cells #[.slice A1 m1 c1,.slice A4' m4' c4',.bool false] 132)) g4).cell;obtain⟨hr0,hr1,hr2⟩:=((BRW.o.alloc (.cells #[.slice A1 m1 c1,.slice A4' m4' c4',.bool false] 132)).grownI (X1.o.alloc (.cells #[.slice A1 m1 c1,.slice A4' m4' c4',.bool false] 132)) g4).frozen;obtain⟨fn0,fn1,fn2⟩:=((BoxS.new wr (.slice A1 m1 c1) (.slice A4' m4' c4') false).grownI (X1.o.alloc (.cells #[.slice A1 m1 c1,.slice A4' m4' c4',.bool false] 132)) g4).cell;obtain⟨hn0,hn1,hn2⟩:=((BoxS.new wr (.slice A1 m1 c1) (.slice A4' m4' c4') false).grownI (X1.o.alloc (.cells #[.slice A1 m1 c1,.slice A4' m4' c4',.bool false] 132)) g4).frozen);refine zc5 (x:=6) rfl rfl rfl (((((BRW.o.alloc (.cells #[.slice A1 m1 c1,.slice A4' m4' c4',.bool false] 132)).grownI (X1.o.alloc (.cells #[.slice A1 m1 c1,.slice A4' m4' c4',.bool false] 132)) g4).far yj1 _).put _ _ _)) ?_;rw[HJ.o];have K1:Kept (fun b=>(Value.slice A1 m1 c1).ownBlock=some b∨b=w.heap.size+1+1) wr ((((w4.setCell ⟨wr.heap.size,0,none⟩ (.slice A4 n4 c4)).setCell ⟨w.heap.size+1+1,0,none⟩ (.slice A4 n4 c4)).setCell ⟨w.heap.size+1+1,1,none⟩ (.slice A4' m4' c4')).setCell ⟨w.heap.size+1+1,2,none⟩ (.bool false)):=(((((((Kept.refl _ wr).alloc (.cells #[.slice A1 m1 c1,.slice A4' m4' c4',.bool false] 132)).grown g4 fun b e => .inl (.inl e)).setCell (.inr (yez _)) _).setCell (.inl (.inr rfl)) _).setCell (.inl (.inr rfl)) _).setCell (.inl (.inr rfl)) _);have K3:Kept (fun b=>b=w.heap.size+1+1∨b=wr.heap.size) w4 ((((w4.setCell ⟨wr.heap.size,0,none⟩ (.slice A4 n4 c4)).setCell ⟨w.heap.size+1+1,0,none⟩ (.slice A4 n4 c4)).setCell ⟨w.heap.size+1+1,1,none⟩ (.slice A4' m4' c4')).setCell ⟨w.heap.size+1+1,2,none⟩ (.bool false)):=(((((Kept.refl _ w4).setCell (.inl (.inr rfl)) _).setCell (.inl (.inl rfl)) _).setCell (.inl (.inl rfl)) _).setCell (.inl (.inl rfl)) _);have B4:∀ b,(Value.slice A4 n4 c4).ownBlock=some b->(Value.slice A1 m1 c1).ownBlock=some b∨b=wr.heap.size+1:=fun b e=>by
     rcases o4 with h|h
     .exact .inl (h.symm.trans e)
     .rw[e] at h;injection h with h;exact .inr yit
    have I1:=i4.off K3 fun b e h=>by
     rcases B4 b e with h2|h2
     .have:=NN1.o b h2;omega
     .omega
    have I2:=Y2.o.off K1 fun b e h=>h.elim (fun h=>HXY.o.a12 b h e) (NN4.o b e).1
    have AP:∀ b,(Value.slice A4 n4 c4).ownBlock=some b->(Value.slice A4' m4' c4').ownBlock≠some b:=fun b e e2=>by
     rcases B4 b e with h2|h2
     .exact HXY.o.a12 b h2 e2
     .have:=NN4.o b e2;omega
    rw[←zja] at I1;have LF:=HLR.o.off K1 (fun b h h2=>by
     rcases h2 with e|e
     .exact (NN1.o b e).2.2 h
     .exact (QQ6.o b h).1 e)
    have KF:=((Kept.of_below (fun b=>Q b∨(Value.slice A1 m1 c1).ownBlock=some b∨(Value.slice A2 k c2).ownBlock=some b) HB0.o).trans HKR.o fun b h => .inl (.inl h)).trans K1 (fun b h2=>by
     rcases h2 with e|e
     .exact .inl (.inr (.inl e))
     .exact .inr yie)
    exact⟨_,_,Qr,rfl,LF,⟨I1,I2,AP,fun b e h=>by
     rcases B4 b e with h2|h2
     .exact (NN1.o b h2).2.2 h
     .have:=QQ6.o b h;omega,fun b e=>(NN4.o b e).2.2⟩,KF,fun b h=>(HQR.o b h).elim .inl fun h => .inr yie⟩
   .have hj:zb8 x y=⟨x.first++y.first,x.last++y.last,true⟩:=yje;have HJ:=Zh hj;clear hj;obtain⟨dx0,dx1,dx2⟩:=(BXW.o.alloc (.cells #[.slice A1 m1 c1,.slice A4' m4' c4',.bool true] 132)).cell;obtain⟨dy0,dy1,dy2⟩:=(BYW.o.alloc (.cells #[.slice A1 m1 c1,.slice A4' m4' c4',.bool true] 132)).cell;obtain⟨dr0,dr1,dr2⟩:=(BRW.o.alloc (.cells #[.slice A1 m1 c1,.slice A4' m4' c4',.bool true] 132)).cell;obtain⟨er0,er1,er2⟩:=(BRW.o.alloc (.cells #[.slice A1 m1 c1,.slice A4' m4' c4',.bool true] 132)).frozen;obtain⟨dn0,dn1,dn2⟩:=(BoxS.new wr (.slice A1 m1 c1) (.slice A4' m4' c4') true).cell;obtain⟨en0,en1,en2⟩:=(BoxS.new wr (.slice A1 m1 c1) (.slice A4' m4' c4') true).frozen;go_wp2_with (first
     | (refine zbc rfl _ _ yik yik yik (X1.o.alloc (.cells #[.slice A1 m1 c1,.slice A4' m4' c4',.bool true] 132)) (Y1.o.alloc (.cells #[.slice A1 m1 c1,.slice A4' m4' c4',.bool true] 132)) (by rw[zaj,zaj];omega) yil ?_;intro v4 w4 i4 g4 o4;obtain⟨A4,n4,c4,rfl⟩:=i4.form3;obtain⟨fx0,fx1,fx2⟩:=((BXW.o.alloc (.cells #[.slice A1 m1 c1,.slice A4' m4' c4',.bool true] 132)).grownI (X1.o.alloc (.cells #[.slice A1 m1 c1,.slice A4' m4' c4',.bool true] 132)) g4).cell;obtain⟨fy0,fy1,fy2⟩:=((BYW.o.alloc (.cells #[.slice A1 m1 c1,.slice A4' m4' c4',.bool true] 132)).grownI (X1.o.alloc (.cells #[.slice A1 m1 c1,.slice A4' m4' c4',.bool true] 132)) g4).cell;obtain⟨fr0,fr1,fr2⟩:=((BRW.o.alloc (.cells #[.slice A1 m1 c1,.slice A4' m4' c4',.bool true] 132)).grownI (X1.o.alloc (.cells #[.slice A1 m1 c1,.slice A4' m4' c4',.bool true] 132)) g4).cell;obtain⟨hr0,hr1,hr2⟩:=((BRW.o.alloc (.cells #[.slice A1 m1 c1,.slice A4' m4' c4',.bool true] 132)).grownI (X1.o.alloc (.cells #[.slice A1 m1 c1,.slice A4' m4' c4',.bool true] 132)) g4).frozen;obtain⟨fn0,fn1,fn2⟩:=((BoxS.new wr (.slice A1 m1 c1) (.slice A4' m4' c4') true).grownI (X1.o.alloc (.cells #[.slice A1 m1 c1,.slice A4' m4' c4',.bool true] 132)) g4).cell;obtain⟨hn0,hn1,hn2⟩:=((BoxS.new wr (.slice A1 m1 c1) (.slice A4' m4' c4') true).grownI (X1.o.alloc (.cells #[.slice A1 m1 c1,.slice A4' m4' c4',.bool true] 132)) g4).frozen;have g4':=((World.grownBy_alloc wr (.cells #[.slice A1 m1 c1,.slice A4' m4' c4',.bool true] 132) none).block);have SX2:=((X2.o.alloc (.cells #[.slice A1 m1 c1,.slice A4' m4' c4',.bool true] 132)).kept g4 (fun b e e2=>HXW.o.apart b e2 e));have SY2:=((Y2.o.alloc (.cells #[.slice A1 m1 c1,.slice A4' m4' c4',.bool true] 132)).kept g4 (fun b e e2=>HXY.o.a12 b e2 e));have hs4:=g4.size;rw[yfe] at hs4;have TX2:Ints (w4.setCell ⟨wr.heap.size,0,none⟩ (.slice A4 n4 c4)) C (.slice A2 k c2) (ns x.last):=SX2.block fun b e hb=>yf9 _ _ _ _ (by have:=X2.o.in e;show b≠wr.heap.size;omega);have TY2:Ints (w4.setCell ⟨wr.heap.size,0,none⟩ (.slice A4 n4 c4)) C (.slice A4' m4' c4') (ns y.last):=SY2.block fun b e hb=>yf9 _ _ _ _ (by have:=Y2.o.in e;show b≠wr.heap.size;omega))
     | (refine zbc rfl _ _ yik yik yik TX2 TY2 (by rw[zaj,zaj];omega) (by simp[World.setCell];omega) ?_;intro v5 w5 i5 g5 o5;obtain⟨A5,n5,c5,rfl⟩:=i5.form3;have T1:BoxS (w4.setCell ⟨wr.heap.size,0,none⟩ (.slice A4 n4 c4)) wr.heap.size (.slice A4 n4 c4) (.slice A4' m4' c4') true:=(((BoxS.new wr (.slice A1 m1 c1) (.slice A4' m4' c4') true).grownI (X1.o.alloc (.cells #[.slice A1 m1 c1,.slice A4' m4' c4',.bool true] 132)) g4).put0 (.slice A4 n4 c4));have T6:BoxS (w4.setCell ⟨wr.heap.size,0,none⟩ (.slice A4 n4 c4)) (w.heap.size+1+1) (.slice none 0 0) (.slice none 0 0) false:=((BRW.o.alloc (.cells #[.slice A1 m1 c1,.slice A4' m4' c4',.bool true] 132)).grownI (X1.o.alloc (.cells #[.slice A1 m1 c1,.slice A4' m4' c4',.bool true] 132)) g4).far yj1 _;obtain⟨kr0,kr1,kr2⟩:=(T6.grownI TX2 g5).cell;obtain⟨lr0,lr1,lr2⟩:=(T6.grownI TX2 g5).frozen;obtain⟨kn0,kn1,kn2⟩:=(T1.grownI TX2 g5).cell;obtain⟨ln0,ln1,ln2⟩:=(T1.grownI TX2 g5).frozen))
    refine zc5 (x:=6) rfl rfl rfl ((((T6.grownI TX2 g5).far yj1 _).put _ _ _)) ?_;rw[HJ.o];have K1:Kept (fun b=>(Value.slice A1 m1 c1).ownBlock=some b∨(Value.slice A2 k c2).ownBlock=some b∨b=w.heap.size+1+1) wr ((((w5.setCell ⟨wr.heap.size,1,none⟩ (.slice A5 n5 c5)).setCell ⟨w.heap.size+1+1,0,none⟩ (.slice A4 n4 c4)).setCell ⟨w.heap.size+1+1,1,none⟩ (.slice A5 n5 c5)).setCell ⟨w.heap.size+1+1,2,none⟩ (.bool true)):=(((((((((Kept.refl _ wr).alloc (.cells #[.slice A1 m1 c1,.slice A4' m4' c4',.bool true] 132)).grown g4 fun b e => .inl (.inl e)).setCell (.inr (yez _)) _).grown g5 fun b e => .inl (.inr (.inl e))).setCell (.inr (yez _)) _).setCell (.inl (.inr (.inr rfl))) _).setCell (.inl (.inr (.inr rfl))) _).setCell (.inl (.inr (.inr rfl))) _);have K3:Kept (fun b=>b=w.heap.size+1+1∨b=wr.heap.size) w5 ((((w5.setCell ⟨wr.heap.size,1,none⟩ (.slice A5 n5 c5)).setCell ⟨w.heap.size+1+1,0,none⟩ (.slice A4 n4 c4)).setCell ⟨w.heap.size+1+1,1,none⟩ (.slice A5 n5 c5)).setCell ⟨w.heap.size+1+1,2,none⟩ (.bool true)):=(((((Kept.refl _ w5).setCell (.inl (.inr rfl)) _).setCell (.inl (.inl rfl)) _).setCell (.inl (.inl rfl)) _).setCell (.inl (.inl rfl)) _);have K4:Kept (fun b=>(Value.slice A2 k c2).ownBlock=some b∨b=w.heap.size+1+1∨b=wr.heap.size) w4 ((((w5.setCell ⟨wr.heap.size,1,none⟩ (.slice A5 n5 c5)).setCell ⟨w.heap.size+1+1,0,none⟩ (.slice A4 n4 c4)).setCell ⟨w.heap.size+1+1,1,none⟩ (.slice A5 n5 c5)).setCell ⟨w.heap.size+1+1,2,none⟩ (.bool true)):=((((((((Kept.refl _ w4).setCell (.inl (.inr (.inr rfl))) _).grown g5 fun b e => .inl (.inl e)).setCell (.inl (.inr (.inr rfl))) _).setCell (.inl (.inr (.inl rfl))) _).setCell (.inl (.inr (.inl rfl))) _).setCell (.inl (.inr (.inl rfl))) _));have B4:∀ b,(Value.slice A4 n4 c4).ownBlock=some b->(Value.slice A1 m1 c1).ownBlock=some b∨b=wr.heap.size+1:=fun b e=>by
     rcases o4 with h|h
     .exact .inl (h.symm.trans e)
     .rw[e] at h;injection h with h;exact .inr yit
    have B5:∀ b,(Value.slice A5 n5 c5).ownBlock=some b->(Value.slice A2 k c2).ownBlock=some b∨b=w4.heap.size:=fun b e=>by
     rcases o5 with h|h
     .exact .inl (h.symm.trans e)
     .rw[e] at h;injection h with h;exact .inr (by simpa [World.setCell] using h)
    have I1:=i4.off K4 fun b e h=>by
     rcases B4 b e with h2|h2
     .rcases h with h|h
      .exact HXW.o.apart b h2 h
      .have:=NN1.o b h2;omega
     .rcases h with h|h
      .have:=NN2.o b h;omega
      .omega
    have I2:=i5.off K3 fun b e h=>by
     rcases B5 b e with h2|h2
     .have:=NN2.o b h2;omega
     .omega
    have AP:∀ b,(Value.slice A4 n4 c4).ownBlock=some b->(Value.slice A5 n5 c5).ownBlock≠some b:=fun b e e2=>by
     have hb4:=(i4.in e).2;rcases B5 b e2 with h3|h3
     .rcases B4 b e with h2|h2
      .exact HXW.o.apart b h2 h3
      .have:=NN2.o b h3;omega
     .omega
    rw[←zja] at I1 I2;have LF:=HLR.o.off K1 (fun b h h2=>by
     rcases h2 with e|e|e
     .exact (NN1.o b e).2.2 h
     .exact (NN2.o b e).2.2 h
     .exact (QQ6.o b h).1 e)
    have KF:=((Kept.of_below (fun b=>Q b∨(Value.slice A1 m1 c1).ownBlock=some b∨(Value.slice A2 k c2).ownBlock=some b) HB0.o).trans HKR.o fun b h => .inl (.inl h)).trans K1 (fun b h2=>by
     rcases h2 with e|e|e
     .exact .inl (.inr (.inl e))
     .exact .inl (.inr (.inr e))
     .exact .inr yie)
    exact⟨_,_,Qr,rfl,LF,⟨I1,I2,AP,fun b e h=>by
     rcases B4 b e with h2|h2
     .exact (NN1.o b h2).2.2 h
     .have:=QQ6.o b h;omega,fun b e h=>by
     rcases B5 b e with h2|h2
     .exact (NN2.o b h2).2.2 h
     .have:=QQ6.o b h;omega⟩,KF,fun b h=>(HQR.o b h).elim .inl fun h => .inr yie⟩
end
section
theorem Tryd.infoSetN:(Tryd.prog.info? 53).map (fun i=>(i.zero,i.size,i.bytes))=some (some (.agg #[.int .u64 0,.int .u64 0,.int .u64 0,.int .u64 0]),4,32):=by kernel_rfl
theorem Tryd.infoList:(Tryd.prog.info? 68).map (fun i=>(i.zero,i.size,i.bytes))=some (some (.slice none 0 0),1,24):=by kernel_rfl
section
variable {P:Program} (w:World)
theorem znt {ops:Array Oper} {o:Oper} {a:Act} {K:Act->World->Prop} {Q:Exit->Act->World->Prop} {E:Prop} (hgd:o.guard=none) (s x:Operand) (t:TypeId)
 (ho:o.op = .call {callee := .builtin .append,args:=#[s,x],argTypes:=#[t,t]})
 (base:Nat) (e:TypeId) (i:TypeInfo) (z:Value) (size bytes:Nat) (ht:P.underlying t=some (.slice e)) (hi:P.info? e=some i) (hz:i.zero=some z)
 (hsize:i.size=size) (hby:i.bytes=bytes) (hzs:z.cells.size=size) (hsz:0<size)
 (v:Value) (n:Nat) (xs:List Value) (hs:a.eval s=v) (hown:w.ownsRow base e size v n xs)
 (ad:Addr) (m c:Nat) (news:List Value) (hx:a.eval x = .slice (some ad) m c) (hl:news.length=m*size) (hnews:∀ j u,news[j]?=some u->w.cell? (ad.add j)=some u) (h1:∀ u∈news,u.oneCell'=true)
 (h63:n+m<=maxLen) (hbytes:(n+m)*bytes<=140737488355328) (hbase:base<=w.heap.size)
 (h:∀ v' w',w'.ownsRow base e size v' (n+m) (xs++news)->w.grownBy w' v.ownBlock->(v'.ownBlock=v.ownBlock∨v'.ownBlock=some w.heap.size)->K (a.put o.dst v') w'):
 if Region.wanted o (yielded ops a.tmps)=true then Oper.wp P o a w K Q else E:=by
 have hw:Region.wanted o (yielded ops a.tmps)=true:=(by simp[Region.wanted,hgd]);rw[if_pos hw];obtain⟨v',w',hr,h2,h3,_,h5⟩:=run_append_own_at (P:=P) w base t o.type e i z size bytes ht hi hz hsize hby hzs hsz v n xs hown ad m c news hl hnews h1 h63 hbytes hbase;unfold Oper.wp execOp;simp only[ho,resolve,invoke,builtin,Sem.run_bind,Sem.run_pure,Result.andThen_ok,ygz,ygo,yh0,hs,hx,hr];exact h v' w' h2 h3 h5
end
theorem zaa {w:World} {B e size n:Nat} {v:Value} {xs:List Value} (h:w.ownsRow B e size v n xs):∃ A c,v = .slice A n c:=by
 rcases h.2 with ⟨rfl,h0⟩|⟨g,cap,cur,rfl,_⟩
 .exact⟨none,0,by rw[h0]⟩
 .exact⟨_,_,rfl⟩
theorem zd4 {w:World} {g:Nat} {e:TypeId} {cs:Array Value} (h:HasO w g (.cells cs e (0,0))):∀ j u,cs.toList[j]?=some u->w.cell? ((⟨g,0,none⟩:Addr).add j)=some u:=by
 intro j u hu;rw[Addr.add_lit,yg5,cell_of_row w g j _ e (0,0) h]
 simpa using hu
theorem ybh (q:Nat->Bool):∀ u∈(#[.int .u64 (word q 0),.int .u64 (word q 1),.int .u64 (word q 2),.int .u64 (word q 3)]:Array Value).toList,u.oneCell'=true:=by
 intro u hu;simp at hu;rcases hu with rfl|rfl|rfl|rfl <;> rfl
theorem ybi:∀ u∈(#[.slice none 0 0]:Array Value).toList,u.oneCell'=true:=by
 intro u hu;simp at hu;rcases hu with rfl <;> rfl
theorem zi1 {w w':World} {g:Nat} {o:Obj} {row:Option Nat} (hg:w.grownBy w' row) (h:HasO w g o) (hne:some g=row->False):HasO w' g o:=zbp hg h hne
theorem zht {w w':World} {B e size n:Nat} {v:Value} {xs:List Value} {row:Option Nat} (hg:w.grownBy w' row) (h:w.ownsRow B e size v n xs) (hne:∀ b,v.ownBlock=some b->some b=row->False):w'.ownsRow B e size v n xs:=za8 h fun b e hb=>hg.block b hb (hne b e)
theorem zh5 {w:World} {C a n:Nat} (h:HasO w a (.cells #[.int .i64 (n:Int)] 3 (0,0))) (hC:C<=a):Ints w C (.slice (some ⟨a,0,none⟩) 1 1) (ns [n]):=
 ⟨rfl,.inr ⟨a,1,_,rfl,hC,h,yez _,by decide,rfl,rfl⟩⟩
theorem FolAt.push {w:World} {B:Nat} {fs:List Value} {ls:List (List Nat)} {Q:Nat->Prop} (h:FolAt w B fs ls Q):FolAt w B (fs++[.slice none 0 0]) (ls++[[]]) Q:=by
 have hget:∀ (i:Nat) v,(fs++[.slice none 0 0])[i]?=some v->fs[i]?=some v∨(i=fs.length∧v = .slice none 0 0):=fun i v hv=>by
  rcases ygs i fs.length with hi|hi
  .rw[yfb hi] at hv;exact .inl hv
  .rw[yfc hi] at hv;rcases yhu (i-fs.length) with e|e
   .rw[e] at hv;simp at hv;exact .inr ⟨by omega,hv.symm⟩
   .rw[yfj yil] at hv;cases hv
 refine⟨by simp[h.len],fun i v l h1 h2=>?_,fun i v b h1 h2=>?_,fun i j v v' b h1 h2 h3 h4=>?_⟩
 .rcases hget i v h1 with h1|⟨rfl,rfl⟩
  .have hi:i<ls.length:=by
    rw[←h.len];rcases ygs i fs.length with hi|hi
    .exact hi
    .rw[yfj hi] at h1;cases h1
   rw[yfb hi] at h2;exact h.get i v l h1 h2
  .rw[yfc (by rw[h.len];exact yez _),h.len,ygf] at h2;simp at h2;subst h2;exact Ints.nil _ _
 .rcases hget i v h1 with h1|⟨rfl,rfl⟩
  .exact h.inQ i v b h1 h2
  .cases h2
 .rcases hget i v h1 with h1|⟨_,rfl⟩
  .rcases hget j v' h2 with h2|⟨_,rfl⟩
   .exact h.apart i j v v' b h1 h2 h3 h4
   .cases h4
  .cases h3
def NoB:Nat->Prop:=fun _=>False
theorem HasO.of_kept {w w':World} {b:Nat} {o:Obj} {Q:Nat->Prop} (h:HasO w b o) (hk:Kept Q w w') (hq:¬ Q b):HasO w' b o:=(hk.block b (za0 h) hq).trans h
theorem zd3 {w w':World} {B e size n:Nat} {v:Value} {xs:List Value} (h:w.ownsRow B e size v n xs) (hk:Kept NoB w w'):w'.ownsRow B e size v n xs:=za8 h fun b _ hb=>hk.block b hb fun h=>h
end
section
attribute [local go_sem ↓] Go.wp_at_zero Go.wp_at_succ
theorem ybm {w:World} {C D g n:Nat} {F:Nat->Bool} {v:Value} {ps:List Nat} (h:Bools w C g n F) (hv:Ints w D v (ns ps)) (hlt:∀ p∈ps,p<n) (hl:ps.length<=100000) (hn:n<=100000):
 Calls Tryd.prog 46 #[.slice (some ⟨g,0,none⟩) n n,v] w fun e w'=>e = .returned (.tuple #[])∧Bools w' C g n (fun j=>F j||ps.contains j)∧Kept (fun b=>b=g) w w':=by
 obtain⟨A,c,e1,-,-⟩:=hv.news;rw[zaj] at e1;subst e1;obtain⟨L,hL⟩:∃ L,ps.length=L:=⟨_,rfl⟩;rw[hL] at hv hl ⊢;have HH:=Zh h;have HV:=Zh hv;have HL:=Zh hL;have HLT:=Zh hlt;clear h hv hL hlt;go_enter Tryd.func46,Tryd.ntmps46;go_wp2;go_loopg [8] L (fun m i wr=>∃ k:Nat,i = .int .i64 (k:Int)∧k<=L∧m=L-k∧Bools wr C g n (fun j=>F j||(ps.take k).contains j)∧Kept (fun b=>b=g) w wr)
 case atStart=>exact⟨0,rfl,yf8 _,rfl,HH.o.congr fun j _=>by simp,Kept.refl _ _⟩
 case round =>
  obtain⟨k,rfl,hk,hmk,hb,hkr⟩:=hrel;have HMK:=Zh hmk;clear hmk
  by_cases hkl:k<L
  .have hkl':k<ps.length:=(by rw[HL.o];exact hkl);have hvg:∀ b,(Value.slice A L c).ownBlock=some b->¬ b=g:=fun b e=>by
    obtain⟨cur,hc⟩:=HV.o.kind e;obtain⟨cur',hc'⟩:=HH.o.kind;exact za1 hc hc' yij
   have hvw:=HV.o.off hkr hvg;obtain⟨g2,c2',e2,hC2,hg2,hcell⟩:=hvw.at k (by rw[zaj];exact hkl');rw[zaj,HL.o] at e2;simp only[Value.slice.injEq] at e2;obtain⟨rfl,-,rfl⟩:=e2;have hpn:=HLT.o _ (yfq hkl');have hce:(ns ps)[k]'(by rw[zaj];exact hkl')=((ps[k]'hkl':Nat):Int):=(by simp[ns]);rw[hce] at hcell;have htk:=yfg hkl';obtain⟨p,hp⟩:∃ p,ps[k]'hkl'=p:=⟨_,rfl⟩;rw[hp] at hpn htk hcell;have hcb:=hb.cell p hpn;have hfb:=hb.frozen p;have p0:(0:Int)<=(p:Int):=yie;have p1:(p:Int)<(n:Int):=yie;have k0:(0:Int)<=(k:Int):=yie;have k1:(k:Int)<(L:Int):=yie;have HB:=Zh hb;have HKR:=Zh hkr;have HTK:=Zh htk;have HPN:=Zh hpn;clear hvg hvw hce htk hp hb hkr;go_wp2;go_roundg (L-(k+1))
   case measure=>have:=HMK.o;omega
   case rel =>
    refine⟨k+1,by go_num,by omega,rfl,(HB.o.set p HPN.o true).congr fun j hj=>?_,HKR.o.setCell (.inl rfl) _⟩;rw[HTK.o]
    by_cases e:j=p <;> simp[e]
  .have hkL:k=ps.length:=yj2;rw[hkL,yfy] at hb;go_wp2;exact⟨rfl,.tuple #[],by simp[results,Tryd.results46],rfl,hb,hkr⟩
end
structure zfl (s:Lay) (x:Str):Prop where
 sets:s.sets.length<=256
 firstN:x.first.length<=256
 first:∀ p∈x.first,p<s.sets.length
 fol:∀ q p,p∈s.follow.getD q []->p<s.sets.length
 folN:∀ q,(s.follow.getD q []).length<=100000
theorem zwd {t:T} (hwf:WF t) (h256:plR t<=256):zfl (lay0 t).1 (lay0 t).2:=by
 have hsz:(lay0 t).1.sets.length=plR t:=(by have:=zd5 hwf ⟨[],[]⟩;simpa [lay0] using this);obtain⟨hl,hg⟩:=zfc (xs:=[]) hwf;have hfo:∀ q p,p∈(lay0 t).1.follow.getD q []->p<(lay0 t).1.sets.length:=hl.lt;refine⟨by omega,?_,fun p hp=>(hg.first p hp).2,hfo,fun q=>?_⟩
 .have:=zfr _ 0 _ hg.sf hg.first
  omega
 .by_cases hq:q<(lay0 t).1.sets.length
  .have:=zfr _ 0 (lay0 t).1.sets.length (hg.st q (yf8 _) hq) fun p hp=>⟨yf8 _,hfo q p hp⟩
   omega
  .rw[yf0,yfj (by rw[hl.len];omega)];simp
theorem zks {s:Lay} {x:Str} {base:Nat} {b:Bool} {p:Plc}:∀ k,p∈zby s x base b k->∃ j,j<k∧p=zma s x base b j
 | 0,h=>by simp[zby] at h
 | k+1,h=>by
  rw[zby,yfm,yfn] at h;rcases h with h|h
  .obtain⟨j,hj,e⟩:=zks k h;exact⟨j,by omega,e⟩
  .exact⟨k,by omega,h⟩
theorem zkt {s:Lay} {x:Str} {base:Nat} {b:Bool}:∀ (k j:Nat),j<k->(zby s x base b k)[j]?=some (zma s x base b j)
 | 0,j,h=>by omega
 | k+1,j,h=>by
  rw[zby]
  by_cases hj:j<k
  .rw[yfb (by rw[zb7];exact hj)];exact zkt k j hj
  .have:j=k:=by omega
   subst this;rw[yfc (by rw[zb7];exact yez _),zb7,ygf];rfl
theorem zq6 {L:List (Lay×Str)} (hL:∀ s x,(s,x)∈L->zfl s x) {k:Nat} (hk:k<L.length):zfl (L.getD k lx0).1 (L.getD k lx0).2:=by
 have hm:L.getD k lx0∈L:=(by rw[yf0,yey hk];exact yfq _);exact hL _ _ hm
theorem zqp {L:List (Lay×Str)} {bs:List Bool} (hL:∀ s x,(s,x)∈L->zfl s x):∀ k,k<=L.length->∀ p∈togP L bs k,(∀ q∈p.fol,p.base+q<(togP L bs k).length)∧p.fol.length<=100000∧p.base<=k*256
 | 0,_=>fun p h=>by simp[togP] at h
 | k+1,hk=>fun p h=>by
  have hlen:=zij L bs 256 (fun s x h=>(hL s x h).sets) k yie;have ho:=zq6 hL (k:=k) yie;rw[togP,yfm] at h;rw[togP,yfd,zb7];have hm:k*256<=(k+1)*256:=yg4 _ (Nat.le_succ _);rcases h with h|h
  .obtain⟨h1,h2,h3⟩:=zqp hL k yie p h;exact⟨fun q hq=>yff (h1 q hq) (Nat.le_add_right _ _),h2,yfa h3 hm⟩
  .obtain⟨j,hj,rfl⟩:=zks _ h;refine⟨fun q hq=>?_,ho.folN j,?_⟩
   .have h4:=ho.fol j q hq;exact Nat.add_lt_add_left h4 _
   .exact yfa hlen hm
theorem zlx {L:List (Lay×Str)} {bs:List Bool} (hL:∀ s x,(s,x)∈L->zfl s x):∀ k,k<=L.length->∀ p∈togF L bs k,p<(togP L bs k).length
 | 0,_=>fun p h=>by simp[togF] at h
 | k+1,hk=>fun p h=>by
  have ho:=zq6 hL (k:=k) yie;rw[togF,yfm,yg6] at h;rw[togP,yfd,zb7];rcases h with h|⟨q,hq,rfl⟩
  .have:=zlx hL k yie p h;omega
  .have:=ho.first q hq
   omega
theorem zno {L:List (Lay×Str)} {bs:List Bool} {lam:Nat} (hL:∀ s x,(s,x)∈L->zfl s x) (hn:L.length<=64) (hlam:1<=lam∧lam<=32):zn9 ⟨togP L bs L.length,togF L bs L.length,lam⟩:=by
 have hP:=zij L bs 256 (fun s x h=>(hL s x h).sets) L.length (yez _);have hF:=zly L bs 256 (fun s x h=>(hL s x h).firstN) L.length (yez _);have hm:L.length*256<=64*256:=yg4 _ hn;refine⟨hlam,by show (togP L bs L.length).length<=_;omega,zlx hL L.length (yez _),by show (togF L bs L.length).length<=_;omega,fun i p hp=>?_⟩;obtain⟨h1,h2,h3⟩:=zqp hL L.length (yez _) p (yfh hp);exact⟨h1,h2,by omega⟩
structure Wd where
 rule:Nat
 place:Nat
 age:Nat
theorem Wd.ext' {x y:Wd} (h1:x.rule=y.rule) (h2:x.place=y.place) (h3:x.age=y.age):x=y:=by
 cases x;cases y;simp at h1 h2 h3;simp[h1,h2,h3]
instance:DecidableEq Wd:=fun x y=>if h:x.rule=y.rule∧x.place=y.place∧x.age=y.age then .isTrue (Wd.ext' h.1 h.2.1 h.2.2) else .isFalse fun e=>h (by rw[e];exact⟨rfl,rfl,rfl⟩)
def sameW (s t:List Wd):Bool:=decide (s.length=t.length∧∀ x∈s,x∈t)
def RdTr (w:World) (A:Option Addr) (L:List Bool):Prop:=∀ (i:Nat) x,L[i]?=some x->∃ b off,A=some ⟨b,off,none⟩∧b<w.heap.size∧w.cell? ⟨b,off+i,none⟩=some (.bool x)
def okWd (L:List (Lay×Str)) (bs:List Bool) (x:Wd):Prop:=∃ s t b,L[x.rule]?=some (s,t)∧bs[x.rule]?=some b∧x.place<s.sets.length∧x.age<=63
def zgn (L:List (Lay×Str)) (bs:List Bool) (x:Wd) (o:Nat×Nat):Nat×Nat:=match L[x.rule]?,bs[x.rule]? with
 | some (_,t),some b=>if t.last.contains x.place=true then (if b=true then (o.1,o.2 ||| 2 ^ x.age) else (o.1 ||| 2 ^ x.age,o.2)) else o
 | _,_=>o
def zj0 (L:List (Lay×Str)) (bs:List Bool):List Wd->Nat×Nat->Nat×Nat
 | [],o=>o
 | x::l,o=>zj0 L bs l (zgn L bs x o)
def zs1 (r:Nat) (s:Lay) (b:Nat) (l:List Nat):List Wd:=(l.filter fun p=>s.sets.getD p za9 b).map fun p=>⟨r,p,1⟩
def fstN (L:List (Lay×Str)) (b:Nat):Nat->List Wd
 | 0=>[]
 | k+1=>fstN L b k++(match L[k]? with | some (s,x)=>zs1 k s b x.first | none=>[])
def zwx (s:Lay) (b:Nat) (x:Wd) (q:Nat) (o:List Wd):List Wd:=if s.sets.getD q za9 b=true∧¬ (⟨x.rule,q,x.age+1⟩:Wd)∈o then o++[⟨x.rule,q,x.age+1⟩] else o
def zjt (s:Lay) (b:Nat) (x:Wd):List Nat->List Wd->List Wd
 | [],o=>o
 | q::l,o=>zjt s b x l (zwx s b x q o)
def zm3 (L:List (Lay×Str)) (lam b:Nat) (x:Wd) (o:List Wd):List Wd:=match L[x.rule]? with
 | some (s,_)=>if x.age<lam then zjt s b x (s.follow.getD x.place []) o else o
 | none=>o
def zpk (L:List (Lay×Str)) (lam b:Nat):List Wd->List Wd->List Wd
 | [],o=>o
 | x::st,o=>zpk L lam b st (zm3 L lam b x o)
def OkRef (L:List (Lay×Str)):Prop:=∀ (i:Nat) s x,L[i]?=some (s,x)->(∀ p∈x.first,p<s.sets.length)∧x.first.length<=100000∧∀ p,p<s.sets.length->(∀ q∈s.follow.getD p [],q<s.sets.length)∧(s.follow.getD p []).length<=100000
def OkSt (L:List (Lay×Str)) (st:List Wd):Prop:=∀ x∈st,∃ s t,L[x.rule]?=some (s,t)∧x.place<s.sets.length∧x.age<=63
section
theorem Tryd.infoRowP:(Tryd.prog.info? 68).map (fun i=>(i.zero,i.size,i.bytes))=some (some (.slice none 0 0),1,24):=by kernel_rfl
theorem Tryd.infoOutP:(Tryd.prog.info? 49).map (fun i=>(i.zero,i.size,i.bytes))=some (some (.agg #[.int .u64 0,.int .u64 0]),2,16):=by kernel_rfl
section
variable {W:World} {ops:Array Oper} {o:Oper} {a:Act} {K:Act->World->Prop} {Q:Exit->Act->World->Prop} {E:Prop}
theorem zqs (hgd:o.guard=none) (s x:Operand) (ho:o.op = .call {callee := .builtin .append,args:=#[s,x],argTypes:=#[35,35]}) {B n la c:Nat} {v u:Value} {vs:List Value}
 (hs:a.eval s=v) (hr:W.ownsRow B 68 1 v n vs) (hx:a.eval x = .slice (some ⟨la,0,none⟩) 1 c) (hc:HasO W la (.cells #[u] 68 (0,0))) (hu:u.oneCell'=true) (hn:n<=100000) (hB:B<=W.heap.size)
 (h:∀ v' W',W'.ownsRow B 68 1 v' (n+1) (vs++[u])->W.grownBy W' v.ownBlock->(v'.ownBlock=v.ownBlock∨v'.ownBlock=some W.heap.size)->K (a.put o.dst v') W'):if Region.wanted o (yielded ops a.tmps)=true then Oper.wp Tryd.prog o a W K Q else E:=by
 obtain⟨i0,hi,hz0,hz1,hz2⟩:=info_parts Tryd.infoRowP;exact znt W hgd s x 35 ho B 68 i0 _ 1 24 Tryd.underlying35 hi hz0 hz1 hz2 rfl yij v n vs hs hr ⟨la,0,none⟩ 1 c [u] hx rfl (zd4 hc) (fun y hy=>by rw[yfn] at hy;subst hy;exact hu) yin yie hB h
theorem zqr (hgd:o.guard=none) (s x:Operand) (ho:o.op = .call {callee := .builtin .append,args:=#[s,x],argTypes:=#[36,36]}) {B n la c:Nat} {v:Value} {vs:List Value} {p q:Int}
 (hs:a.eval s=v) (hr:W.ownsRow B 49 2 v n vs) (hx:a.eval x = .slice (some ⟨la,0,none⟩) 1 c) (hc:HasO W la (.cells #[.int .u64 p,.int .u64 q] 49 (0,0))) (hn:n<=100000) (hB:B<=W.heap.size)
 (h:∀ v' W',W'.ownsRow B 49 2 v' (n+1) (vs++[.int .u64 p,.int .u64 q])->W.grownBy W' v.ownBlock->(v'.ownBlock=v.ownBlock∨v'.ownBlock=some W.heap.size)->K (a.put o.dst v') W'):if Region.wanted o (yielded ops a.tmps)=true then Oper.wp Tryd.prog o a W K Q else E:=by
 obtain⟨i0,hi,hz0,hz1,hz2⟩:=info_parts Tryd.infoOutP;exact znt W hgd s x 36 ho B 49 i0 _ 2 16 Tryd.underlying36 hi hz0 hz1 hz2 rfl yij v n vs hs hr ⟨la,0,none⟩ 1 c [.int .u64 p,.int .u64 q] hx rfl (zd4 hc) (fun y hy=>by
  simp at hy;rcases hy with rfl|rfl <;> rfl) yin yie hB h
end
theorem IS.push {w0 w W:World} {gm gs gx C:Nat} {K O:Nat->Prop} {F:Nat->Nat} {n:Int} {vN vO vr va v1 v2:Value} {rows:List (List Nat)} {outs:List (Nat×Nat)} {ss:List Sta} {l0 al:Sta} {xs:List Nat} {vs:List Value} {o:Nat×Nat}
 (h:IS w0 w gm gs K O F n vN vO vr rows outs ss l0 va al gx C xs) (n1:vs.length=rows.length) (n2:w.ownsRow w0.heap.size 68 1 vN rows.length vs) (n3:∀ (i:Nat) u r,vs[i]?=some u->rows[i]?=some r->Ints w w0.heap.size u (ns r)) (n4:∀ u∈vs,∀ b,u.ownBlock=some b->O b)
 (hk:Kept (fun b=>vN.ownBlock=some b∨vO.ownBlock=some b) w W)
 (r1:W.ownsRow w0.heap.size 68 1 v1 (rows.length+1) (vs++[.slice (some ⟨gx,0,none⟩) C C])) (o1:∀ b,v1.ownBlock=some b->vN.ownBlock=some b∨w.heap.size<=b)
 (r2:W.ownsRow w0.heap.size 49 2 v2 (outs.length+1) (outC outs++[.int .u64 (o.1:Int),.int .u64 (o.2:Int)])) (o2:∀ b,v2.ownBlock=some b->vO.ownBlock=some b∨w.heap.size<=b):
 ∃ O',BS w0 ((W.setCell ⟨gm,257,none⟩ v1).setCell ⟨gm,258,none⟩ v2) gm gs K O' F n v1 v2 vr (rows++[xs]) (outs++[o]) ss l0:=by
 have hs:=h.bs.keep.size;have hs2:=hk.size;have hg:=h.bs.gmlt;have hgx:=h.gxlt;have hOq:∀ b,(vN.ownBlock=some b∨vO.ownBlock=some b)->O b:=fun b e=>e.elim (h.bs.nxt.inO b) (h.bs.ots.inO b)
 have hgm:¬ (vN.ownBlock=some gm∨vO.ownBlock=some gm):=fun e=>by have:=(h.bs.olt gm (hOq gm e)).1;omega
 have hset:∀ b,b≠gm->((W.setCell ⟨gm,257,none⟩ v1).setCell ⟨gm,258,none⟩ v2).heap[b]?=W.heap[b]?:=fun b e=>(yf9 (W.setCell ⟨gm,257,none⟩ v1) ⟨gm,258,none⟩ v2 b e).trans (yf9 W ⟨gm,257,none⟩ v1 b e)
 have hsz:((W.setCell ⟨gm,257,none⟩ v1).setCell ⟨gm,258,none⟩ v2).heap.size=W.heap.size:=(by simp[World.setCell]);have hka:Kept (fun b=>b=gm) W ((W.setCell ⟨gm,257,none⟩ v1).setCell ⟨gm,258,none⟩ v2):=((Kept.refl (fun b=>b=gm) W).setCell (a:=⟨gm,257,none⟩) (.inl rfl) _).setCell (a:=⟨gm,258,none⟩) (.inl rfl) _;have hkW:Kept (fun b=>b=gm) w0 W:=h.bs.keep.trans hk fun b e => .inr (h.bs.olt b (hOq b e)).1
 have hb:=((h.bs.box.kept hk hgm).setNxt v1).setOut v2;have l1:∀ b,v1.ownBlock=some b->w0.heap.size<=b∧b<W.heap.size:=fun b e=>yf5 r1 b e
 have l2:∀ b,v2.ownBlock=some b->w0.heap.size<=b∧b<W.heap.size:=fun b e=>yf5 r2 b e
 have hKo:∀ b,K b->¬ (vN.ownBlock=some b∨vO.ownBlock=some b):=fun b k e=>h.bs.oK b (hOq b e) k
 have hin:∀ (b:Nat) (cur:Array Value),w.heap[b]?=some (.cells cur 3 (0,0))->¬ (vN.ownBlock=some b∨vO.ownBlock=some b):=fun b cur hb e=>by
  rcases e with e|e
  .obtain⟨cu,hc⟩:=za7 n2 e;exact za1 hb hc yij rfl
  .obtain⟨cu,hc⟩:=za7 h.bs.ots.row e;exact za1 hb hc yij rfl
 have hint:∀ u r,Ints w w0.heap.size u (ns r)->Ints ((W.setCell ⟨gm,257,none⟩ v1).setCell ⟨gm,258,none⟩ v2) w0.heap.size u (ns r):=fun u r hi=>za8 hi fun b e hb=>by
  obtain⟨cur,hc⟩:=za7 hi e;have hlt:=yf5 hi b e;rw[hset b yie];exact hk.block b hb (hin b cur hc)
 refine⟨fun b=>O b∨(w.heap.size<=b∧b<W.heap.size)∨b=gx,hkW.trans hka fun b e => .inl e,hg,hb,⟨⟨vs++[.slice (some ⟨gx,0,none⟩) C C],by simp[n1],?_,fun i u r e1 e2=>?_,fun u hu b e=>?_⟩,fun b e=>?_⟩,⟨?_,fun b e=>?_⟩,fun b e=>?_,?_,h.bs.kge,?_,h.bs.rK,fun b e=>?_,fun b e=>?_⟩
 .rw[yfd];exact za8 r1 fun b e _=>hset b (by have:=(l1 b e).1;omega)
 .by_cases hi:i<vs.length
  .rw[yfb hi] at e1;rw[yfb yie] at e2;exact hint u r (n3 i u r e1 e2)
  .have hi':i=vs.length:=by
    have:=(yf4.1 e1).1;simp at this;omega
   subst hi';rw[yfc (yez _),ygf] at e1;rw[n1,yfc (yez _),ygf] at e2;simp at e1 e2;subst e1 e2;exact hint _ _ h.row
 .rw[yfm,yfn] at hu;rcases hu with hu|rfl
  .exact .inl (n4 u hu b e)
  .have:gx=b:=by injection e
   exact .inr (.inr this.symm)
 .rcases o1 b e with e' | e'
  .exact .inl (h.bs.nxt.inO b e')
  .exact .inr (.inl ⟨e',(l1 b e).2⟩)
 .rw[yfd,zoa];exact za8 r2 fun b e _=>hset b (by have:=(l2 b e).1;omega)
 .rcases o2 b e with e' | e'
  .exact .inl (h.bs.ots.inO b e')
  .exact .inr (.inl ⟨e',(l2 b e).2⟩)
 .rw[hsz];rcases e with e|e|e
  .have:=h.bs.olt b e;omega
  .omega
  .omega
 .exact (h.bs.kn.off hk fun b e k=>hKo b k e).off hka fun b e k=>by have:=h.bs.kge b k;omega
 .refine za8 h.bs.room fun b e hb=>?_
  have hlt:=zgl h.bs.room b e;rw[hset b yie];exact hk.block b hb fun q=>h.bs.rO b e (hOq b q)
 .rintro (e' | e' | e')
  .exact h.bs.rO b e e'
  .have:=(zgl h.bs.room b e).2;omega
  .exact h.xR (e' ▸ e)
 .rcases e with e|e|e
  .exact h.bs.oK b e
  .exact fun k=>by have:=h.bs.kn.lt b k;omega
  .exact fun k=>h.xK (e▸k)
end
theorem NfaIn.wider {w:World} {B B' gm:Nat} {vs v1 vf:Value} {s:Lay} {x:Str} (h:NfaIn w B vs v1 gm vf s x) (hB:B<=B'):NfaIn w B' vs v1 gm vf s x where
 sets:=fun p hp=>by obtain⟨g,c,e,hg,hc⟩:=h.sets p hp;exact⟨g,c,e,by omega,hc⟩
 first:=h.first
 firstB:=fun b e=>by have:=h.firstB b e;omega
 last:=h.last
 lastB:=by have:=h.lastB;omega
 fols:=fun p hp=>by obtain⟨g,c,v,e,hg,hc,hi,hv⟩:=h.fols p hp;exact⟨g,c,v,e,by omega,hc,hi,fun b e=>by have:=hv b e;omega⟩
theorem RdNfas.stays {w w':World} {A:Option Addr} {L:List (Lay×Str)} (h:RdNfas w w.heap.size A L) (hb:Below w.heap.size w w'):RdNfas w' w'.heap.size A L:=fun i s x e=>by
 obtain⟨g,off,A1,m1,c1,A2,m2,c2,gm,A3,m3,c3,h1,h2,h3,h4,h5,h6,h7⟩:=(h.below hb) i s x e;exact⟨g,off,A1,m1,c1,A2,m2,c2,gm,A3,m3,c3,h1,yff h2 hb.size,h3,h4,h5,h6,h7.wider hb.size⟩
section
open Go
def ydg (k:T):Nat->T
 | 0 => .mk 2 za9 0 0 []
 | d+1 => .mk 5 za9 0 0 [.mk 2 za9 0 0 [k,ydg k d]]
mutual
def yci:T->T
 | .mk op p lo hi l=>if op=4 then .mk 2 za9 0 0 (List.replicate lo.toNat (zs5 l)++[ydg (zs5 l) (hi-lo).toNat]) else .mk op p 0 0 (ydz l)
def ydz:List T->List T
 | []=>[]
 | t::ts=>yci t::ydz ts
def zs5:List T->T
 | [] => .mk 0 za9 0 0 []
 | t::_=>yci t
end
mutual
def zow:T->Bool
 | .mk op p lo hi l=>if op=1∨op=5 then decide (op=5) else if op=2 then allE l else anyE l
def allE:List T->Bool
 | []=>true
 | t::ts=>zow t&&allE ts
def anyE:List T->Bool
 | []=>false
 | t::ts=>zow t||anyE ts
end
mutual
def plT:T->Nat
 | .mk op p lo hi l=>(if op=1 then 1 else 0)+plTL l
def plTL:List T->Nat
 | []=>0
 | t::ts=>plT t+plTL ts
end
mutual
def fstT:T->Nat->List Nat
 | .mk op p lo hi l=>fun at_=>if op=1 then [at_] else if op=2 then catF l at_ else altF l at_
def catF:List T->Nat->List Nat
 | []=>fun _=>[]
 | t::ts=>fun at_=>fstT t at_++(if zow t then catF ts (at_+plT t) else [])
def altF:List T->Nat->List Nat
 | []=>fun _=>[]
 | t::ts=>fun at_=>fstT t at_++altF ts (at_+plT t)
end
mutual
def lstT:T->Nat->List Nat
 | .mk op p lo hi l=>fun at_=>if op=1 then [at_] else if op=2 then catB l at_ else altB l at_
def catB:List T->Nat->List Nat
 | []=>fun _=>[]
 | t::ts=>fun at_=>catB ts (at_+plT t)++(if allE ts then lstT t at_ else [])
def altB:List T->Nat->List Nat
 | []=>fun _=>[]
 | t::ts=>fun at_=>altB ts (at_+plT t)++lstT t at_
end
mutual
def folT:T->Nat->Nat->Nat->Prop
 | .mk op p lo hi l=>fun at_ q r=>op≠1∧if op=2 then zxc l at_ q r else yaq l at_ q r
def zxc:List T->Nat->Nat->Nat->Prop
 | []=>fun _ _ _=>False
 | t::ts=>fun at_ q r=>folT t at_ q r∨zxc ts (at_+plT t) q r∨(q∈lstT t at_∧r∈catF ts (at_+plT t))
def yaq:List T->Nat->Nat->Nat->Prop
 | []=>fun _ _ _=>False
 | t::ts=>fun at_ q r=>folT t at_ q r∨yaq ts (at_+plT t) q r
end
mutual
def setT:T->List (Nat->Bool)
 | .mk op p lo hi l=>(if op=1 then [p] else [])++yb6 l
def yb6:List T->List (Nat->Bool)
 | []=>[]
 | t::ts=>setT t++yb6 ts
end
def Same (f:Lay->Lay×Str) (k:T):Prop:=∀ s,LInv s->
 (f s).1.sets=s.sets++setT k∧(f s).2.empty=zow k∧(∀ p,p∈(f s).2.first↔p∈fstT k s.sets.length)∧(∀ p,p∈(f s).2.last↔p∈lstT k s.sets.length)∧
  (∀ q r,fol (f s).1 q r↔fol s q r∨folT k s.sets.length q r)
structure CatSame (s s':Lay) (x x':Str) (l:List T):Prop where
 inv:LInv s'
 sets:s'.sets=s.sets++yb6 l
 empty:x'.empty=(x.empty&&allE l)
 first:∀ p,p∈x'.first↔p∈x.first∨(x.empty=true∧p∈catF l s.sets.length)
 last:∀ p,p∈x'.last↔p∈catB l s.sets.length∨(allE l=true∧p∈x.last)
 fols:∀ q r,fol s' q r↔fol s q r∨zxc l s.sets.length q r∨(q∈x.last∧r∈catF l s.sets.length)
structure Laid (f:Lay->Lay×Str) (k:T):Prop where
 same:Same f k
 inv:∀ s,LInv s->LInv (f s).1
 le:∀ s,LInv s->s.sets.length<=(f s).1.sets.length
 first:∀ s,LInv s->∀ p∈(f s).2.first,p<(f s).1.sets.length
 last:∀ s,LInv s->∀ p∈(f s).2.last,p<(f s).1.sets.length
section
variable {f g:Lay->Lay×Str} {k r:T} {s s':Lay} {x x':Str} {l:List T}
end
end
section
attribute [local go_sem ↓] Go.wp_at_zero Go.wp_at_succ
inductive FT:T->Prop
 | mk (op:Int) (p:Nat->Bool) (l:List T) (hop:op=1∧l=[]∨op=2∨op=3∨op=5) (hN:l.length<=202) (h:∀ x∈l,FT x):FT (.mk op p 0 0 l)
end
section
open Go
def yal:List T->List Nat->Nat->List (List Nat)->List (List Nat)
 | [],_,_,F=>F
 | t::ts,ps,a,F=>if zow t then yal ts ps (a+plT t) (zaw F ps (fstT t a)) else zaw F ps (fstT t a)
def yap:List T->Nat->List (List Nat)->List (List Nat)
 | [],_,F=>F
 | t::ts,a,F=>yap ts (a+plT t) (yal ts (lstT t a) (a+plT t) F)
mutual
def folL:T->Nat->Lay->Lay
 | .mk op p lo hi l=>fun a s=>if op=1 then ⟨s.sets.set a p,s.follow⟩ else if op=2 then ⟨(zzj l a s).sets,yap l a (zzj l a s).follow⟩ else zzj l a s
def zzj:List T->Nat->Lay->Lay
 | []=>fun _ s=>s
 | t::ts=>fun a s=>zzj ts (a+plT t) (folL t a s)
end
def Gr (F G:List (List Nat)) (n:Nat):Prop:=∀ q,(G.getD q []).length<=(F.getD q []).length+n
def cr:List T->Nat
 | []=>0
 | t::ts=>plT t*plTL ts+cr ts
def sq:List T->Nat
 | []=>0
 | t::ts=>plT t*plT t+sq ts
def crs:List T->Nat->Nat->Nat->Prop
 | [],_,_,_=>False
 | t::ts,a,q,r=>(q∈lstT t a∧r∈catF ts (a+plT t))∨crs ts (a+plT t) q r
end
section
structure NfaD (w:World) (C ga gs gf k:Nat) (vl:Value) (e:Bool) (s:Lay) (Q:Nat->Prop):Prop where
 ge:∀ b,Q b->C<=b∧b<w.heap.size
 aQ:Q ga
 box:w.heap[ga]?=some (.cells #[.slice (some ⟨gs,0,none⟩) k k,.slice none 0 0,vl,.slice (some ⟨gf,0,none⟩) k k,.bool e] 70 (0,0))
 rows:RowsAt w C (.slice (some ⟨gs,0,none⟩) k k) (.slice (some ⟨gf,0,none⟩) k k) s Q
 ns:s.sets.length=k
 nf:s.follow.length=k
section
variable {w w' w2:World} {C ga gs gf k:Nat} {vl:Value} {e:Bool} {s:Lay} {Q Q':Nat->Prop}
end
end
section
attribute [local go_sem ↓] Go.wp_at_zero Go.wp_at_succ
def begL (l:List T) (a j:Nat):List Nat:=(List.range j).map fun i=>a+plTL (l.take i)
def yd6 (w:World) (l:List Nat) (e:Ending) (w':World):Prop:=∃ v,e = .returned v∧Ints w' w.heap.size v (ns l)∧Below w.heap.size w w'
def yeq (b:Bool) (t:T) (a:Nat):List Nat:=if b=true then lstT t a else fstT t a
def idx (b:Bool) (l:List T) (j:Nat):Nat:=if b=true then l.length-1-j else j
def outL (b:Bool) (l:List T) (a j:Nat):List Nat:=if b=true then altB (l.drop (l.length-j)) (a+plTL (l.take (l.length-j))) else altF (l.take j) a
def emp (b:Bool) (l:List T) (j:Nat):Bool:=if b=true then allE (l.drop (l.length-j)) else allE (l.take j)
def EndsF (N:Nat):Prop:=∀ (t:T) (w:World) (ok:Nat->Prop) (k:Value) (a:Nat) (b:Bool),SizeOf.sizeOf t<=N->FT t->Tree w ok t k->a+plT t<=256->
 Calls Tryd.prog 39 #[zcu t k,.int .i64 (a:Int),.bool b] w (yd6 w (yeq b t a))
end
section
section
variable {w:World} {B C ga gs gf k:Nat} {vl v':Value} {e:Bool} {s:Lay} {Q:Nat->Prop} {fs:List Value} {ls:List (List Nat)} {l':List Nat}
end
end
end Go.Proofs.YtipfgpfplakhiaaDoor
