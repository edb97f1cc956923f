import Derived.Test.YtipfgpfplakhiaaTc12
import Derived.Test.YtipfgpfplakhiaaTc3
set_option linter.unusedVariables false
set_option linter.unusedSimpArgs false
set_option maxRecDepth 20000
set_option maxHeartbeats 4000000
namespace Go.Proofs.Ytipfgpfplakhiaa
open Go Go.RowKit
structure NfaIn (w:World) (B:Nat) (vs v1:Value) (gm:Nat) (vf:Value) (s:Lay) (x:Str):Prop where
 sets:∀ p,p<s.sets.length->∃ g c,vs = .slice (some ⟨g,0,none⟩) s.sets.length c∧g<B∧∀ r,r<4->w.cell? ⟨g,p*4+r,none⟩=some (.int .u64 (word (s.sets.getD p zaa) r))
 first:Ints w 0 v1 (ns x.first)
 firstB:∀ b,v1.ownBlock=some b->b<B
 last:∀ p,p<s.sets.length->w.cell? ⟨gm,p,none⟩=some (.bool (x.last.contains p))
 lastB:gm<B
 fols:∀ p,p<s.sets.length->∃ g c v,vf = .slice (some ⟨g,0,none⟩) s.sets.length c∧g<B∧w.cell? ⟨g,p,none⟩=some v∧Ints w 0 v (ns (s.follow.getD p []))∧∀ b,v.ownBlock=some b->b<B
theorem NfaAt.rest {w:World} {C gm:Nat} {vs v1 vf:Value} {s:Lay} {x:Str} (h:NfaAt w C vs v1 gm vf s x) (hl:LInv s):NfaIn w w.heap.size vs v1 gm vf s x:=by
 obtain⟨Q,hr⟩:=h.rows;obtain⟨fs,hfo,hfs⟩:=hr.fols;refine⟨fun p hp=>?_,h.first.low (ygy _),fun b e=>(h.first.in e).2,fun p hp=>h.last.cell p hp,h.last.in.2,fun p hp=>?_⟩
 .have hs:=hr.sets;rcases hs.2 with ⟨_,h0⟩|⟨g,c,cur,rfl,_,hg,_⟩
  .omega
  .refine⟨g,c,rfl,za1 hg,fun r hr=>?_⟩;rw[ygt hs (p*4+r) yjz,zcs _ _ _ hp hr,ygq,ygn hp];rfl
 .have hp':p<s.follow.length:=(by rw[hl.len];exact hp);rcases hfo.2 with ⟨_,h0⟩|⟨g,c,cur,rfl,_,hg,_⟩
  .omega
  .have hpf:p<fs.length:=(by rw[hfs.len];exact hp');refine⟨g,c,fs[p]'hpf,by rw[hl.len],za1 hg,?_,(hfs.get p _ _ (ygn hpf) (zj9 s.follow p [] hp')).low (ygy _),fun b e=>?_⟩
   .rw[ygt hfo p yjz];exact ygn hpf
   .exact ((hfs.get p _ _ (ygn hpf) (zj9 s.follow p [] hp')).in e).2
theorem NfaIn.below {w w':World} {B gm:Nat} {vs v1 vf:Value} {s:Lay} {x:Str} (h:NfaIn w B vs v1 gm vf s x) (hb:Below B w w'):NfaIn w' B vs v1 gm vf s x:=by
 refine⟨fun p hp=>?_,h.first.block fun b e _=>hb.block b (h.firstB b e),h.firstB,fun p hp=>(hb.cell (p:=⟨gm,p,none⟩) h.lastB).trans (h.last p hp),h.lastB,fun p hp=>?_⟩
 .obtain⟨g,c,e,hg,hc⟩:=h.sets p hp;exact⟨g,c,e,hg,fun r hr=>(hb.cell (p:=⟨g,p*4+r,none⟩) hg).trans (hc r hr)⟩
 .obtain⟨g,c,v,e,hg,hc,hi,hv⟩:=h.fols p hp;exact⟨g,c,v,e,hg,(hb.cell (p:=⟨g,p,none⟩) hg).trans hc,hi.block fun b e _=>hb.block b (hv b e),hv⟩
section
theorem Try.infoPlc:(Try.prog.info? 145).map (fun i=>(i.zero,i.size,i.bytes))=some (some (.agg #[.int .u64 0,.int .u64 0,.int .u64 0,.int .u64 0,.slice none 0 0,.int .i64 0,.bool false,.bool false]),8,72):=by kernel_rfl
def PlcRow (w:World) (B:Nat) (v:Value) (ps:List Plc):Prop:=
 ∃ vs,vs.length=ps.length∧w.ownsRow B 145 8 v ps.length (zjp ps vs)∧∀ (i:Nat) u p,vs[i]?=some u->ps[i]?=some p->Ints w 0 u (ns p.fol)∧∀ b,u.ownBlock=some b->b<B
section
variable {w w':World} {B:Nat} {v:Value} {ps:List Plc}
theorem PlcRow.nil (w:World) (B:Nat):PlcRow w B (.slice none 0 0) []:=⟨[],rfl,yhd w B _ 8,fun i u p h=>by simp at h⟩
theorem PlcRow.form (h:PlcRow w B v ps):∃ A c,v = .slice A ps.length c∧ps.length<=c:=by
 obtain⟨vs,h1,h2,h3⟩:=h;rcases h2.2 with ⟨rfl,h0⟩|⟨g,cap,cur,rfl,_,_,hc,_⟩
 .exact⟨none,0,by rw[h0],by omega⟩
 .exact⟨_,_,rfl,hc⟩
theorem PlcRow.in (h:PlcRow w B v ps) {b:Nat} (hb:v.ownBlock=some b):B<=b∧b<w.heap.size:=by
 obtain⟨vs,h1,h2,h3⟩:=h;exact ygs h2 b hb
theorem PlcRow.kind (h:PlcRow w B v ps) {b:Nat} (hb:v.ownBlock=some b):∃ cur,w.heap[b]?=some (.cells cur 145 (0,0)):=by
 obtain⟨vs,h1,h2,h3⟩:=h;exact za8 h2 hb
theorem PlcRow.block (h:PlcRow w B v ps) (hB:B<=w.heap.size) (hb:Below B w w') (ho:∀ b,v.ownBlock=some b->w'.heap[b]?=w.heap[b]?):PlcRow w' B v ps:=by
 obtain⟨vs,h1,h2,h3⟩:=h;exact⟨vs,h1,za7 h2 fun b e _=>ho b e,fun i u p e1 e2=>⟨(h3 i u p e1 e2).1.block fun b e _=>hb.block b ((h3 i u p e1 e2).2 b e),(h3 i u p e1 e2).2⟩⟩
theorem PlcRow.stays (h:PlcRow w B v ps) (hB:B<=w.heap.size) (hb:Below w.heap.size w w'):PlcRow w' B v ps:=
 h.block hB (hb.mono hB) fun b e=>hb.block b (h.in e).2
theorem PlcRow.cellSet (h:PlcRow w B v ps) (hB:B<=w.heap.size) {a:Addr} (ha:a.block<B) (hk:∃ cur ty,w.heap[a.block]?=some (.cells cur ty (0,0))∧ty≠3) (u:Value):PlcRow (w.setCell a u) B v ps:=by
 obtain⟨vs,h1,h2,h3⟩:=h;obtain⟨cur,ty,hc,hty⟩:=hk;exact⟨vs,h1,za7 h2 fun b e _=>ygz _ _ _ _ (by have:=(ygs h2 b e).1;omega),fun i x p e1 e2=>⟨(h3 i x p e1 e2).1.block fun b e _=>ygz _ _ _ _ (by
  intro e';obtain⟨c2,k2⟩:=(h3 i x p e1 e2).1.kind e;subst e';exact za0 hc k2 hty rfl),(h3 i x p e1 e2).2⟩⟩
theorem PlcRow.rules (h:PlcRow w B v ps) {v1:Value} {fs:List Nat} (hf:Ints w B v1 (ns fs)) {gr lam:Nat} (hr:HasO w gr (.cells #[v,v1,.int .i64 lam] 97 (0,0))):RulesIn w gr ⟨ps,fs,lam⟩:=by
 obtain⟨vs,h1,h2,h3⟩:=h;exact⟨v,vs,v1,hr,h1,zb2 h2 (ygy _),fun i u p e1 e2=>(h3 i u p e1 e2).1,hf.low (ygy _)⟩
end
theorem ya7 {w:World} {B:Nat} {v:Value} {ps:List Plc} (h:PlcRow w B v ps) (hB:B<=w.heap.size) (hl:ps.length<=100000) (p:Plc) (u:Value) (hu:Ints w 0 u (ns p.fol)) (hub:∀ b,u.ownBlock=some b->b<B) (td:TypeId) (ad:Addr) (c:Nat)
 (hc:∀ (j:Nat) x,(plcC p u)[j]?=some x->w.cell? (ad.add j)=some x):
 ∃ v' w',(Builtin.append_ #[95,95] td #[v,.slice (some ad) 1 c]).run Try.prog w = .ok v' w'∧PlcRow w' B v' (ps++[p])∧w.grownBy w' v.ownBlock∧(v'.ownBlock=v.ownBlock∨v'.ownBlock=some w.heap.size):=by
 have h0:=h;obtain⟨vs,h1,h2,h3⟩:=h;obtain⟨i0,hi,hz0,hz1,hz2⟩:=info_parts Try.infoPlc;have hone:u.oneCell'=true:=by
  obtain⟨A,c',e⟩:=hu.form;rw[e];rfl
 obtain⟨v',w',hr,h4,h5,_,h6⟩:=run_append_own_at (P:=Try.prog) w B 95 td 145 i0 _ 8 72 Try.underlying95 hi hz0 hz1 hz2 rfl yk6 v ps.length (zjp ps vs) h2 ad 1 c (plcC p u) rfl hc
  (by
    intro x hx;simp only[plcC,yh4,yh5,or_false] at hx;rcases hx with rfl|rfl|rfl|rfl|rfl|rfl|rfl|rfl
    all_goals first | rfl | exact hone) yka yjz hB
 have key:∀ (u':Value) (l:List Int),Ints w 0 u' l->(∀ b,u'.ownBlock=some b->b<B)->Ints w' 0 u' l:=fun u' l hu' hb'=>hu'.block fun b e hb=>h5.block b hb fun e'=>by
  have h7:=(ygs h2 b e'.symm).1;have h8:=hb' b e;omega
 refine⟨v',w',hr,⟨vs++[u],by simp[h1],?_,fun i u' p' e1 e2=>?_⟩,h5,h6⟩
 .rw[zoa ps vs p u h1]
  simpa using h4
 .by_cases hi':i<ps.length
  .rw[ygv hi'] at e2;rw[ygv yjz] at e1;exact⟨key _ _ (h3 i u' p' e1 e2).1 (h3 i u' p' e1 e2).2,(h3 i u' p' e1 e2).2⟩
  .have e0:i=ps.length:=by
    have:=(ygp.1 e2).1;simp at this;omega
   subst e0;rw[ygx (ygo _)] at e2;rw[ygx yjz] at e1;simp[h1] at e1 e2;subst e1 e2;exact⟨key _ _ hu hub,hub⟩
def nfaC (vs v1 vm vf:Value) (e:Bool):List Value:=[vs,v1,vm,vf,.bool e]
def RdNfas (w:World) (B:Nat) (A:Option Addr) (L:List (Lay×Str)):Prop:=
 ∀ i s x,L[i]?=some (s,x)->∃ g off A1 m1 c1 A2 m2 c2 gm A3 m3 c3,A=some ⟨g,off,none⟩∧g<B∧(∀ q u,(nfaC (.slice A1 m1 c1) (.slice A2 m2 c2) (.slice (some ⟨gm,0,none⟩) s.sets.length s.sets.length) (.slice A3 m3 c3) x.empty)[q]?=some u->w.cell? ⟨g,off+i*5+q,none⟩=some u)∧
  m1=s.sets.length∧m2=x.first.length∧m3=s.sets.length∧NfaIn w B (.slice A1 m1 c1) (.slice A2 m2 c2) gm (.slice A3 m3 c3) s x
theorem RdNfas.below {w w':World} {B:Nat} {A:Option Addr} {L:List (Lay×Str)} (h:RdNfas w B A L) (hb:Below B w w'):RdNfas w' B A L:=fun i s x e=>by
 obtain⟨g,off,A1,m1,c1,A2,m2,c2,gm,A3,m3,c3,h1,h2,h3,h4,h5,h6,h7⟩:=h i s x e;exact⟨g,off,A1,m1,c1,A2,m2,c2,gm,A3,m3,c3,h1,h2,fun q u hu=>(hb.cell (p:=⟨g,off+i*5+q,none⟩) h2).trans (h3 q u hu),h4,h5,h6,h7.below hb⟩
def zmo (s:Lay) (x:Str) (base:Nat) (b:Bool) (p:Nat):Plc:=⟨s.sets.getD p zaa,s.follow.getD p [],base,x.last.contains p,b⟩
def zc9 (s:Lay) (x:Str) (base:Nat) (b:Bool):Nat->List Plc
 | 0=>[]
 | k+1=>zc9 s x base b k++[zmo s x base b k]
theorem zbl (s:Lay) (x:Str) (base:Nat) (b:Bool):∀ k,(zc9 s x base b k).length=k
 | 0=>rfl
 | k+1=>by simp[zc9,zbl s x base b k]
def lx0:Lay×Str:=(⟨[],[]⟩,⟨[],[],false⟩)
def togP (L:List (Lay×Str)) (bs:List Bool):Nat->List Plc
 | 0=>[]
 | k+1=>togP L bs k++zc9 (L.getD k lx0).1 (L.getD k lx0).2 (togP L bs k).length (bs.getD k false) (L.getD k lx0).1.sets.length
def togF (L:List (Lay×Str)) (bs:List Bool):Nat->List Nat
 | 0=>[]
 | k+1=>togF L bs k++(L.getD k lx0).2.first.map ((togP L bs k).length+·)
theorem ziz (L:List (Lay×Str)) (bs:List Bool) (P:Nat) (hP:∀ s x,(s,x)∈L->s.sets.length<=P):∀ k,k<=L.length->(togP L bs k).length<=k*P
 | 0,_=>by simp[togP]
 | k+1,h=>by
  have ih:=ziz L bs P hP k yjz;have hm:L.getD k lx0∈L:=(by rw[ygq,ygn yjz];exact yhb _);have:=hP (L.getD k lx0).1 (L.getD k lx0).2 hm;simp only[togP,ygu,zbl];rw[yiq];omega
theorem zmh (L:List (Lay×Str)) (bs:List Bool) (P:Nat) (hP:∀ s x,(s,x)∈L->x.first.length<=P):∀ k,k<=L.length->(togF L bs k).length<=k*P
 | 0,_=>by simp[togF]
 | k+1,h=>by
  have ih:=zmh L bs P hP k yjz;have hm:L.getD k lx0∈L:=(by rw[ygq,ygn yjz];exact yhb _);have:=hP (L.getD k lx0).1 (L.getD k lx0).2 hm;simp only[togF,ygu,yh8];rw[yiq];omega
end
section
def Solid (w:World) (E:Nat->Prop) (vs v1:Value) (gm:Nat) (vf:Value) (s:Lay) (x:Str):Prop:=
 ∀ w',w.heap.size<=w'.heap.size->(∀ b,E b->w'.heap[b]?=w.heap[b]?)->NfaIn w' w'.heap.size vs v1 gm vf s x
theorem Solid.of_at {w:World} {C gm:Nat} {vs v1 vf:Value} {s:Lay} {x:Str} (h:NfaAt w C vs v1 gm vf s x) (hl:LInv s):Solid w (fun b=>C<=b∧b<w.heap.size) vs v1 gm vf s x:=fun w' hs hk=>by
 have own:∀ {v:Value} {n e size:Nat} {xs:List Value},w.ownsRow C e size v n xs->w'.ownsRow C e size v n xs:=fun h=>za7 h fun b e hb=>hk b ⟨(ygs h b e).1,hb⟩
 obtain⟨Q,hr⟩:=h.rows;obtain⟨fs,h1,h2⟩:=hr.fols;exact NfaAt.rest (C:=C) ⟨⟨Q,own hr.sets,hr.setsQ,⟨fs,own h1,⟨h2.len,fun i v l e1 e2=>own (h2.get i v l e1 e2),h2.inQ,h2.apart⟩⟩,hr.folsQ⟩,own h.first,own h.last⟩ hl
theorem zqa {w:World} {B e size n c k:Nat} {A:Option Addr} {xs:List Value} (h:w.ownsRow B e size (.slice A n c) k xs):n=k:=by
 rcases h.2 with ⟨e,e0⟩|⟨g,cap,cur,e,_⟩
 .injection e with _ e _
  omega
 .injection e
def Elem (w:World) (E:Nat->Prop) (c:List Value) (s:Lay) (x:Str):Prop:=
 ∃ A1 m1 c1 A2 m2 c2 gm A3 m3 c3,c=nfaC (.slice A1 m1 c1) (.slice A2 m2 c2) (.slice (some ⟨gm,0,none⟩) s.sets.length s.sets.length) (.slice A3 m3 c3) x.empty∧m1=s.sets.length∧m2=x.first.length∧m3=s.sets.length∧Solid w E (.slice A1 m1 c1) (.slice A2 m2 c2) gm (.slice A3 m3 c3) s x
section
variable {w w':World} {E E':Nat->Prop} {c:List Value} {s:Lay} {x:Str} {ty tys:TypeId} {B:Nat} {v:Value} {L:List (Lay×Str)}
theorem Elem.keep (h:Elem w E c s x) (hs:w.heap.size<=w'.heap.size) (hk:∀ b,E b->w'.heap[b]?=w.heap[b]?):Elem w' E c s x:=by
 obtain⟨A1,m1,c1,A2,m2,c2,gm,A3,m3,c3,h1,h2,h3,h4,h5⟩:=h;exact⟨A1,m1,c1,A2,m2,c2,gm,A3,m3,c3,h1,h2,h3,h4,fun w'' hs' hk'=>h5 w'' (ygw hs hs') fun b e=>(hk' b e).trans (hk b e)⟩
theorem Elem.wide (h:Elem w E c s x) (he:∀ b,E b->E' b):Elem w E' c s x:=by
 obtain⟨A1,m1,c1,A2,m2,c2,gm,A3,m3,c3,h1,h2,h3,h4,h5⟩:=h;exact⟨A1,m1,c1,A2,m2,c2,gm,A3,m3,c3,h1,h2,h3,h4,fun w'' hs' hk'=>h5 w'' hs' fun b e=>hk' b (he b e)⟩
theorem Elem.of_at {C gm m1 c1 m2 c2 m3 c3:Nat} {A1 A2 A3:Option Addr} (h:NfaAt w C (.slice A1 m1 c1) (.slice A2 m2 c2) gm (.slice A3 m3 c3) s x) (hl:LInv s):
 Elem w (fun b=>C<=b∧b<w.heap.size) (nfaC (.slice A1 m1 c1) (.slice A2 m2 c2) (.slice (some ⟨gm,0,none⟩) s.sets.length s.sets.length) (.slice A3 m3 c3) x.empty) s x:=by
 obtain⟨Q,hr⟩:=h.rows;obtain⟨fs,h1,h2⟩:=hr.fols;have e2:=zqa h.first
 have e3:=zqa h1;rw[hl.len] at e3;exact⟨A1,m1,c1,A2,m2,c2,gm,A3,m3,c3,rfl,zqa hr.sets,by simpa [ns] using e2,e3,Solid.of_at h hl⟩
theorem Elem.one (h:Elem w E c s x):c.length=5∧∀ u∈c,u.oneCell'=true:=by
 obtain⟨A1,m1,c1,A2,m2,c2,gm,A3,m3,c3,rfl,_⟩:=h;refine⟨rfl,fun u hu=>?_⟩;simp only[nfaC,yh4,yh5,or_false] at hu;rcases hu with rfl|rfl|rfl|rfl|rfl <;> rfl
def NfaRow (ty:TypeId) (w:World) (B:Nat) (v:Value) (L:List (Lay×Str)) (E:Nat->Prop):Prop:=
 (∀ b,E b->b<w.heap.size∧v.ownBlock≠some b)∧∃ cs:List (List Value),cs.length=L.length∧w.ownsRow B ty 5 v L.length cs.flatten∧∀ (i:Nat) c s x,cs[i]?=some c->L[i]?=some (s,x)->Elem w E c s x
theorem NfaRow.nil (ty:TypeId) (w:World) (B:Nat):NfaRow ty w B (.slice none 0 0) [] fun _=>False:=
 ⟨fun b e=>e.elim,[],rfl,yhd w B _ 5,fun i c s x h=>by simp at h⟩
theorem NfaRow.keep (h:NfaRow ty w B v L E) (hs:w.heap.size<=w'.heap.size) (hv:∀ b,v.ownBlock=some b->w'.heap[b]?=w.heap[b]?) (hk:∀ b,E b->w'.heap[b]?=w.heap[b]?):NfaRow ty w' B v L E:=by
 obtain⟨h1,cs,h2,h3,h4⟩:=h;exact⟨fun b e=>⟨yh3 (h1 b e).1 hs,(h1 b e).2⟩,cs,h2,za7 h3 fun b e _=>hv b e,fun i c s x e1 e2=>(h4 i c s x e1 e2).keep hs hk⟩
theorem NfaRow.lt (h:NfaRow ty w B v L E) {b:Nat} (hb:v.ownBlock=some b):B<=b∧b<w.heap.size:=by
 obtain⟨h1,cs,h2,h3,h4⟩:=h;exact ygs h3 b hb
theorem NfaRow.kind (h:NfaRow ty w B v L E) {b:Nat} (hb:v.ownBlock=some b):∃ cur,w.heap[b]?=some (.cells cur ty (0,0)):=by
 obtain⟨h1,cs,h2,h3,h4⟩:=h;exact za8 h3 hb
theorem NfaRow.stays (h:NfaRow ty w B v L E) (hb:Below w.heap.size w w'):NfaRow ty w' B v L E:=h.keep hb.size (fun b e=>hb.block b (h.lt e).2) fun b e=>hb.block b (h.1 b e).1
theorem NfaRow.wide (h:NfaRow ty w B v L E) (he:∀ b,E b->E' b) (hE:∀ b,E' b->b<w.heap.size∧v.ownBlock≠some b):NfaRow ty w B v L E':=by
 obtain⟨h1,cs,h2,h3,h4⟩:=h;exact⟨hE,cs,h2,h3,fun i c s x e1 e2=>(h4 i c s x e1 e2).wide he⟩
theorem NfaRow.form (h:NfaRow ty w B v L E):∃ A c,v = .slice A L.length c∧L.length<=c:=by
 obtain⟨h1,cs,h2,h3,h4⟩:=h;rcases h3.2 with ⟨rfl,h0⟩|⟨g,cap,cur,rfl,_,_,hc,_⟩
 .exact⟨none,0,by rw[h0],by omega⟩
 .exact⟨_,_,rfl,hc⟩
theorem zse:∀ (cs:List (List Value)) (i q:Nat) (c:List Value),(∀ d∈cs,d.length=5)->cs[i]?=some c->q<5->cs.flatten[i*5+q]?=c[q]?
 | [],i,q,c,hl,h,hq=>by simp at h
 | d::cs,0,q,c,hl,h,hq=>by
  simp at h;subst h;rw[List.flatten_cons,ygv (by rw[hl d (yhr ..)];omega)];simp
 | d::cs,i+1,q,c,hl,h,hq=>by
  have ih:=zse cs i q c (fun d' hd=>hl d' (yhi _ hd)) ykc hq;have hd:=hl d (yhr ..);rw[List.flatten_cons,ygx (by rw[hd];omega),hd,show (i+1)*5+q-5=i*5+q by omega];exact ih
theorem NfaRow.fresh {E2:Nat->Prop} {n:Nat} (h:NfaRow ty w B v L E) (hb:Below w.heap.size w w') (hn:w.heap.size<=n) (he:∀ b,E b->E2 b) (h2:∀ b,E2 b->E b∨(w.heap.size<=b∧b<w'.heap.size)):NfaRow ty w' B v L E2:=
 (h.stays hb).wide he fun b e=>(h2 b e).elim (fun e'=>⟨yh3 (h.1 b e').1 hb.size,(h.1 b e').2⟩) fun e'=>⟨e'.2,fun e2=>by have:=(h.lt e2).2;omega⟩
theorem zsj {b:Nat} {cs:Array Value} {t:TypeId} (h:HasO w b (.cells cs t (0,0))) (j:Nat) (u:Value) (hu:cs.toList[j]?=some u):w.cell? ((⟨b,0,none⟩:Addr).add j)=some u:=by
 rw[Addr.add_lit,yhm,cell_of_row w b j _ _ (0,0) h]
 simpa using hu
theorem NfaRow.rd (h:NfaRow ty w B v L E) {A:Option Addr} {n c:Nat} (hv:v = .slice A n c):RdNfas w w.heap.size A L:=fun i s x hi=>by
 obtain⟨h1,cs,h2,h3,h4⟩:=h;have hl:i<L.length:=(ygp.1 hi).1;obtain⟨d,hd⟩:∃ d,cs[i]?=some d:=⟨_,ygn yjz⟩;have hall:∀ d∈cs,d.length=5:=fun d hd=>by
  obtain⟨j,hj⟩:=yhu hd;obtain⟨⟨s',x'⟩,hx⟩:∃ z,L[j]?=some z:=⟨_,ygn (by have:=(ygp.1 hj).1;omega)⟩;exact (h4 j d s' x' hj hx).one.1
 have he:=h4 i d s x hd hi;obtain⟨A1,m1,c1,A2,m2,c2,gm,A3,m3,c3,rfl,e1,e2,e3,e4⟩:=he;rcases h3.2 with ⟨_,h0⟩|⟨g,cap,cur,e,hB,hg,_⟩
 .omega
 .rw[e] at hv h3;injection hv with f1 f2 f3
  refine⟨g,0,A1,m1,c1,A2,m2,c2,gm,A3,m3,c3,f1.symm,za1 hg,fun q u hu=>?_,e1,e2,e3,e4 w (ygo _) fun _ _=>rfl⟩;have hq:q<5:=(ygp.1 hu).1;rw[yhm,ygt h3 (i*5+q) yjz,zse cs i q _ hall hd hq];exact hu
structure ycf (ty tys:TypeId):Prop where
 und:Try.prog.underlying tys=some (.slice ty)
 info:(Try.prog.info? ty).map (fun i=>(i.zero,i.size,i.bytes))=some (some (.agg #[.slice none 0 0,.slice none 0 0,.slice none 0 0,.slice none 0 0,.bool false]),5,104)
theorem yag (hT:ycf ty tys) (h:NfaRow ty w B v L E) (hB:B<=w.heap.size) (hl:L.length<=1000) (he:Elem w E c s x) (td:TypeId) (ad:Addr) (cp:Nat) (hc:∀ (j:Nat) u,c[j]?=some u->w.cell? (ad.add j)=some u):
 ∃ v' w',(Builtin.append_ #[tys,tys] td #[v,.slice (some ad) 1 cp]).run Try.prog w = .ok v' w'∧NfaRow ty w' B v' (L++[(s,x)]) E∧w.grownBy w' v.ownBlock∧(v'.ownBlock=v.ownBlock∨v'.ownBlock=some w.heap.size):=by
 obtain⟨h1,cs,h2,h3,h4⟩:=h;obtain⟨i0,hi,hz0,hz1,hz2⟩:=info_parts hT.info;obtain⟨v',w',hr,h5,h6,_,h7⟩:=run_append_own_at (P:=Try.prog) w B tys td ty i0 _ 5 104 hT.und hi hz0 hz1 hz2 rfl yk6 v L.length cs.flatten h3 ad 1 cp c he.one.1 hc he.one.2 yka yjz hB;have hk:∀ b,E b->w'.heap[b]?=w.heap[b]?:=fun b e=>h6.block b (h1 b e).1 fun e'=>(h1 b e).2 e'.symm
 refine⟨v',w',hr,⟨fun b e=>⟨yh3 (h1 b e).1 h6.size,fun e'=>?_⟩,cs++[c],by simp[h2],by rw[List.flatten_append,ygu];simpa using h5,fun i c' s' x' e1 e2=>?_⟩,h6,h7⟩
 .rcases h7 with e7|e7
  .exact (h1 b e).2 (e7▸e')
  .rw[e7] at e';injection e' with e'
   have:=(h1 b e).1;omega
 .by_cases hi':i<L.length
  .rw[ygv hi'] at e2;rw[ygv yjz] at e1;exact (h4 i c' s' x' e1 e2).keep h6.size hk
  .have e0:i=L.length:=by
    have:=(ygp.1 e2).1;simp at this;omega
   subst e0;rw[ygx (ygo _)] at e2;rw[ygx yjz] at e1;simp[h2] at e1 e2;obtain⟨rfl,rfl⟩:=e2;subst e1;exact he.keep h6.size hk
theorem zt3 (hT:ycf ty tys) {ops:Array Oper} {rest:List Oper} {o:Oper} {a:Act} {Q:Exit->Act->World->Prop} (hgd:o.guard=none) (s0 x0:Operand)
 (ho:o.op = .call {callee := .builtin .append,args:=#[s0,x0],argTypes:=#[tys,tys]}) (hs:a.eval s0=v) (h:NfaRow ty w B v L E) (hB:B<=w.heap.size) (hl:L.length<=1000) (he:Elem w E c s x)
 (ad:Addr) (cp:Nat) (hx:a.eval x0 = .slice (some ad) 1 cp) (hc:∀ (j:Nat) u,c[j]?=some u->w.cell? (ad.add j)=some u)
 (hk:∀ v' w',NfaRow ty w' B v' (L++[(s,x)]) E->w.grownBy w' v.ownBlock->(v'.ownBlock=v.ownBlock∨v'.ownBlock=some w.heap.size)->wpList Try.prog ops Q rest (a.put o.dst v') w'):wpList Try.prog ops Q (o::rest) a w:=by
 obtain⟨v',w',hr,h2,h3,h4⟩:=yag hT h hB hl he o.type ad cp hc;refine wpList_plain hgd fun _ hK=>?_
 unfold Oper.wp execOp;simp only[ho,resolve,invoke,builtin,Sem.run_bind,Sem.run_pure,Result.andThen_ok,yi4,yhw,yia,hs,hx,hr];exact hK _ _ (hk v' w' h2 h3 h4)
end
theorem NfaRow.off2 {w w':World} {E:Nat->Prop} {ty e2:TypeId} {B B2 size n:Nat} {v v2:Value} {L:List (Lay×Str)} {xs:List Value} (h:NfaRow ty w B v L E) (h2:w.ownsRow B2 e2 size v2 n xs) (hne:ty≠e2) (hE:∀ b,E b->v2.ownBlock≠some b) (hg:w.grownBy w' v2.ownBlock):NfaRow ty w' B v L E:=
 h.keep hg.size (fun b e=>hg.block b (h.lt e).2 fun e'=>by
  obtain⟨c1,k1⟩:=h.kind e;obtain⟨c2,k2⟩:=za8 h2 e'.symm;exact za0 k1 k2 hne rfl) fun b e=>hg.block b (h.1 b e).1 fun e'=>hE b e e'.symm
theorem NfaRow.off3 {w w':World} {E:Nat->Prop} {ty e2:TypeId} {B B2 size n:Nat} {v v2:Value} {L:List (Lay×Str)} {xs:List Value} (h:w.ownsRow B2 e2 size v2 n xs) (h2:NfaRow ty w B v L E) (hne:ty≠e2) (hg:w.grownBy w' v.ownBlock):w'.ownsRow B2 e2 size v2 n xs:=
 za7 h fun b e hb=>hg.block b hb fun e'=>by
  obtain⟨c1,k1⟩:=h2.kind e'.symm;obtain⟨c2,k2⟩:=za8 h e;exact za0 k1 k2 hne rfl
theorem znl {w:World} {ops:Array Oper} {rest:List Oper} {o:Oper} {a:Act} {Q:Exit->Act->World->Prop} (hgd:o.guard=none) (s0 x0:Operand)
 (ho:o.op = .call {callee := .builtin .append,args:=#[s0,x0],argTypes:=#[23,23]}) {B n:Nat} {v:Value} {xs:List Value} (hs:a.eval s0=v) (h:w.ownsRow B 4 1 v n xs) (hB:B<=w.heap.size) (hl:n<=1000) (b:Bool)
 (ad:Addr) (cp:Nat) (hx:a.eval x0 = .slice (some ad) 1 cp) (hc:∀ (j:Nat) u,[Value.bool b][j]?=some u->w.cell? (ad.add j)=some u)
 (hk:∀ v' w',w'.ownsRow B 4 1 v' (n+1) (xs++[.bool b])->w.grownBy w' v.ownBlock->(v'.ownBlock=v.ownBlock∨v'.ownBlock=some w.heap.size)->wpList Try.prog ops Q rest (a.put o.dst v') w'):wpList Try.prog ops Q (o::rest) a w:=by
 obtain⟨i0,hi,hz0,hz1,hz2⟩:=info_parts Try.infoBool;obtain⟨v',w',hr,h5,h6,_,h7⟩:=run_append_own_at (P:=Try.prog) w B 23 o.type 4 i0 _ 1 1 Try.underlying23 hi hz0 hz1 hz2 rfl yk6 v n xs h ad 1 cp [.bool b] rfl hc (fun u hu=>by simp at hu;subst hu;rfl) yka yjz hB;refine wpList_plain hgd fun _ hK=>?_
 unfold Oper.wp execOp;simp only[ho,resolve,invoke,builtin,Sem.run_bind,Sem.run_pure,Result.andThen_ok,yi4,yhw,yia,hs,hx,hr];exact hK _ _ (hk v' w' h5 h6 h7)
theorem nfaTyP:ycf 79 30:=⟨Try.underlying30,by kernel_rfl⟩
theorem yf8:ycf 76 31:=⟨Try.underlying31,by kernel_rfl⟩
end
section
def MadeN (w:World) (B g N:Nat) (L:List (Lay×Str)) (E:Nat->Prop):Prop:=
 (∀ b,E b->b<w.heap.size∧b≠g)∧∃ (cs:List (List Value)) (ys:List Value),cs.length=L.length∧ys.length+L.length*5=N*5∧w.ownsRow B 79 5 (.slice (some ⟨g,0,none⟩) N N) N (cs.flatten++ys)∧∀ (i:Nat) c s x,cs[i]?=some c->L[i]?=some (s,x)->Elem w E c s x
def MadeT (w:World) (B g N:Nat) (bs:List Bool):Prop:=∃ ys:List Value,ys.length+bs.length=N∧w.ownsRow B 4 1 (.slice (some ⟨g,0,none⟩) N N) N (bs.map Value.bool++ys)
theorem zwv (n:Nat) (hn:n<=100000):∃ M:Array Value,M.size=n*5∧∀ W:World,(Instr.makeSlice 30 (.int .i64 (n:Int)) (.int .i64 (n:Int))).run Try.prog W = .ok (.slice (some ⟨W.heap.size,0,none⟩) n n) (W.alloc (.cells M 79)):=by
 obtain⟨i1,a1,a2,a3,a4⟩:=info_parts nfaTyP.info;refine⟨madeCells (Value.agg #[.slice none 0 0,.slice none 0 0,.slice none 0 0,.slice none 0 0,.bool false]).cells (n*5),by simp[madeCells],fun W=>?_⟩;have:=run_make (P:=Try.prog) (w:=W) 30 79 i1 _ Try.underlying30 a1 a2 .i64 .i64 (n:Int) (n:Int) yjz (yjw _) (by rw[a4];omega) yjz;rw[a3] at this
 simpa using this
theorem zqe (n:Nat) (hn:n<=100000):∃ M:Array Value,M.size=n∧∀ W:World,(Instr.makeSlice 23 (.int .i64 (n:Int)) (.int .i64 (n:Int))).run Try.prog W = .ok (.slice (some ⟨W.heap.size,0,none⟩) n n) (W.alloc (.cells M 4)):=by
 obtain⟨i1,a1,a2,a3,a4⟩:=info_parts Try.infoBool;refine⟨madeCells (Value.bool false).cells (n*1),by simp[madeCells],fun W=>?_⟩;have:=run_make (P:=Try.prog) (w:=W) 23 4 i1 _ Try.underlying23 a1 a2 .i64 .i64 (n:Int) (n:Int) yjz (yjw _) (by rw[a4];omega) yjz;rw[a3] at this
 simpa using this
theorem zkj:∀ (cs:List (List Value)),(∀ d∈cs,d.length=5)->cs.flatten.length=cs.length*5
 | [],_=>rfl
 | d::cs,h=>by
  rw[List.flatten_cons,ygu,h d (yhr ..),zkj cs fun d' hd=>h d' (yhi _ hd),yi8];omega
section
variable {w w':World} {B g N:Nat} {L:List (Lay×Str)} {E:Nat->Prop} {bs:List Bool}
theorem MadeN.new {M:Array Value} (hM:M.size=N*5) (hN:N<=100000) (h:w.heap[g]?=some (.cells M 79 (0,0))) (hB:B<=g):MadeN w B g N [] fun _=>False:=by
 refine⟨fun b e=>e.elim,[],M.toList,rfl,by simp[hM],⟨by simp[hM],.inr ⟨g,N,M,rfl,hB,h,ygo _,by unfold maxLen;omega,hM,by rw[yhg (by simp[hM])];rfl⟩⟩,fun i c s x e=>by simp at e⟩
theorem MadeT.new {M:Array Value} (hM:M.size=N) (hN:N<=100000) (h:w.heap[g]?=some (.cells M 4 (0,0))) (hB:B<=g):MadeT w B g N []:=by
 refine⟨M.toList,by simp[hM],⟨by simp[hM],.inr ⟨g,N,M,rfl,hB,h,ygo _,by unfold maxLen;omega,by rw[hM,yib],by rw[yhg (by simp[hM])];rfl⟩⟩⟩
theorem MadeN.lt (h:MadeN w B g N L E):B<=g∧g<w.heap.size:=by
 obtain⟨_,cs,ys,_,_,h3,_⟩:=h;exact ygs h3 g rfl
theorem MadeT.lt (h:MadeT w B g N bs):B<=g∧g<w.heap.size:=by
 obtain⟨ys,_,h3⟩:=h;exact ygs h3 g rfl
theorem MadeN.stays (h:MadeN w B g N L E) (hb:Below w.heap.size w w'):MadeN w' B g N L E:=by
 obtain⟨h1,cs,ys,h2,h3,h4,h5⟩:=h;exact⟨fun b e=>⟨yh3 (h1 b e).1 hb.size,(h1 b e).2⟩,cs,ys,h2,h3,za6 h4 hb,fun i c s x e1 e2=>(h5 i c s x e1 e2).keep hb.size fun b e=>hb.block b (h1 b e).1⟩
theorem MadeT.stays (h:MadeT w B g N bs) (hb:Below w.heap.size w w'):MadeT w' B g N bs:=by
 obtain⟨ys,h1,h2⟩:=h;exact⟨ys,h1,za6 h2 hb⟩
theorem MadeN.wide {E':Nat->Prop} (h:MadeN w B g N L E) (he:∀ b,E b->E' b) (hE:∀ b,E' b->b<w.heap.size∧b≠g):MadeN w B g N L E':=by
 obtain⟨h1,cs,ys,h2,h3,h4,h5⟩:=h;exact⟨hE,cs,ys,h2,h3,h4,fun i c s x e1 e2=>(h5 i c s x e1 e2).wide he⟩
theorem zon {cs:List (List Value)} (h:∀ (i:Nat) c s x,cs[i]?=some c->L[i]?=some (s,x)->Elem w E c s x) (hl:cs.length=L.length):∀ d∈cs,d.length=5:=fun d hd=>by
 obtain⟨j,hj⟩:=yhu hd;obtain⟨⟨s',x'⟩,hx⟩:∃ z,L[j]?=some z:=⟨_,ygn (by have:=(ygp.1 hj).1;omega)⟩;exact (h j d s' x' hj hx).one.1
theorem MadeN.frozenAt (h:MadeN w B g N L E) (j:Nat):w.frozen? ⟨g,j,none⟩=false:=by
 obtain⟨_,cs,ys,_,_,h3,_⟩:=h;exact yhh h3 j
theorem MadeN.stoM (h:MadeN w B g N L E) (hl:L.length<N) (a b c d:Option Addr) (a1 a2 b1 b2 c1 c2 d1 d2:Nat) (e:Bool):StoM 79 w (.pointer (some ⟨g,L.length*5,none⟩)) (.agg #[.slice a a1 a2,.slice b b1 b2,.slice c c1 c2,.slice d d1 d2,.bool e]):=by
 obtain⟨i0,hi',hi0,hi1,hi2⟩:=info_parts nfaTyP.info;refine ycy (fun j hj=>?_) ?_ ?_
 .have hf:=h.frozenAt (L.length*5+j);obtain⟨h1,cs,ys,h2,h3,h4,h5⟩:=h;have hfl:=zkj cs (zon h5 h2);have hj5:j<5:=hj;refine⟨?_,hf⟩;rw[ygt h4 (L.length*5+j) yjz,ygx yjz,ygn yjz];rfl
 .rw[hi'];simp[hi1]
 .simp[Value.oneCell']
theorem MadeN.set {s:Lay} {x:Str} {cv:Array Value} (h:MadeN w B g N L E) (hl:L.length<N) (he:Elem w E cv.toList s x):MadeN (Go.Proofs.Ytipfgpfplakhiaa.stoM w (.pointer (some ⟨g,L.length*5,none⟩)) (.agg cv)) B g N (L++[(s,x)]) E:=by
 obtain⟨h1,cs,ys,h2,h3,h4,h5⟩:=h;have hfl:=zkj cs (zon h5 h2);have s1:=ziq cv.toList (L.length*5) _ _ h4;have hc5:=he.one.1;have e1:setL (cs.flatten++ys) (L.length*5) cv.toList=cs.flatten++(cv.toList++ys.drop 5):=by
  have:=zrc cs.flatten cv.toList ys 0;rw[hfl,h2,yi2] at this;rw[this];have e2:=zrd cv.toList (ys.take 5) (ys.drop 5) (by rw[yi9,hc5];omega);rw[yis] at e2;rw[e2]
 rw[e1,←yhe] at s1;have hsz:w.heap.size<=(Go.Proofs.Ytipfgpfplakhiaa.stoM w (.pointer (some ⟨g,L.length*5,none⟩)) (.agg cv)).heap.size:=by
  have:=(zij (B:=0) (a:=w) (g:=g) (ygy _) cv.toList (L.length*5) w ⟨rfl,rfl,rfl,ygo _,fun _ _=>rfl⟩).size;exact this
 have hk:∀ b,E b->(Go.Proofs.Ytipfgpfplakhiaa.stoM w (.pointer (some ⟨g,L.length*5,none⟩)) (.agg cv)).heap[b]?=w.heap[b]?:=fun b e=>zee (h1 b e).2 _ _ _
 refine⟨fun b e=>⟨yh3 (h1 b e).1 hsz,(h1 b e).2⟩,cs++[cv.toList],ys.drop 5,by simp[h2],by simp;omega,by rw[show (cs++[cv.toList]).flatten=cs.flatten++cv.toList by simp];exact s1,fun i c s' x' e1 e2=>?_⟩
 by_cases hi:i<L.length
 .rw[ygv yjz] at e1;rw[ygv hi] at e2;exact (h5 i c s' x' e1 e2).keep hsz hk
 .have e0:i=L.length:=(by have:=(ygp.1 e2).1;simp at this;omega);subst e0;rw[ygx yjz] at e1;rw[ygx (ygo _)] at e2;simp[h2] at e1 e2;obtain⟨rfl,rfl⟩:=e2;subst e1;exact he.keep hsz hk
theorem MadeT.set (h:MadeT w B g N bs) (hl:bs.length<N) (b:Bool):MadeT (w.setCell ⟨g,bs.length,none⟩ (.bool b)) B g N (bs++[b]):=by
 obtain⟨ys,h1,h2⟩:=h;have s1:=(yhk h2 bs.length (.bool b)).1;rw[yjl _ _ yk3] at s1;simp only[yh8,yi3] at s1;cases ys with
 | nil=>simp at h1;omega
 | cons y ys =>
  simp only[List.set_cons_zero] at s1;refine⟨ys,by simp at h1 ⊢;omega,?_⟩
  simpa using s1
theorem MadeT.cell (h:MadeT w B g N bs) (hl:bs.length<N):∃ u,w.cell? ⟨g,bs.length,none⟩=some u∧w.frozen? ⟨g,bs.length,none⟩=false:=by
 obtain⟨ys,h1,h2⟩:=h;cases ys with
 | nil=>simp at h1;omega
 | cons y ys =>
  refine⟨y,?_,yhh h2 _⟩;rw[ygt h2 bs.length yjz,ygx yk3];simp
theorem zzg {b k:Nat} {cv:Array Value} (hn:b≠g):(Go.Proofs.Ytipfgpfplakhiaa.stoM w (.pointer (some ⟨g,k,none⟩)) (.agg cv)).heap[b]?=w.heap[b]?:=zee hn _ _ _
theorem zqv {a:World} {k:Nat} {cv:Array Value} (h:Below B a w) (hb:B<=g):Below B a (Go.Proofs.Ytipfgpfplakhiaa.stoM w (.pointer (some ⟨g,k,none⟩)) (.agg cv)):=zij hb _ _ _ h
theorem MadeT.off {k:Nat} {v:Array Value} {gn:Nat} (h:MadeT w B g N bs) (hn:g≠gn):MadeT (Go.Proofs.Ytipfgpfplakhiaa.stoM w (.pointer (some ⟨gn,k,none⟩)) (.agg v)) B g N bs:=by
 obtain⟨ys,h1,h2⟩:=h;exact⟨ys,h1,za7 h2 fun b e hb=>by injection e with e;subst e;exact zee hn _ _ _⟩
theorem MadeN.off {k gt:Nat} {v:Value} (h:MadeN w B g N L E) (hn:g≠gt) (hE:∀ b,E b->b≠gt):MadeN (w.setCell ⟨gt,k,none⟩ v) B g N L E:=by
 obtain⟨h1,cs,ys,h2,h3,h4,h5⟩:=h;have ho:∀ c,c≠gt->(w.setCell ⟨gt,k,none⟩ v).heap[c]?=w.heap[c]?:=fun c hc=>heap_setCell_other w ⟨gt,k,none⟩ c v hc
 have hsz:(w.setCell ⟨gt,k,none⟩ v).heap.size=w.heap.size:=yk3;refine⟨fun b e=>⟨by rw[hsz];exact (h1 b e).1,(h1 b e).2⟩,cs,ys,h2,h3,za7 h4 fun b e hb=>by injection e with e;subst e;exact ho _ hn,fun i c s x e1 e2=>(h5 i c s x e1 e2).keep (by rw[hsz];exact ygo _) fun b e=>ho b (hE b e)⟩
theorem MadeN.rd (h:MadeN w B g N L E) (hl:L.length=N):RdNfas w w.heap.size (some ⟨g,0,none⟩) L:=by
 obtain⟨h1,cs,ys,h2,h3,h4,h5⟩:=h;have hy:ys=[]:=yiw.1 yjz;subst hy hl;rw[yht] at h4;exact NfaRow.rd (ty:=79) ⟨fun b e=>⟨(h1 b e).1,fun e'=>by injection e' with e';exact (h1 b e).2 e'.symm⟩,cs,h2,h4,h5⟩ rfl
theorem MadeT.own (h:MadeT w B g N bs) (hl:bs.length=N):w.ownsRow B 4 1 (.slice (some ⟨g,0,none⟩) N N) N (bs.map Value.bool):=by
 obtain⟨ys,h1,h2⟩:=h;have hy:ys=[]:=yiw.1 yjz;subst hy;rw[yht] at h2;exact h2
end
end
structure zg1 (s:Lay) (x:Str):Prop where
 sets:s.sets.length<=256
 firstN:x.first.length<=256
 first:∀ p∈x.first,p<s.sets.length
 fol:∀ q p,p∈s.follow.getD q []->p<s.sets.length
 folN:∀ q,(s.follow.getD q []).length<=100000
theorem zx5 {t:T} (hwf:WF t) (h256:plR t<=256):zg1 (lay0 t).1 (lay0 t).2:=by
 have hsz:(lay0 t).1.sets.length=plR t:=yld;obtain⟨hl,hg⟩:=zft (xs:=[]) hwf;have hfo:∀ q p,p∈(lay0 t).1.follow.getD q []->p<(lay0 t).1.sets.length:=hl.lt;refine⟨by omega,?_,fun p hp=>(hg.first p hp).2,hfo,fun q=>?_⟩
 .have:=zg8 _ 0 _ hg.sf hg.first
  omega
 .by_cases hq:q<(lay0 t).1.sets.length
  .have:=zg8 _ 0 (lay0 t).1.sets.length (hg.st q (ygy _) hq) fun p hp=>⟨ygy _,hfo q p hp⟩
   omega
  .rw[ygq,yh6 (by rw[hl.len];omega)];simp
theorem zl9 {s:Lay} {x:Str} {base:Nat} {b:Bool} {p:Plc}:∀ k,p∈zc9 s x base b k->∃ j,j<k∧p=zmo s x base b j
 | 0,h=>by simp[zc9] at h
 | k+1,h=>by
  rw[zc9,yh7,yha] at h;rcases h with h|h
  .obtain⟨j,hj,e⟩:=zl9 k h;exact⟨j,by omega,e⟩
  .exact⟨k,by omega,h⟩
theorem zla {s:Lay} {x:Str} {base:Nat} {b:Bool}:∀ (k j:Nat),j<k->(zc9 s x base b k)[j]?=some (zmo s x base b j)
 | 0,j,h=>by omega
 | k+1,j,h=>by
  rw[zc9]
  by_cases hj:j<k
  .rw[ygv (by rw[zbl];exact hj)];exact zla k j hj
  .have:j=k:=by omega
   subst this;rw[ygx (by rw[zbl];exact ygo _),zbl,yi3];rfl
theorem zqk {L:List (Lay×Str)} (hL:∀ s x,(s,x)∈L->zg1 s x) {k:Nat} (hk:k<L.length):zg1 (L.getD k lx0).1 (L.getD k lx0).2:=by
 have hm:L.getD k lx0∈L:=(by rw[ygq,ygn hk];exact yhb _);exact hL _ _ hm
theorem zr4 {L:List (Lay×Str)} {bs:List Bool} (hL:∀ s x,(s,x)∈L->zg1 s x):∀ k,k<=L.length->∀ p∈togP L bs k,(∀ q∈p.fol,p.base+q<(togP L bs k).length)∧p.fol.length<=100000∧p.base<=k*256
 | 0,_=>fun p h=>by simp[togP] at h
 | k+1,hk=>fun p h=>by
  have hlen:=ziz L bs 256 (fun s x h=>(hL s x h).sets) k yjz;have ho:=zqk hL (k:=k) yjz;rw[togP,yh7] at h;rw[togP,ygu,zbl];have hm:k*256<=(k+1)*256:=yhv _ (Nat.le_succ _);rcases h with h|h
  .obtain⟨h1,h2,h3⟩:=zr4 hL k yjz p h;exact⟨fun q hq=>yh3 (h1 q hq) (Nat.le_add_right _ _),h2,ygw h3 hm⟩
  .obtain⟨j,hj,rfl⟩:=zl9 _ h;refine⟨fun q hq=>?_,ho.folN j,?_⟩
   .have h4:=ho.fol j q hq;exact Nat.add_lt_add_left h4 _
   .exact ygw hlen hm
theorem zmg {L:List (Lay×Str)} {bs:List Bool} (hL:∀ s x,(s,x)∈L->zg1 s x):∀ k,k<=L.length->∀ p∈togF L bs k,p<(togP L bs k).length
 | 0,_=>fun p h=>by simp[togF] at h
 | k+1,hk=>fun p h=>by
  have ho:=zqk hL (k:=k) yjz;rw[togF,yh7,yhx] at h;rw[togP,ygu,zbl];rcases h with h|⟨q,hq,rfl⟩
  .have:=zmg hL k yjz p h;omega
  .have:=ho.first q hq
   omega
theorem zji {L:List (Lay×Str)} {bs:List Bool} {lam:Nat} (hL:∀ s x,(s,x)∈L->zg1 s x) (hn:L.length<=64) (hlam:1<=lam∧lam<=32):zl2 ⟨togP L bs L.length,togF L bs L.length,lam⟩:=by
 have hP:=ziz L bs 256 (fun s x h=>(hL s x h).sets) L.length (ygo _);have hF:=zmh L bs 256 (fun s x h=>(hL s x h).firstN) L.length (ygo _);have hm:L.length*256<=64*256:=yhv _ hn;refine⟨hlam,by show (togP L bs L.length).length<=_;omega,zmg hL L.length (ygo _),by show (togF L bs L.length).length<=_;omega,fun i p hp=>?_⟩;obtain⟨h1,h2,h3⟩:=zr4 hL L.length (ygo _) p (yh1 hp);exact⟨h1,h2,by omega⟩
structure Wd where
 rule:Nat
 place:Nat
 age:Nat
theorem Wd.ext' {x y:Wd} (h1:x.rule=y.rule) (h2:x.place=y.place) (h3:x.age=y.age):x=y:=by
 cases x;cases y;simp at h1 h2 h3;simp[h1,h2,h3]
instance:DecidableEq Wd:=fun x y=>if h:x.rule=y.rule∧x.place=y.place∧x.age=y.age then .isTrue (Wd.ext' h.1 h.2.1 h.2.2) else .isFalse fun e=>h (by rw[e];exact⟨rfl,rfl,rfl⟩)
def zo0 (s t:List Wd):Bool:=decide (s.length=t.length∧∀ x∈s,x∈t)
def RdTr (w:World) (A:Option Addr) (L:List Bool):Prop:=∀ (i:Nat) x,L[i]?=some x->∃ b off,A=some ⟨b,off,none⟩∧b<w.heap.size∧w.cell? ⟨b,off+i,none⟩=some (.bool x)
def okWd (L:List (Lay×Str)) (bs:List Bool) (x:Wd):Prop:=∃ s t b,L[x.rule]?=some (s,t)∧bs[x.rule]?=some b∧x.place<s.sets.length∧x.age<=63
def zed (L:List (Lay×Str)) (bs:List Bool) (x:Wd) (o:Nat×Nat):Nat×Nat:=match L[x.rule]?,bs[x.rule]? with
 | some (_,t),some b=>if t.last.contains x.place=true then (if b=true then (o.1,o.2 ||| 2 ^ x.age) else (o.1 ||| 2 ^ x.age,o.2)) else o
 | _,_=>o
def zfl (L:List (Lay×Str)) (bs:List Bool):List Wd->Nat×Nat->Nat×Nat
 | [],o=>o
 | x::l,o=>zfl L bs l (zed L bs x o)
theorem zt8 (L:List (Lay×Str)) (bs:List Bool) (st:List Wd) (k:Nat) (x:Wd) (h:st[k]?=some x) (o:Nat×Nat):zfl L bs (st.drop k) o=zfl L bs (st.drop (k+1)) (zed L bs x o):=by
 obtain⟨hk,e⟩:=ygp.1 h;rw[yhc hk,zfl,e]
def zej (r:Nat) (s:Lay) (b:Nat) (l:List Nat):List Wd:=(l.filter fun p=>s.sets.getD p zaa b).map fun p=>⟨r,p,1⟩
theorem zqm (r:Nat) (s:Lay) (b:Nat) (l:List Nat) (k p:Nat) (h:l[k]?=some p):zej r s b (l.take (k+1))=zej r s b (l.take k)++(if s.sets.getD p zaa b=true then [⟨r,p,1⟩] else []):=by
 unfold zej;rw[yjp,h,Option.toList_some,yiu,yhl];cases hs:s.sets.getD p zaa b
 .rw[List.filter_cons_of_neg (by rw[hs];decide)];simp
 .rw[yj9 (by rw[hs])];simp
def fstN (L:List (Lay×Str)) (b:Nat):Nat->List Wd
 | 0=>[]
 | k+1=>fstN L b k++(match L[k]? with | some (s,x)=>zej k s b x.first | none=>[])
theorem zxu (L:List (Lay×Str)) (b:Nat) {k m:Nat} (h:k<=m):(fstN L b k).length<=(fstN L b m).length:=by
 induction m with
 | zero =>
  have:k=0:=by omega
  subst this;exact ygo _
 | succ m ih =>
  by_cases e:k=m+1
  .subst e;exact ygo _
  .exact ygw (ih yjz) (by rw[fstN,ygu];omega)
theorem zxt (L:List (Lay×Str)) (b k:Nat) (s:Lay) (x:Str) (h:L[k]?=some (s,x)) (q:Nat):(fstN L b k++zej k s b (x.first.take q)).length<=(fstN L b L.length).length:=by
 have h1:=(ygp.1 h).1;refine ygw ?_ (zxu L b (k:=k+1) h1);rw[fstN,h,ygu,ygu];have:(zej k s b (x.first.take q)).length<=(zej k s b x.first).length:=by
  unfold zej;rw[yh8,yh8];exact ((List.take_sublist q x.first).filter _).length_le
 simp only;omega
def zir (s:Lay) (b:Nat) (x:Wd) (q:Nat) (o:List Wd):List Wd:=if s.sets.getD q zaa b=true∧¬ (⟨x.rule,q,x.age+1⟩:Wd)∈o then o++[⟨x.rule,q,x.age+1⟩] else o
def ze6 (s:Lay) (b:Nat) (x:Wd):List Nat->List Wd->List Wd
 | [],o=>o
 | q::l,o=>ze6 s b x l (zir s b x q o)
def zen (L:List (Lay×Str)) (lam b:Nat) (x:Wd) (o:List Wd):List Wd:=match L[x.rule]? with
 | some (s,_)=>if x.age<lam then ze6 s b x (s.follow.getD x.place []) o else o
 | none=>o
def zfp (L:List (Lay×Str)) (lam b:Nat):List Wd->List Wd->List Wd
 | [],o=>o
 | x::st,o=>zfp L lam b st (zen L lam b x o)
theorem zp8 (s:Lay) (b:Nat) (x:Wd) (q:Nat) (o:List Wd):o.length<=(zir s b x q o).length:=by
 unfold zir
 by_cases h:s.sets.getD q zaa b=true∧¬ (⟨x.rule,q,x.age+1⟩:Wd)∈o
 .rw[if_pos h,ygu];omega
 .rw[if_neg h];exact ygo _
theorem zki (s:Lay) (b:Nat) (x:Wd):∀ (l:List Nat) (o:List Wd),o.length<=(ze6 s b x l o).length
 | [],o=>ygo _
 | q::l,o=>ygw (zp8 s b x q o) (zki s b x l _)
theorem zte (L:List (Lay×Str)) (lam b:Nat) (x:Wd) (o:List Wd):o.length<=(zen L lam b x o).length:=by
 unfold zen;rcases L[x.rule]? with _|⟨s,t⟩
 .exact ygo _
 .simp only
  by_cases h:x.age<lam
  .rw[if_pos h];exact zki _ _ _ _ _
  .rw[if_neg h];exact ygo _
theorem zml (L:List (Lay×Str)) (lam b:Nat):∀ (st o:List Wd),o.length<=(zfp L lam b st o).length
 | [],o=>ygo _
 | x::st,o=>ygw (zte L lam b x o) (zml L lam b st _)
theorem zqn (s:Lay) (b:Nat) (x:Wd) (l:List Nat) (k q:Nat) (h:l[k]?=some q) (o:List Wd):ze6 s b x (l.drop k) o=ze6 s b x (l.drop (k+1)) (zir s b x q o):=by
 obtain⟨hk,e⟩:=ygp.1 h;rw[yhc hk,ze6,e]
theorem ztd (L:List (Lay×Str)) (lam b:Nat) (st:List Wd) (k:Nat) (x:Wd) (h:st[k]?=some x) (o:List Wd):zfp L lam b (st.drop k) o=zfp L lam b (st.drop (k+1)) (zen L lam b x o):=by
 obtain⟨hk,e⟩:=ygp.1 h;rw[yhc hk,zfp,e]
def yg1 (L:List (Lay×Str)):Prop:=∀ (i:Nat) s x,L[i]?=some (s,x)->(∀ p∈x.first,p<s.sets.length)∧x.first.length<=100000∧∀ p,p<s.sets.length->(∀ q∈s.follow.getD p [],q<s.sets.length)∧(s.follow.getD p []).length<=100000
def OkSt (L:List (Lay×Str)) (st:List Wd):Prop:=∀ x∈st,∃ s t,L[x.rule]?=some (s,t)∧x.place<s.sets.length∧x.age<=63
section
open Go
def RR (L:List (Lay×Str)) (bs:List Bool) (lam:Nat):RSt:=⟨togP L bs L.length,togF L bs L.length,lam⟩
def zc3 (L:List (Lay×Str)) (bs:List Bool) (k:Nat):Nat:=(togP L bs k).length
def szOf (L:List (Lay×Str)) (k:Nat):Nat:=(L.getD k lx0).1.sets.length
theorem zku (L:List (Lay×Str)) (bs:List Bool) (k:Nat):zc3 L bs (k+1)=zc3 L bs k+szOf L k:=by
 unfold zc3 szOf;rw[togP,ygu,zbl]
theorem zps (L:List (Lay×Str)) (bs:List Bool) {a b:Nat} (h:a<=b):zc3 L bs a<=zc3 L bs b:=by
 induction b with
 | zero =>
  have:a=0:=by omega
  subst this;exact ygo _
 | succ b ih =>
  by_cases e:a=b+1
  .subst e;exact ygo _
  .have:=ih yjz;rw[zku];omega
def gpl (L:List (Lay×Str)) (bs:List Bool) (r p:Nat):Nat:=zc3 L bs r+p
theorem zhj {L:List (Lay×Str)} {bs:List Bool} {r p n:Nat} (hr:r<n) (hp:p<szOf L r):gpl L bs r p<zc3 L bs n:=by
 have h1:=zps L bs (a:=r+1) (b:=n) hr;rw[zku] at h1;unfold gpl;omega
theorem zkf {L:List (Lay×Str)} {bs:List Bool} {r p r' p':Nat} (hp:p<szOf L r) (hp':p'<szOf L r') (h:gpl L bs r p=gpl L bs r' p'):r=r'∧p=p':=by
 rcases yiz r r' with h1|h1|h1
 .have:=zhj (bs:=bs) h1 hp;unfold gpl at h this;omega
 .subst h1;unfold gpl at h;exact⟨rfl,by omega⟩
 .have:=zhj (bs:=bs) h1 hp';unfold gpl at h this;omega
theorem zxn (L:List (Lay×Str)) (bs:List Bool):∀ n q,q<zc3 L bs n->∃ r p,r<n∧p<szOf L r∧q=gpl L bs r p
 | 0,q,h=>by simp[zc3,togP] at h
 | n+1,q,h=>by
  by_cases e:q<zc3 L bs n
  .obtain⟨r,p,h1,h2,h3⟩:=zxn L bs n q e;exact⟨r,p,by omega,h2,h3⟩
  .rw[zku] at h;exact⟨n,q-zc3 L bs n,by omega,by omega,by unfold gpl;omega⟩
theorem zg5 {L:List (Lay×Str)} {bs:List Bool}:∀ (n r p:Nat),r<n->p<szOf L r->(togP L bs n)[gpl L bs r p]?=some (zmo (L.getD r lx0).1 (L.getD r lx0).2 (zc3 L bs r) (bs.getD r false) p)
 | 0,r,p,h,hp=>by omega
 | n+1,r,p,h,hp=>by
  rw[togP]
  by_cases e:r<n
  .rw[ygv (zhj e hp)];exact zg5 n r p e hp
  .have:r=n:=by omega
   subst this;rw[ygx (show (togP L bs r).length<=gpl L bs r p from Nat.le_add_right _ _)];have e2:gpl L bs r p-(togP L bs r).length=p:=(by unfold gpl zc3;omega);rw[e2];exact zla _ _ hp
theorem getD_some {L:List (Lay×Str)} {r:Nat} {s:Lay} {t:Str} (h:L[r]?=some (s,t)):L.getD r lx0=(s,t):=by rw[ygq,h];rfl
theorem zdz {L:List (Lay×Str)} {r:Nat} (h:r<L.length):L[r]?=some ((L.getD r lx0).1,(L.getD r lx0).2):=by rw[ygq,ygn h];rfl
theorem zr5 {L:List (Lay×Str)} {bs:List Bool} {q:Nat}:∀ n,q∈togF L bs n↔∃ r p,r<n∧p∈(L.getD r lx0).2.first∧q=gpl L bs r p
 | 0=>by simp[togF]
 | n+1=>by
  rw[togF,yh7,zr5 n,yhx];constructor
  .rintro (⟨r,p,h1,h2,h3⟩|⟨p,h1,h2⟩)
   .exact⟨r,p,by omega,h2,h3⟩
   .exact⟨n,p,by omega,h1,h2.symm⟩
  .rintro⟨r,p,h1,h2,h3⟩
   by_cases e:r<n
   .exact .inl ⟨r,p,e,h2,h3⟩
   .have:r=n:=by omega
    subst this;exact .inr ⟨p,h2,h3.symm⟩
def zfi (L:List (Lay×Str)) (bs:List Bool):List Wd->Nat->Nat
 | [],_=>0
 | x::s,q=>if gpl L bs x.rule x.place=q then zfi L bs s q ||| 2 ^ x.age else zfi L bs s q
theorem zd0 (L:List (Lay×Str)) (bs:List Bool) (q a:Nat):∀ s:List Wd,(zfi L bs s q).testBit a=true↔∃ x∈s,gpl L bs x.rule x.place=q∧x.age=a
 | []=>by simp[zfi]
 | x::s=>by
  have ih:=zd0 L bs q a s;unfold zfi
  by_cases e:gpl L bs x.rule x.place=q
  .rw[if_pos e,yjr,yju,ih,yja,decide_eq_true_iff];constructor
   .rintro (⟨y,hy,h⟩|h)
    .exact⟨y,yhi _ hy,h⟩
    .exact⟨x,yhr,e,h⟩
   .rintro⟨y,hy,h1,h2⟩;rcases yh4.1 hy with rfl|hy
    .exact .inr h2
    .exact .inl ⟨y,hy,h1,h2⟩
  .rw[if_neg e,ih];constructor
   .rintro⟨y,hy,h⟩;exact⟨y,yhi _ hy,h⟩
   .rintro⟨y,hy,h1,h2⟩;rcases yh4.1 hy with rfl|hy
    .exact absurd h1 e
    .exact⟨y,hy,h1,h2⟩
theorem zex {m n:Nat} (h:∀ a,m.testBit a=true↔n.testBit a=true):m=n:=yjq fun a=>by
 have:=h a;cases h1:m.testBit a <;> cases h2:n.testBit a <;> simp_all
theorem zqd {n:Nat} (h:n≠0):∃ a,n.testBit a=true:=by
 apply Classical.byContradiction;intro hc;apply h;apply zex;intro a;simp;cases e:n.testBit a
 .rfl
 .exact absurd ⟨a,e⟩ hc
theorem zks {n a:Nat} (h:n.testBit a=true):n≠0:=by rintro rfl;simp at h
theorem zdu (M:List Nat) (k:Nat) (x:Nat×Nat):x∈zc4 M k↔x.1<k∧x.2=M.getD x.1 0∧x.2≠0:=by
 unfold zc4;rw[List.mem_filterMap];constructor
 .rintro⟨p,hp,h⟩;have hp':=yho.1 hp
  by_cases e:M.getD p 0=0
  .rw[if_pos e] at h;cases h
  .rw[if_neg e] at h;injection h with h
   subst h;exact⟨hp',rfl,e⟩
 .rintro⟨h1,h2,h3⟩;refine⟨x.1,yho.2 h1,?_⟩;rw[if_neg (by rw[←h2];exact h3),←h2]
theorem zjt {M M':List Nat}:∀ {k:Nat} (h:∀ p,p<k->M.getD p 0=M'.getD p 0),zc4 M k=zc4 M' k
 | 0,h=>rfl
 | k+1,h=>by rw[ze0,ze0,zjt fun p hp=>h p yjz,h k yjz]
theorem zts {M M':List Nat} {k:Nat} (h:zc4 M k=zc4 M' k):∀ p,p<k->M.getD p 0=M'.getD p 0:=fun p hp=>by
 by_cases e:M.getD p 0=0
 .by_cases e':M'.getD p 0=0
  .rw[e,e']
  .have h1:((p,M'.getD p 0):Nat×Nat)∈zc4 M' k:=(zdu M' k _).2 ⟨hp,rfl,e'⟩;rw[←h] at h1;exact ((zdu M k _).1 h1).2.1.symm
 .have h1:((p,M.getD p 0):Nat×Nat)∈zc4 M k:=(zdu M k _).2 ⟨hp,rfl,e⟩;rw[h] at h1;exact ((zdu M' k _).1 h1).2.1
theorem zmt (M:List Nat) (f:Nat×Nat->Bool) (g:Nat->Bool) (hf:∀ p n,f (p,n)=g p):∀ k,(zc4 M k).filter f=zc4 ((List.range k).map fun p=>if g p=true then M.getD p 0 else 0) k:=fun k=>by
 have key:∀ j,j<=k->(zc4 M j).filter f=zc4 ((List.range k).map fun p=>if g p=true then M.getD p 0 else 0) j:=by
  intro j;induction j with
  | zero=>intro _;rfl
  | succ j ih =>
   intro hj;rw[ze0,ze0,yiu,ih yjz];have e:((List.range k).map fun p=>if g p=true then M.getD p 0 else 0).getD j 0=if g j=true then M.getD j 0 else 0:=by
    rw[ygq,yhj,yir yjz];rfl
   rw[e]
   congr 1
   obtain⟨v,hv⟩:∃ v,M.getD j 0=v:=⟨_,rfl⟩;have hfj:=hf j v;rw[hv]
   by_cases h0:v=0
   .subst h0;cases g j <;> simp
   .rw[if_neg h0];cases hg:g j
    .rw[hg] at hfj;simp[hfj]
    .rw[hg] at hfj;rw[if_pos rfl,if_neg h0,yj9 hfj];rfl
 exact key k (ygo _)
end
section
open Go
theorem zp6 (M:List Nat) (i v p:Nat):(M.set i v).getD p 0=if i=p∧i<M.length then v else M.getD p 0:=by
 rw[ygq,ygq,yim]
 by_cases e:i=p
 .subst e
  by_cases h:i<M.length
  .simp[h]
  .simp[h,yh6 (Nat.le_of_not_lt h)]
 .simp[e]
theorem zpz:∀ (ps M:List Nat) (p:Nat),(zg0 M ps).getD p 0=if p∈ps∧p<M.length then 2 else M.getD p 0
 | [],M,p=>by simp[zg0]
 | q::ps,M,p=>by
  rw[zg0,zpz ps,zp6,yjk]
  by_cases h1:p∈ps∧p<M.length
  .rw[if_pos h1,if_pos ⟨yhi _ h1.1,h1.2⟩]
  .rw[if_neg h1]
   by_cases h2:q=p∧q<M.length
   .obtain⟨rfl,h3⟩:=h2;rw[if_pos ⟨rfl,h3⟩,if_pos ⟨yhr,h3⟩]
   .rw[if_neg h2,if_neg];rintro⟨h3,h4⟩;rcases yh4.1 h3 with rfl|h3
    .exact h2 ⟨rfl,h4⟩
    .exact h1 ⟨h3,h4⟩
theorem zm8 (base n p a:Nat):∀ (qs M:List Nat),((ze5 M base n qs).getD p 0).testBit a=true↔(M.getD p 0).testBit a=true∨(p<M.length∧(∃ q∈qs,base+q=p)∧n.testBit a=true)
 | [],M=>by simp[ze5]
 | q::qs,M=>by
  rw[ze5,zm8 base n p a qs,zkw];unfold addTo;rw[zp6]
  by_cases h:base+q=p∧base+q<M.length
  .rw[if_pos h];obtain⟨rfl,h2⟩:=h;rw[yjr,yju];constructor
   .rintro ((h|h)|⟨h1,⟨q',h3,h4⟩,h5⟩)
    .exact .inl h
    .exact .inr ⟨h2,⟨q,yhr,rfl⟩,h⟩
    .exact .inr ⟨h1,⟨q',yhi _ h3,h4⟩,h5⟩
   .rintro (h|⟨h1,h3,h5⟩)
    .exact .inl (.inl h)
    .exact .inl (.inr h5)
  .rw[if_neg h];constructor
   .rintro (h|⟨h1,⟨q',h3,h4⟩,h5⟩)
    .exact .inl h
    .exact .inr ⟨h1,⟨q',yhi _ h3,h4⟩,h5⟩
   .rintro (h' | ⟨h1,⟨q',h3,h4⟩,h5⟩)
    .exact .inl h'
    .rcases yh4.1 h3 with rfl|h3
     .exact absurd ⟨h4,h4▸h1⟩ h
     .exact .inr ⟨h1,⟨q',h3,h4⟩,h5⟩
theorem zm5 (R:RSt) (p a:Nat):∀ (st:List (Nat×Nat)) (M:List Nat),((zhw R M st).getD p 0).testBit a=true↔(M.getD p 0).testBit a=true∨(p<M.length∧∃ x∈st,∃ pl,R.places[x.1]?=some pl∧(∃ q∈pl.fol,pl.base+q=p)∧(lon R.lam x.2).testBit a=true)
 | [],M=>by simp[zhw]
 | x::st,M=>by
  rw[zhw,zm5 R p a st];cases e:R.places[x.1]? with
  | none =>
   simp only;constructor
   .rintro (h|⟨h1,y,hy,h⟩)
    .exact .inl h
    .exact .inr ⟨h1,y,yhi _ hy,h⟩
   .rintro (h|⟨h1,y,hy,pl,h2,h3⟩)
    .exact .inl h
    .rcases yh4.1 hy with rfl|hy
     .rw[e] at h2;cases h2
     .exact .inr ⟨h1,y,hy,pl,h2,h3⟩
  | some pl =>
   simp only;rw[zk3,zm8];constructor
   .rintro ((h|⟨h1,h2,h3⟩)|⟨h1,y,hy,h⟩)
    .exact .inl h
    .exact .inr ⟨h1,x,yhr,pl,e,h2,h3⟩
    .exact .inr ⟨h1,y,yhi _ hy,h⟩
   .rintro (h|⟨h1,y,hy,pl',h2,h3⟩)
    .exact .inl (.inl h)
    .rcases yh4.1 hy with rfl|hy
     .rw[e] at h2;injection h2 with h2
      subst h2;exact .inl (.inr ⟨h1,h3⟩)
     .exact .inr ⟨h1,y,hy,pl',h2,h3⟩
theorem zwx (lam x a:Nat):(lon lam x).testBit a=true↔1<=a∧a-1<lam∧x.testBit (a-1)=true:=by
 unfold lon;cases a with
 | zero=>simp
 | succ a =>
  have e:(x % 2 ^ lam*2).testBit (a+1)=(x % 2 ^ lam).testBit a:=by
   rw[Nat.testBit_succ]
   congr 1
   omega
  rw[e,Nat.testBit_mod_two_pow];simp
theorem zpy (R:RSt) (st:List (Nat×Nat)) (hV:∀ p∈R.first,p<R.places.length) (p a:Nat) (hp:p<R.places.length):((zsw R st).getD p 0).testBit a=true↔(p∈R.first∧a=1)∨∃ x∈st,∃ pl,R.places[x.1]?=some pl∧(∃ q∈pl.fol,pl.base+q=p)∧1<=a∧a-1<R.lam∧x.2.testBit (a-1)=true:=by
 unfold zsw;rw[zm5,zm6,yhp,zpz,yhp];have h0:(List.replicate R.places.length 0).getD p 0=0:=by
  rw[ygq,yip];split <;> rfl
 rw[h0];have h2:((if p∈R.first∧p<R.places.length then 2 else 0:Nat).testBit a=true)↔(p∈R.first∧a=1):=by
  by_cases h:p∈R.first
  .rw[if_pos ⟨h,hp⟩,show (2:Nat)=2 ^ 1 from rfl,yja,decide_eq_true_iff];exact⟨fun e=>⟨h,e.symm⟩,fun e=>e.2.symm⟩
  .rw[if_neg fun e=>h e.1];simp[h]
 rw[h2];constructor
 .rintro (h|⟨_,x,hx,pl,h3,h4,h5⟩)
  .exact .inl h
  .exact .inr ⟨x,hx,pl,h3,h4,(zwx _ _ _).1 h5⟩
 .rintro (h|⟨x,hx,pl,h3,h4,h5⟩)
  .exact .inl h
  .exact .inr ⟨hp,x,hx,pl,h3,h4,(zwx _ _ _).2 h5⟩
theorem zls (s:Lay) (b:Nat) (x y:Wd):∀ (l:List Nat) (o:List Wd),y∈ze6 s b x l o↔y∈o∨∃ q∈l,s.sets.getD q zaa b=true∧y=⟨x.rule,q,x.age+1⟩
 | [],o=>by simp[ze6]
 | q::l,o=>by
  rw[ze6,zls s b x y l];unfold zir
  by_cases h:s.sets.getD q zaa b=true∧¬ (⟨x.rule,q,x.age+1⟩:Wd)∈o
  .rw[if_pos h,yh7,yha];constructor
   .rintro ((h1|h1)|⟨q',h2,h3⟩)
    .exact .inl h1
    .exact .inr ⟨q,yhr,h.1,h1⟩
    .exact .inr ⟨q',yhi _ h2,h3⟩
   .rintro (h1|⟨q',h2,h3,h4⟩)
    .exact .inl (.inl h1)
    .rcases yh4.1 h2 with rfl|h2
     .exact .inl (.inr h4)
     .exact .inr ⟨q',h2,h3,h4⟩
  .rw[if_neg h];constructor
   .rintro (h1|⟨q',h2,h3⟩)
    .exact .inl h1
    .exact .inr ⟨q',yhi _ h2,h3⟩
   .rintro (h1|⟨q',h2,h3,h4⟩)
    .exact .inl h1
    .rcases yh4.1 h2 with rfl|h2
     .refine .inl ?_;apply Classical.byContradiction;intro hn;exact h ⟨h3,by rw[←h4];exact hn⟩
     .exact .inr ⟨q',h2,h3,h4⟩
theorem zq3 (L:List (Lay×Str)) (lam b:Nat) (x y:Wd) (o:List Wd):y∈zen L lam b x o↔y∈o∨(x.rule<L.length∧x.age<lam∧∃ q∈(L.getD x.rule lx0).1.follow.getD x.place [],(L.getD x.rule lx0).1.sets.getD q zaa b=true∧y=⟨x.rule,q,x.age+1⟩):=by
 unfold zen
 by_cases hr:x.rule<L.length
 .rw[zdz hr];simp only
  by_cases ha:x.age<lam
  .rw[if_pos ha,zls];simp[hr,ha]
  .rw[if_neg ha];simp[ha]
 .rw[yh6 yjz];simp[hr]
theorem znx (L:List (Lay×Str)) (lam b:Nat) (y:Wd):∀ (st o:List Wd),y∈zfp L lam b st o↔y∈o∨∃ x∈st,x.rule<L.length∧x.age<lam∧∃ q∈(L.getD x.rule lx0).1.follow.getD x.place [],(L.getD x.rule lx0).1.sets.getD q zaa b=true∧y=⟨x.rule,q,x.age+1⟩
 | [],o=>by simp[zfp]
 | x::st,o=>by
  rw[zfp,znx L lam b y st,zq3];constructor
  .rintro ((h|h)|⟨z,hz,h⟩)
   .exact .inl h
   .exact .inr ⟨x,yhr,h⟩
   .exact .inr ⟨z,yhi _ hz,h⟩
  .rintro (h|⟨z,hz,h⟩)
   .exact .inl (.inl h)
   .rcases yh4.1 hz with rfl|hz
    .exact .inl (.inr h)
    .exact .inr ⟨z,hz,h⟩
theorem zql (L:List (Lay×Str)) (b:Nat) (y:Wd):∀ k,k<=L.length->(y∈fstN L b k↔y.rule<k∧y.age=1∧y.place∈(L.getD y.rule lx0).2.first∧(L.getD y.rule lx0).1.sets.getD y.place zaa b=true)
 | 0,h=>by simp[fstN]
 | k+1,h=>by
  rw[fstN,yh7,zql L b y k yjz,zdz (r:=k) yjz];simp only;unfold zej;rw[yhx];constructor
  .rintro (⟨h1,h2⟩|⟨p,hp,rfl⟩)
   .exact⟨by omega,h2⟩
   .rw[List.mem_filter] at hp;exact⟨by simp,rfl,hp.1,hp.2⟩
  .rintro⟨h1,h2,h3,h4⟩
   by_cases e:y.rule<k
   .exact .inl ⟨e,h2,h3,h4⟩
   .have e':y.rule=k:=yjz;refine .inr ⟨y.place,List.mem_filter.2 ⟨by rw[←e'];exact h3,by rw[←e'];exact h4⟩,?_⟩;cases y;simp at e' h2;simp[e',h2]
def zjl (L:List (Lay×Str)) (lam b:Nat) (s:List Wd):List Wd:=zfp L lam b s (fstN L b L.length)
theorem zes (L:List (Lay×Str)) (lam b:Nat) (s:List Wd) (y:Wd):y∈zjl L lam b s↔y.rule<L.length∧(L.getD y.rule lx0).1.sets.getD y.place zaa b=true∧((y.age=1∧y.place∈(L.getD y.rule lx0).2.first)∨∃ x∈s,x.rule=y.rule∧x.age<lam∧y.age=x.age+1∧y.place∈(L.getD y.rule lx0).1.follow.getD x.place []):=by
 unfold zjl;rw[znx,zql L b y _ (ygo _)];constructor
 .rintro (⟨h1,h2,h3,h4⟩|⟨x,hx,h1,h2,q,h3,h4,rfl⟩)
  .exact⟨h1,h4,.inl ⟨h2,h3⟩⟩
  .exact⟨h1,h4,.inr ⟨x,hx,rfl,h2,rfl,h3⟩⟩
 .rintro⟨h1,h2,(⟨h3,h4⟩|⟨x,hx,h3,h4,h5,h6⟩)⟩
  .exact .inl ⟨h1,h3,h4,h2⟩
  .refine .inr ⟨x,hx,by omega,h4,y.place,by rw[h3];exact h6,by rw[h3];exact h2,?_⟩;cases y;simp at h3 h5;simp[h3,h5]
end
section
open Go
def canon (L:List (Lay×Str)) (bs:List Bool) (s:List Wd):List (Nat×Nat):=zc4 ((List.range (zc3 L bs L.length)).map (zfi L bs s)) (zc3 L bs L.length)
def OkD (L:List (Lay×Str)) (s:List Wd):Prop:=∀ x∈s,x.rule<L.length∧x.place<szOf L x.rule
theorem zdg (f:Nat->Nat) (n p:Nat) (h:p<n):((List.range n).map f).getD p 0=f p:=by
 rw[ygq,yhj,yir h];rfl
theorem zfy (L:List (Lay×Str)) (bs:List Bool) (s:List Wd) (p n:Nat):(p,n)∈canon L bs s↔p<zc3 L bs L.length∧n=zfi L bs s p∧n≠0:=by
 unfold canon;rw[zdu];constructor
 .rintro⟨h1,h2,h3⟩;simp only at h1 h2 h3;rw[zdg _ _ _ h1] at h2;exact⟨h1,h2,h3⟩
 .rintro⟨h1,h2,h3⟩;exact⟨h1,by rw[zdg _ _ _ h1];exact h2,h3⟩
theorem zwd {L:List (Lay×Str)} (hL:∀ s x,(s,x)∈L->zg1 s x) {r:Nat} (h:r<L.length):zg1 (L.getD r lx0).1 (L.getD r lx0).2:=zqk hL h
theorem zr8 {L:List (Lay×Str)} (hL:∀ s x,(s,x)∈L->zg1 s x) (lam b:Nat) (s:List Wd):OkD L (zjl L lam b s):=fun y hy=>by
 obtain⟨h1,h2,h3⟩:=(zes L lam b s y).1 hy;have ho:=zwd hL h1;refine⟨h1,?_⟩;rcases h3 with ⟨_,h3⟩|⟨x,_,_,_,_,h3⟩
 .exact ho.first _ h3
 .exact ho.fol _ _ h3
theorem zva {L:List (Lay×Str)} {lam:Nat} (hlam:1<=lam) (b:Nat) (s:List Wd):∀ y∈zjl L lam b s,1<=y.age∧y.age<=lam:=fun y hy=>by
 obtain⟨h1,h2,h3⟩:=(zes L lam b s y).1 hy;rcases h3 with ⟨h3,_⟩|⟨x,_,_,h4,h5,_⟩ <;> omega
theorem zui {L:List (Lay×Str)} {bs:List Bool} {lam:Nat} (hL:∀ s x,(s,x)∈L->zg1 s x) (b:Nat) {s:List Wd} (hs:OkD L s):
 (zfk (RR L bs lam) (canon L bs s)).filter (zgu (RR L bs lam) b)=canon L bs (zjl L lam b s):=by
 have hP:(RR L bs lam).places.length=zc3 L bs L.length:=rfl;unfold zfk;rw[zmt _ _ (fun p=>match (RR L bs lam).places[p]? with | some pl=>pl.set b | none=>false) fun p n=>rfl,hP]
 show _=zc4 _ _
 refine zjt fun p hp=>?_
 rw[zdg _ _ _ hp,zdg _ _ _ hp];obtain⟨r,q,hr,hq,rfl⟩:=zxn L bs _ p hp;have hpl:(RR L bs lam).places[gpl L bs r q]?=some (zmo (L.getD r lx0).1 (L.getD r lx0).2 (zc3 L bs r) (bs.getD r false) q):=zg5 _ r q hr hq;rw[hpl]
 show (if (L.getD r lx0).1.sets.getD q zaa b=true then _ else 0)=_
 have hy:∀ y,y∈zjl L lam b s->gpl L bs y.rule y.place=gpl L bs r q->y.rule=r∧y.place=q:=fun y hy e=>zkf (zr8 hL lam b s y hy).2 hq e
 apply zex;intro a;rw[zd0]
 by_cases hb:(L.getD r lx0).1.sets.getD q zaa b=true
 .rw[if_pos hb,zpy _ _ (zmg hL _ (ygo _)) _ _ hp];have hfst:gpl L bs r q∈(RR L bs lam).first↔q∈(L.getD r lx0).2.first:=by
   show gpl L bs r q∈togF L bs L.length↔_
   rw[zr5];constructor
   .rintro⟨r',p',h1,h2,h3⟩;obtain⟨rfl,rfl⟩:=zkf hq ((zwd hL h1).first _ h2) h3;exact h2
   .intro h;exact⟨r,q,hr,h,rfl⟩
  rw[hfst];constructor
  .rintro (⟨h1,h2⟩|⟨⟨p',n⟩,hx,pl,h2,⟨f,h3,h4⟩,h5,h6,h7⟩)
   .exact⟨⟨r,q,1⟩,(zes _ _ _ _ _).2 ⟨hr,hb,.inl ⟨rfl,h1⟩⟩,rfl,h2.symm⟩
   .obtain⟨h8,rfl,_⟩:=(zfy L bs s p' n).1 hx;obtain⟨x,hxs,rfl,h10⟩:=(zd0 L bs _ _ _).1 h7;obtain⟨h11,h12⟩:=hs x hxs;have hpx:(RR L bs lam).places[gpl L bs x.rule x.place]?=some (zmo (L.getD x.rule lx0).1 (L.getD x.rule lx0).2 (zc3 L bs x.rule) (bs.getD x.rule false) x.place):=zg5 _ _ _ h11 h12;rw[hpx] at h2;injection h2 with h2
    subst h2;have h3':f∈(L.getD x.rule lx0).1.follow.getD x.place []:=h3;have h4':gpl L bs x.rule f=gpl L bs r q:=h4;obtain⟨e1,e2⟩:=zkf ((zwd hL h11).fol _ _ h3') hq h4';subst e1 e2;have h6':a-1<lam:=h6;exact⟨⟨x.rule,f,a⟩,(zes _ _ _ _ _).2 ⟨hr,hb,.inr ⟨x,hxs,rfl,by omega,by simp only;omega,h3'⟩⟩,rfl,rfl⟩
  .rintro⟨y,hys,he,rfl⟩;obtain⟨e1,e2⟩:=hy y hys he;obtain⟨h1,h2,h3⟩:=(zes L lam b s y).1 hys;subst e1 e2;rcases h3 with ⟨h3,h4⟩|⟨x,hxs,h4,h5,h6,h7⟩
   .exact .inl ⟨h4,h3⟩
   .obtain⟨h11,h12⟩:=hs x hxs;have hbit:(zfi L bs s (gpl L bs x.rule x.place)).testBit (y.age-1)=true:=(zd0 L bs _ _ _).2 ⟨x,hxs,rfl,by omega⟩;refine .inr ⟨(gpl L bs x.rule x.place,zfi L bs s (gpl L bs x.rule x.place)),(zfy L bs s _ _).2 ⟨zhj h11 h12,rfl,zks hbit⟩,_,zg5 _ _ _ h11 h12,⟨y.place,?_,?_⟩,by omega,?_,hbit⟩
    .show y.place∈(L.getD x.rule lx0).1.follow.getD x.place []
     rw[h4];exact h7
    .show gpl L bs x.rule y.place=gpl L bs y.rule y.place
     rw[h4]
    .show y.age-1<lam
     omega
 .rw[if_neg hb];simp only[Nat.zero_testBit,yi0,false_iff];rintro⟨y,hys,he,rfl⟩;obtain⟨e1,e2⟩:=hy y hys he;subst e1 e2;exact hb ((zes L lam b s y).1 hys).2.1
theorem ybv {L:List (Lay×Str)} {bs:List Bool} {s t:List Wd} (hs:OkD L s) (ht:OkD L t):canon L bs s=canon L bs t↔∀ x,x∈s↔x∈t:=by
 constructor
 .intro h;have key:∀ (s t:List Wd),OkD L s->OkD L t->canon L bs s=canon L bs t->∀ x,x∈s->x∈t:=fun s t hs ht h x hx=>by
   obtain⟨h1,h2⟩:=hs x hx;have h3:=zts h _ (zhj h1 h2);rw[zdg _ _ _ (zhj h1 h2),zdg _ _ _ (zhj h1 h2)] at h3;have h4:(zfi L bs s (gpl L bs x.rule x.place)).testBit x.age=true:=(zd0 L bs _ _ _).2 ⟨x,hx,rfl,rfl⟩;rw[h3] at h4;obtain⟨y,hy,e1,e2⟩:=(zd0 L bs _ _ _).1 h4;obtain⟨e3,e4⟩:=zkf (ht y hy).2 h2 e1;have:y=x:=Wd.ext' e3 e4 e2;exact this▸hy
  exact fun x=>⟨key s t hs ht h x,key t s ht hs h.symm x⟩
 .intro h;refine zjt fun p hp=>?_
  rw[zdg _ _ _ hp,zdg _ _ _ hp];apply zex;intro a;rw[zd0,zd0];exact⟨fun ⟨x,h1,h2⟩=>⟨x,(h x).1 h1,h2⟩,fun ⟨x,h1,h2⟩=>⟨x,(h x).2 h1,h2⟩⟩
theorem zcv {α:Type} [DecidableEq α]:∀ (s t:List α),s.Nodup->(∀ x∈s,x∈t)->s.length<=t.length
 | [],t,_,_=>ygy _
 | x::s,t,hn,h=>by
  rw[yih] at hn;have hx:=h x yhr;have ih:=zcv s (t.erase x) hn.2 fun y hy=>by
   have hne:y≠x:=fun e=>hn.1 (e▸hy)
   exact (List.mem_erase_of_ne hne).2 (h y (yhi _ hy))
  have:=List.length_erase_of_mem hx;have hp:0<t.length:=List.length_pos_of_mem hx;simp only[yi8];omega
theorem ztm {L:List (Lay×Str)} {bs:List Bool} {s t:List Wd} (hs:OkD L s) (ht:OkD L t) (ns:s.Nodup) (nt:t.Nodup):zo0 s t=decide (canon L bs s=canon L bs t):=by
 unfold zo0;rw[decide_eq_decide,ybv hs ht];constructor
 .rintro⟨h1,h2⟩ x;refine⟨h2 x,fun hx=>?_⟩;apply Classical.byContradiction;intro hn;have:=zcv (x::s) t (yih.2 ⟨hn,ns⟩) fun y hy=>by
   rcases yh4.1 hy with rfl|hy
   .exact hx
   .exact h2 y hy
  simp only[yi8] at this;omega
 .intro h;exact⟨Nat.le_antisymm (zcv s t ns fun x hx=>(h x).1 hx) (zcv t s nt fun x hx=>(h x).2 hx),fun x hx=>(h x).1 hx⟩
end
theorem NfaIn.wider {w:World} {B B' gm:Nat} {vs v1 vf:Value} {s:Lay} {x:Str} (h:NfaIn w B vs v1 gm vf s x) (hB:B<=B'):NfaIn w B' vs v1 gm vf s x where
 sets:=fun p hp=>by obtain⟨g,c,e,hg,hc⟩:=h.sets p hp;exact⟨g,c,e,by omega,hc⟩
 first:=h.first
 firstB:=fun b e=>by have:=h.firstB b e;omega
 last:=h.last
 lastB:=by have:=h.lastB;omega
 fols:=fun p hp=>by obtain⟨g,c,v,e,hg,hc,hi,hv⟩:=h.fols p hp;exact⟨g,c,v,e,by omega,hc,hi,fun b e=>by have:=hv b e;omega⟩
theorem RdNfas.stays {w w':World} {A:Option Addr} {L:List (Lay×Str)} (h:RdNfas w w.heap.size A L) (hb:Below w.heap.size w w'):RdNfas w' w'.heap.size A L:=fun i s x e=>by
 obtain⟨g,off,A1,m1,c1,A2,m2,c2,gm,A3,m3,c3,h1,h2,h3,h4,h5,h6,h7⟩:=(h.below hb) i s x e;exact⟨g,off,A1,m1,c1,A2,m2,c2,gm,A3,m3,c3,h1,yh3 h2 hb.size,h3,h4,h5,h6,h7.wider hb.size⟩
def wdC (x:Wd):List Value:=[.int .i64 (x.rule:Int),.int .i64 (x.place:Int),.int .i64 (x.age:Int)]
def wdV (x:Wd):Value := .agg #[.int .i64 (x.rule:Int),.int .i64 (x.place:Int),.int .i64 (x.age:Int)]
def wdL (l:List Wd):List Value:=l.flatMap wdC
theorem ycx (l m:List Wd):wdL (l++m)=wdL l++wdL m:=by simp[wdL]
theorem zv0:∀ (l:List Wd) (i q:Nat) (x:Wd),l[i]?=some x->q<3->(wdL l)[i*3+q]?=(wdC x)[q]?
 | [],i,q,x,h,hq=>by simp at h
 | y::l,0,q,x,h,hq=>by
  simp at h;subst h;unfold wdL;rw[yjo,ygv (by show _<3;omega)];simp
 | y::l,i+1,q,x,h,hq=>by
  have ih:=zv0 l i q x ykc hq;unfold wdL at ih ⊢;rw[yjo,ygx (by show 3<=_;omega),show (i+1)*3+q-(wdC y).length=i*3+q from by show (i+1)*3+q-3=_;omega];exact ih
def RdW (w:World) (A:Option Addr) (l:List Wd):Prop:=
 ∀ (i:Nat) (x:Wd),l[i]?=some x->∃ g off,A=some ⟨g,off,none⟩∧g<w.heap.size∧w.cell? ⟨g,off+i*3,none⟩=some (.int .i64 (x.rule:Int))∧w.cell? ⟨g,off+i*3+1,none⟩=some (.int .i64 (x.place:Int))∧w.cell? ⟨g,off+i*3+2,none⟩=some (.int .i64 (x.age:Int))
theorem RdW.stays {w w':World} {A:Option Addr} {l:List Wd} (h:RdW w A l) (hb:Below w.heap.size w w'):RdW w' A l:=fun i x hi=>by
 obtain⟨g,off,e,hg,h0,h1,h2⟩:=h i x hi;exact⟨g,off,e,yh3 hg hb.size,za3 h0 hb,za3 h1 hb,za3 h2 hb⟩
theorem RdW.of_row {w:World} {B n cap:Nat} {A:Option Addr} {l:List Wd} (h:w.ownsRow B 121 3 (.slice A n cap) n (wdL l)) (hn:n=l.length):RdW w A l:=fun i x hi=>by
 have hl:i<l.length:=(ygp.1 hi).1;rcases h.2 with ⟨_,h0⟩|⟨g,cap',cur,e,hB,hg,_⟩
 .omega
 .injection e with e1 e2 e3
  subst e1;have hc:=fun q (hq:q<3)=>(ygt h (i*3+q) yjz).trans (zv0 l i q x hi hq)
  refine⟨g,0,rfl,za1 hg,?_,?_,?_⟩
  .have:=hc 0 yjz;simpa [wdC] using this
  .have:=hc 1 yjz;simpa [wdC] using this
  .have:=hc 2 yjz;simpa [wdC] using this
theorem yg6 (a0 a1 a2 b0 b1 b2:Int) (w:World):
 (Op.equalIn 10000 121 (.agg #[.int .i64 a0,.int .i64 a1,.int .i64 a2]) (.agg #[.int .i64 b0,.int .i64 b1,.int .i64 b2])).run Try.prog w = .ok (a0==b0&&(a1==b1&&a2==b2)) w:=by
 have p0:∀ (c0 c1 c2:Int) (w:World),(part 3 #[.int .i64 c0,.int .i64 c1,.int .i64 c2] 0).run Try.prog w = .ok (.int .i64 c0) w:=fun _ _ _ _=>by kernel_rfl
 have p1:∀ (c0 c1 c2:Int) (w:World),(part 3 #[.int .i64 c0,.int .i64 c1,.int .i64 c2] 1).run Try.prog w = .ok (.int .i64 c1) w:=fun _ _ _ _=>by kernel_rfl
 have p2:∀ (c0 c1 c2:Int) (w:World),(part 3 #[.int .i64 c0,.int .i64 c1,.int .i64 c2] 2).run Try.prog w = .ok (.int .i64 c2) w:=fun _ _ _ _=>by kernel_rfl
 have pe:∀ (a b:Int) (w:World),(Op.equalIn 9999 3 (.int .i64 a) (.int .i64 b)).run Try.prog w = .ok (a==b) w:=fun a b w=>run_equalIn_int (P:=Try.prog) w 9998 3 .i64 .i64 a b Try.underlying3
 rw[show (10000:Nat)=9999+1 from rfl,run_equalIn_struct w 9999 _ _ _ yk2 yk2];simp only[Program.fieldsOf,Try.underlying121];simp only[Op.eqFields,Sem.run_bind,p0,p1,p2,pe,Result.andThen_ok];cases h0:a0==b0 <;> cases h1:a1==b1 <;> cases h2:a2==b2 <;> simp[Op.eqFields,p0,p1,p2,pe,go_sem,h0,h1,h2]
theorem ygf (w:World) (n:Nat) (hn:n<=63):Calls Try.prog 49 #[.int .i64 (n:Int)] w fun e w'=>e = .returned (.int .u64 (2 ^ n))∧w=w':=by
 go_enter Try.func49,Try.ntmps49;go_wp2;go_loopg [3,4] n (fun mm v i wr=>∃ k:Nat,i = .int .i64 (k:Int)∧k<=n∧mm=n-k∧v = .int .u64 (2 ^ k)∧wr=w)
 case atStart=>exact⟨0,by first | rfl | trivial,ygy _,by first | rfl | trivial,by first | rfl | trivial,rfl⟩
 case round =>
  obtain⟨k,rfl,hk,hmk,rfl,hww⟩:=hrel;obtain rfl:=hww.symm;have HMK:=Zh hmk;clear hmk
  by_cases hkn:k<n
  .have hp:(2:Int)*2 ^ k<=18446744073709551615:=by
    have h1:(2:Nat) ^ (k+1)<=2 ^ 63:=yig yjz yjz;have h2:(2:Nat) ^ 63=9223372036854775808:=yk6;have h3:((2:Int)*2 ^ k)=((2 ^ (k+1):Nat):Int):=(by rw[Nat.pow_succ];push_cast;omega);rw[h3];omega
   have hq:(0:Int)<2 ^ k:=Int.pow_pos yk6;have hst:(2:Int)*2 ^ k=2 ^ (k+1):=(by rw[Int.pow_succ];omega);obtain⟨v,hv⟩:∃ v:Int,(2:Int) ^ k=v:=⟨_,rfl⟩;rw[hv] at hp hq hst ⊢;have HST:=Zh hst;clear hst hv;go_wp2;go_roundg (n-(k+1))
   case measure=>have:=HMK.o;omega
   case rel=>exact⟨k+1,by go_num,by omega,rfl,by rw[←HST.o];try rfl,rfl⟩
  .have hkl:k=n:=yjz;subst hkl;go_wp2;go_ret;exact⟨rfl,rfl⟩
theorem zxm {w:World} {A:Option Addr} {c:Nat} {l:List Wd} (x:Wd) (hl:RdW w A l) (hlen:l.length<=100000):
 Calls Try.prog 48 #[.slice A l.length c,wdV x] w fun e w'=>e = .returned (.bool (decide (x∈l)))∧Below w.heap.size w w':=by
 obtain⟨N,hN⟩:∃ N,l.length=N:=⟨_,rfl⟩;rw[hN] at hlen ⊢;have HN:=Zh hN;have HL:=Zh hl;obtain⟨r,p,a⟩:=x;unfold wdV;simp only;have hb0:Below w.heap.size w (w.alloc (.cells #[.int .i64 (r:Int),.int .i64 (p:Int),.int .i64 (a:Int)] 121)):=(ygr _ _).alloc (ygo _) _;have hbx:=(heap_alloc_new w (.cells #[.int .i64 (r:Int),.int .i64 (p:Int),.int .i64 (a:Int)] 121));have HB:=Zh hb0;have HX:=Zh hbx;clear hN hl hb0 hbx;go_enter Try.func48,Try.ntmps48;go_wp2;go_loopg [5] N (fun mm i wr=>∃ k:Nat,i = .int .i64 (k:Int)∧k<=N∧mm=N-k∧(∀ j,j<k->l[j]?≠some ⟨r,p,a⟩)∧Below w.heap.size w wr∧wr.heap[w.heap.size]?=some (.cells #[.int .i64 (r:Int),.int .i64 (p:Int),.int .i64 (a:Int)] 121 (0,0)))
 case atStart=>exact⟨0,by first | rfl | trivial,ygy _,by first | rfl | trivial,fun j hj=>by omega,HB.o,HX.o⟩
 case round =>
  obtain⟨k,rfl,hk,hmk,hno,hb,hbx⟩:=hrel;have HMK:=Zh hmk;have HNO:=Zh hno;have HB1:=Zh hb;have HX1:=Zh hbx;clear hmk hno
  by_cases hkN:k<N
  .obtain⟨y,hy⟩:∃ y,l[k]?=some y:=⟨_,ygn yky⟩;obtain⟨g,off,rfl,hg,z0,z1,z2⟩:=(HL.o.stays hb) k y hy;have u0:wr.cell? ⟨w.heap.size,0,none⟩=some (.int .i64 (r:Int)):=cell_of_row wr w.heap.size 0 _ _ (0,0) hbx;have u1:wr.cell? ⟨w.heap.size,1,none⟩=some (.int .i64 (p:Int)):=cell_of_row wr w.heap.size 1 _ _ (0,0) hbx;have u2:wr.cell? ⟨w.heap.size,2,none⟩=some (.int .i64 (a:Int)):=cell_of_row wr w.heap.size 2 _ _ (0,0) hbx;obtain⟨r',p',a'⟩:=y;simp only at z0 z1 z2;have HY:=Zh hy;have i0:(0:Int)<=(k:Int):=yjz;have i1:(k:Int)<(N:Int):=yjz;clear hy hb hbx hg
   by_cases he:(r'=r∧p'=p)∧a'=a
   .obtain⟨⟨rfl,rfl⟩,rfl⟩:=he;go_wp2;go_quiet (fail);go_wp2;go_ret;exact⟨by show Ending.returned (.bool true)=_;rw[decide_eq_true (yh1 HY.o)],⟨HB1.o.os,HB1.o.tape,HB1.o.output,HB1.o.size,HB1.o.block⟩⟩
   .have heq:((r':Int)==(r:Int)&&((p':Int)==(p:Int)&&(a':Int)==(a:Int)))=false:=by
     by_cases q1:r'=r <;> by_cases q2:p'=p <;> by_cases q3:a'=a <;> simp[q1,q2,q3] <;> omega
    have hq:∀ W:World,(binOp .eql 121 (.agg #[.int .i64 (r':Int),.int .i64 (p':Int),.int .i64 (a':Int)]) (.agg #[.int .i64 (r:Int),.int .i64 (p:Int),.int .i64 (a:Int)])).run Try.prog W = .ok (.bool false) W:=fun W=>by
     rw[run_eql_struct,yg6,heq];rfl
    have hm:Try.prog.eqGuardType Try.prog.depth 121=false:=yk2;clear heq;go_wp2;go_quiet (fail);go_wp2;go_roundg (N-(k+1))
    case measure=>have:=HMK.o;omega
    case rel =>
     refine⟨k+1,by go_num,by omega,rfl,fun j hj e=>?_,⟨HB1.o.os,HB1.o.tape,HB1.o.output,HB1.o.size,HB1.o.block⟩,HX1.o⟩
     by_cases ej:j=k
     .subst ej;rw[HY.o] at e;injection e with e
      injection e with e1 e2 e3
      exact he ⟨⟨e1,e2⟩,e3⟩
     .exact HNO.o j yjz e
  .have hkl:k=N:=yjz;subst hkl;have hn:¬ (⟨r,p,a⟩:Wd)∈l:=fun hm=>by
    obtain⟨j,hj⟩:=yhu hm;exact HNO.o j (by have:=(ygp.1 hj).1;rw[HN.o] at this;exact this) hj
   go_wp2;go_ret;exact⟨by show Ending.returned (.bool false)=_;rw[decide_eq_false hn],hb⟩
theorem zzq {w:World} {A A':Option Addr} {c c':Nat} {l m:List Wd} (hl:RdW w A l) (hm:RdW w A' m) (hlen:l.length<=100000) (hlen':m.length<=100000):
 Calls Try.prog 26 #[.slice A l.length c,.slice A' m.length c'] w fun e w'=>e = .returned (.bool (zo0 l m))∧Below w.heap.size w w':=by
 have hha:=fun (W:World) (hb:Below w.heap.size w W) (x:Wd)=>zxm (c:=c') x (hm.stays hb) hlen'
 obtain⟨N,hN⟩:∃ N,l.length=N:=⟨_,rfl⟩;obtain⟨M,hM⟩:∃ M,m.length=M:=⟨_,rfl⟩;rw[hM] at hha hlen' ⊢;rw[hN] at hlen ⊢;have HN:=Zh hN;have HM:=Zh hM;have HL:=Zh hl;have HH:=Zh hha;clear hN hM hl hm hha
 by_cases hNM:N=M
 .subst hNM;have hne:((N:Int) != (N:Int))=false:=yk3;go_enter Try.func26,Try.ntmps26;go_wp2;go_loopg [5] N (fun mm i wr=>∃ k:Nat,i = .int .i64 (k:Int)∧k<=N∧mm=N-k∧(∀ (j:Nat) (x:Wd),j<k->l[j]?=some x->x∈m)∧Below w.heap.size w wr)
  case atStart=>exact⟨0,by first | rfl | trivial,ygy _,by first | rfl | trivial,fun j x hj=>by omega,ygr _ _⟩
  case round =>
   obtain⟨k,rfl,hk,hmk,hall,hb⟩:=hrel;have HMK:=Zh hmk;have HALL:=Zh hall;have HB1:=Zh hb;clear hmk hall
   by_cases hkN:k<N
   .obtain⟨y,hy⟩:∃ y,l[k]?=some y:=⟨_,ygn yky⟩;obtain⟨g,off,rfl,hg,z0,z1,z2⟩:=(HL.o.stays hb) k y hy;have hc:=HH.o wr hb y;unfold wdV at hc;obtain⟨bb,hbb⟩:∃ bb,decide (y∈m)=bb:=⟨_,rfl⟩;rw[hbb] at hc;have HBB:=Zh hbb;have HY:=Zh hy;have HC:=Zh hc;obtain⟨r',p',a'⟩:=y;simp only at z0 z1 z2 HC;have i0:(0:Int)<=(k:Int):=yjz;have i1:(k:Int)<(N:Int):=yjz;clear hy hb hc hg hbb;cases bb
    .go_wp2_with (first
      | (go_at_call 48;(with_reducible refine HC.o.mono ?_);rintro e w1 ⟨rfl,b1⟩;have HB2:=Zh (gro HB1.o b1);clear b1)
      | fail)
     go_ret;have hno:¬ (l.length=m.length∧∀ x∈l,x∈m):=fun h=>absurd (h.2 _ (yh1 HY.o)) (by simpa using HBB.o)
     exact⟨by show Ending.returned (.bool false)=_;rw[zo0,decide_eq_false hno],HB2.o⟩
    .go_wp2_with (first
      | (go_at_call 48;(with_reducible refine HC.o.mono ?_);rintro e w1 ⟨rfl,b1⟩;have HB2:=Zh (gro HB1.o b1);clear b1)
      | fail)
     go_roundg (N-(k+1))
     case measure=>have:=HMK.o;omega
     case rel =>
      refine⟨k+1,by go_num,by omega,rfl,fun j x hj e=>?_,HB2.o⟩
      by_cases ej:j=k
      .subst ej;rw[HY.o] at e;injection e with e
       subst e
       simpa using HBB.o
      .exact HALL.o j x yjz e
   .have hkl:k=N:=yjz;subst hkl;have hyes:l.length=m.length∧∀ x∈l,x∈m:=⟨by rw[HN.o,HM.o],fun x hx=>by
     obtain⟨j,hj⟩:=yhu hx;exact HALL.o j x (by have:=(ygp.1 hj).1;rw[HN.o] at this;exact this) hj⟩
    go_wp2;go_ret;exact⟨by show Ending.returned (.bool true)=_;rw[zo0,decide_eq_true hyes],hb⟩
 .have hne:((N:Int) != (M:Int))=true:=yk8;have hno:¬ (l.length=m.length∧∀ x∈l,x∈m):=fun h=>hNM (by rw[←HN.o,←HM.o];exact h.1)
  have HNO:=Zh hno;clear hno;go_enter Try.func26,Try.ntmps26;go_wp2;go_ret;exact⟨by show Ending.returned (.bool false)=_;rw[zo0,decide_eq_false HNO.o],ygr _ _⟩
section
attribute [local go_sem ↓] Go.wp_at_zero Go.wp_at_succ
theorem zv4 {w:World} {A B C:Option Addr} {ca cb cc:Nat} {L:List (Lay×Str)} {bs:List Bool} {st:List Wd} (hL:RdNfas w w.heap.size A L) (hbs:RdTr w B bs) (hs:RdW w C st) (hok:∀ x∈st,okWd L bs x) (hl:st.length<=100000) (hLl:L.length<=64) (hbl:bs.length<=65):
 Calls Try.prog 27 #[.slice A L.length ca,.slice B bs.length cb,.slice C st.length cc] w fun e w'=>e = .returned (.agg #[.int .u64 ((zfl L bs st (0,0)).1:Nat),.int .u64 ((zfl L bs st (0,0)).2:Nat)])∧Below w.heap.size w w':=by
 obtain⟨N,hN⟩:∃ N,st.length=N:=⟨_,rfl⟩;obtain⟨K,hK⟩:∃ K,L.length=K:=⟨_,rfl⟩;obtain⟨M,hM⟩:∃ M,bs.length=M:=⟨_,rfl⟩;rw[hN] at hl ⊢;rw[hK] at hLl ⊢;rw[hM] at hbl ⊢;have HN:=Zh hN;have HK:=Zh hK;have HM:=Zh hM;have HL:=Zh hL;have HBS:=Zh hbs;have HS:=Zh hs;have HOK:=Zh hok;clear hN hK hM hL hbs hs hok;go_enter Try.func27,Try.ntmps27;go_wp2;go_loopg [8] N (fun mm i wr=>∃ (k a b:Nat),i = .int .i64 (k:Int)∧k<=N∧mm=N-k∧a<18446744073709551616∧b<18446744073709551616∧zfl L bs (st.drop k) (a,b)=zfl L bs st (0,0)∧BoxO wr w.heap.size (.int .u64 0) (.int .u64 0)∧BoxO wr (w.heap.size+1) (.int .u64 (a:Int)) (.int .u64 (b:Int))∧Below w.heap.size w wr)
 case atStart=>exact⟨0,0,0,rfl,ygy _,rfl,by omega,by omega,rfl,(BoxO.new w _ _ _ rfl).alloc _,BoxO.new _ _ _ _ yk3,((ygr _ _).alloc (ygo _) _).alloc yk3 _⟩
 case round =>
  obtain⟨k,a,b,rfl,hk,hmk,ha64,hb64,ho,bR,bO,hW⟩:=hrel;have HMK:=Zh hmk;have HO:=Zh ho;have BR:=Zh bR;have BO:=Zh bO;have HW:=Zh hW;clear hmk ho
  by_cases hkN:k<N
  .obtain⟨x,hx⟩:∃ x,st[k]?=some x:=⟨_,ygn yky⟩;obtain⟨s,t,bb,e1,e2,e3,e4⟩:=HOK.o x (yh1 hx);obtain⟨gs,os,rfl,hgs,z0,z1,z2⟩:=(HS.o.stays hW) k x hx;obtain⟨g,off,A1,m1,c1,A2,m2,c2,gm,A3,m3,c3,rfl,hg,hc,q1,q2,q3,hin⟩:=HL.o x.rule s t e1;have y2:=(hW.cell (p:=⟨g,off+x.rule*5+2,none⟩) hg).trans (hc 2 _ rfl);have y3:=(hin.below hW).last x.place e3;obtain⟨gb,ob,rfl,hgb,y4'⟩:=HBS.o x.rule bb e2;have y4:=za3 y4' hW;have hxr:x.rule<K:=(by have:=(ygp.1 e1).1;have:=HK.o;omega);have hxm:x.rule<M:=(by have:=(ygp.1 e2).1;have:=HM.o;omega);have hst:=zt8 L bs st k x hx (a,b);rw[HO.o] at hst;have hts:zed L bs x (a,b)=if t.last.contains x.place=true then (if bb=true then (a,b ||| 2 ^ x.age) else (a ||| 2 ^ x.age,b)) else (a,b):=by unfold zed;rw[e1,e2]
   rw[hts] at hst;have hbit:=fun W=>ygf W x.age e4
   obtain⟨z,hz⟩:∃ z,s.sets.length=z:=⟨_,rfl⟩;rw[hz] at y2 e3;have h264:2 ^ x.age<18446744073709551616:=by
    have h1:=yig (n:=2) yjz e4;have h2:(2:Nat) ^ 63=9223372036854775808:=yk6;omega
   have hp2:((2:Int) ^ x.age)=((2 ^ x.age:Nat):Int):=(by push_cast;rfl);have hb1:=bits_or_u64_nat a (2 ^ x.age) ha64 h264;have hb2:=bits_or_u64_nat b (2 ^ x.age) hb64 h264;have ho1:a ||| 2 ^ x.age<18446744073709551616:=yiy (n:=64) ha64 h264;have ho2:b ||| 2 ^ x.age<18446744073709551616:=yiy (n:=64) hb64 h264;obtain⟨xr,xp,xa⟩:=x;simp only at z0 z1 z2 y2 y3 y4 hbit hxr hxm e3 hst hb1 hb2 ho1 ho2 hp2;obtain⟨v,hv⟩:∃ v:Int,(2:Int) ^ xa=v:=⟨_,rfl⟩;obtain⟨V,hV⟩:∃ V:Nat,(2:Nat) ^ xa=V:=⟨_,rfl⟩;rw[hv,hV] at hp2;rw[hv] at hbit;rw[hV] at hst hb1 hb2 ho1 ho2;subst hp2;obtain⟨lb,hlb⟩:∃ lb,t.last.contains xp=lb:=⟨_,rfl⟩;rw[hlb] at y3 hst;have HBIT:=Zh hbit;have HST:=Zh hst;obtain⟨w0,w1⟩:=bO.cell;obtain⟨f0,f1⟩:=bO.frozen;have i0:(0:Int)<=(k:Int):=yjz;have i1:(k:Int)<(N:Int):=yjz;have i2:(0:Int)<=(xr:Int):=yjz;have i3:(xr:Int)<(K:Int):=yjz;have i4:(xr:Int)<(M:Int):=yjz;have i5:(0:Int)<=(xp:Int):=yjz;have i6:(xp:Int)<(z:Int):=yjz;clear hx e1 e2 hgs hg hc hin hgb y4' hts hbit hst hv hV hlb bR bO hW q1 q2 q3 hz;cases lb
   .go_wp2;go_quiet (fail);go_wp2;go_roundg (N-(k+1))
    case measure=>have:=HMK.o;omega
    case rel=>exact⟨k+1,a,b,by go_num,by omega,rfl,ha64,hb64,by simpa using HST.o.symm,BR.o,BO.o,ze9 HW.o _⟩
   .cases bb
    .go_wp2;go_quiet (fail);go_wp2;go_region_law (first
      | (go_simp;go_at_call 49;(with_reducible refine (HBIT.o _).mono ?_);rintro e w5 ⟨rfl,rfl⟩)
      | fail)
     all_goals
      go_wp2;go_roundg (N-(k+1))
      case measure=>have:=HMK.o;omega
      case rel=>exact⟨k+1,a ||| V,b,by go_num,by omega,rfl,ho1,hb64,by simpa using HST.o.symm,BoxO.far (w:=wr.drewN _) BR.o (ad:=⟨w.heap.size+1,0,none⟩) yl5 _,BoxO.put0 (w:=wr.drewN _) BO.o _,(ze9 HW.o _).setCell (p:=⟨w.heap.size+1,0,none⟩) ykz _⟩
    .go_wp2;go_quiet (fail);go_wp2;go_region_law (first
      | (go_simp;go_at_call 49;(with_reducible refine (HBIT.o _).mono ?_);rintro e w5 ⟨rfl,rfl⟩)
      | fail)
     all_goals
      go_wp2;go_roundg (N-(k+1))
      case measure=>have:=HMK.o;omega
      case rel=>exact⟨k+1,a,b ||| V,by go_num,by omega,rfl,ha64,ho2,by simpa using HST.o.symm,BoxO.far (w:=wr.drewN _) BR.o (ad:=⟨w.heap.size+1,1,none⟩) yl5 _,BoxO.put1 (w:=wr.drewN _) BO.o _,(ze9 HW.o _).setCell (p:=⟨w.heap.size+1,1,none⟩) ykz _⟩
  .have hkl:k=st.length:=yky;have ho:=HO.o;rw[hkl,yii,zfl] at ho;have HOO:=Zh ho;obtain⟨q0,q1⟩:=BR.o.cell;obtain⟨f2,f3⟩:=BR.o.frozen;obtain⟨w0,w1⟩:=BO.o.cell;clear ho hkl bR bO hW;go_wp2;have bF:=(BR.o.put0 (.int .u64 (a:Int))).put1 (.int .u64 (b:Int));obtain⟨y0,y1⟩:=bF.cell;refine bodyPost_ret (v := .agg #[.int .u64 (a:Int),.int .u64 (b:Int)]) ?_ rfl ⟨by rw[←HOO.o],(HW.o.setCell (p:=⟨w.heap.size,0,none⟩) (ygo _) _).setCell (p:=⟨w.heap.size,1,none⟩) (ygo _) _⟩;simp[results,Try.results27,go_sem,y0,y1]
end
end Go.Proofs.Ytipfgpfplakhiaa
