import Derived.Test.YtipfgpfplakhiaaTc15
import Derived.Test.YtipfgpfplakhiaaTc16
set_option linter.unusedVariables false
set_option linter.unusedSimpArgs false
set_option maxRecDepth 20000
set_option maxHeartbeats 4000000
namespace Go.Proofs.Ytipfgpfplakhiaa
open Go
section
def zgj (r:PT×List Nat) (s:Nat):PT×List Nat:=(zd3 r.1 s,if r.1.md (r.1.grp s)=0 then r.2++[r.1.grp s] else r.2)
def zdo:List Nat->PT×List Nat->PT×List Nat
 | [],r=>r
 | s::l,r=>zdo l (zgj r s)
structure MI (p:PT) (done:List Nat) (r:PT×List Nat):Prop where
 inv:PInv r.1
 eN:r.1.N=p.N
 en':r.1.n=p.n
 eg:r.1.grp=p.grp
 mks:∀ x,x<p.N->(Mk r.1 x↔x∈done)
 nod:r.2.Nodup
 set:∀ k,k<p.n->(k∈r.2↔0<r.1.md k)
 sub:∀ k∈r.2,k<p.n
theorem zi6 {p:PT}:∀ (l done:List Nat) (r:PT×List Nat),MI p done r->(done++l).Nodup->(∀ s∈l,s<p.N)->MI p (done++l) (zdo l r)
 | [],done,r,h,hn,hs=>by simpa [zdo] using h
 | s::l,done,r,h,hn,hs=>by
  have hsN:s<p.N:=hs s yk3;have hsd:s∉done:=by
   intro hm;rw[yid] at hn;exact hn.2.2 s hm s yk3 rfl
  have hmk:¬ Mk r.1 s:=fun e=>hsd ((h.mks s hsN).1 e)
  obtain⟨a1,a2,a3,a4,a5,a6,a7⟩:=yar h.inv (by rw[h.eN];exact hsN) hmk;have hmd:(zd3 r.1 s).md=upd r.1.md (r.1.grp s) (r.1.md (r.1.grp s)+1):=rfl;have hg:r.1.grp s<p.n:=(by have:=h.inv.gn s (by rw[h.eN];exact hsN);rw[h.en'] at this;exact this);have h1:MI p (done++[s]) (zgj r s):=by
   refine⟨a1,a2.trans h.eN,a3.trans h.en',a4.trans h.eg,fun x hx=>?_,?_,fun k hk=>?_,fun k hk=>?_⟩
   .rw[show (zgj r s).1=zd3 r.1 s from rfl,a7 x (by rw[h.eN];exact hx),h.mks x hx,yh7,yha]
   .unfold zgj;simp only;split
    .rename_i h0;rw[yid];refine⟨h.nod,by simp,fun a ha b hb=>?_⟩;rw[yha] at hb;subst hb;intro e;subst e;have:=(h.set _ hg).1 ha;omega
    .exact h.nod
   .unfold zgj;simp only;rw[hmd]
    by_cases c:k=r.1.grp s
    .subst c;rw[zag];split
     .simp
     .rename_i h0;rw[h.set _ hg];omega
    .rw[zav _ _ c,←h.set k hk];split
     .simp[c]
     .exact Iff.rfl
   .unfold zgj at hk;simp only at hk;split at hk
    .rw[yh7,yha] at hk;rcases hk with hk|rfl
     .exact h.sub k hk
     .exact hg
    .exact h.sub k hk
  have:=zi6 l (done++[s]) (zgj r s) h1 (by simpa using hn) (fun x hx=>hs x (by simp[hx]))
  simpa [zdo] using this
def zdj (ms:List Nat) (p:PT):PT:=zbf (zdo ms (p,[])).2 (zdo ms (p,[])).1
def zik (p:PT):Prop:=∀ k,k<p.n->p.md k=0
section
variable {alk:Nat->Nat->Prop} {A:(Nat->Prop)->Prop} {g:Nat} {p:PT}
theorem zpe (hp:PInv p) (hc:zik p) (hh:HI alk A g p) (hg:g<=p.n) {ms:List Nat} (hn:ms.Nodup) (hs:∀ s∈ms,s<p.N) (hM:∀ s t,alk s t->(s∈ms↔t∈ms)):
 PInv (zdj ms p)∧(zdj ms p).N=p.N∧HI alk A g (zdj ms p)∧p.n<=(zdj ms p).n∧zik (zdj ms p)∧∀ s t,s<p.N->t<p.N->(zdj ms p).grp s=(zdj ms p).grp t->p.grp s=p.grp t∧(s∈ms↔t∈ms):=by
 have h0:MI p [] (p,[]):=⟨hp,rfl,rfl,rfl,fun x hx=>by simp;exact zmx hp hx (hc _ (hp.gn x hx)),by simp,fun k hk=>by simp;exact hc k hk,fun k hk=>by simp at hk⟩;have h1:=zi6 ms [] (p,[]) h0 (by simpa using hn) hs;rw[yj6] at h1;unfold zdj;obtain⟨r,hr⟩:∃ r,zdo ms (p,[])=r:=⟨_,rfl⟩;rw[hr] at h1 ⊢;have hhr:HI alk A g r.1:=⟨fun s t a b c=>by rw[h1.eg];exact hh.i0 s t (h1.eN▸a) (h1.eN▸b) c,fun s t a b c d=>by
  rw[h1.eg] at d ⊢;exact hh.i2 s t (h1.eN▸a) (h1.eN▸b) c fun k k1 k2=>d k k1 (by rw[h1.en'];exact k2)⟩
 have hmid:MidH (· ∈ ms) r.1:=by
  refine⟨fun s t a b c d=>?_,fun x hx hz=>h1.mks x (h1.eN▸hx)⟩;have e1:=zmx h1.inv a d;have e2:=zmx h1.inv b (by rw[←c];exact d);rw[h1.mks s (h1.eN▸a)] at e1;rw[h1.mks t (h1.eN▸b)] at e2;exact⟨fun z=>absurd z e1,fun z=>absurd z e2⟩
 obtain⟨q1,q2,q3,q4,q5,q6⟩:=zlf (M:=(· ∈ ms)) hM r.2 r.1 h1.inv hhr hmid (by rw[h1.en'];exact hg) h1.nod (fun k hk=>h1.set k (by rw[←h1.en'];exact hk)) (fun k hk=>by rw[h1.en'];exact h1.sub k hk);refine⟨q1,q2.trans h1.eN,q3,by rw[h1.en'] at q4;exact q4,q5,fun s t a b c=>?_⟩;obtain⟨z1,z2⟩:=q6 s t (by rw[h1.eN];exact a) (by rw[h1.eN];exact b) c;rw[h1.eg] at z1;exact⟨z1,z2⟩
def ze8 (ms:Nat->List Nat):Nat->Nat->PT->PT
 | 0,c,p=>p
 | k+1,c,p=>ze8 ms k (c+1) (zdj (ms c) p)
theorem zsp {δ:Nat->Nat->Nat} {C:Nat} {G:Nat->Prop} {ms:Nat->List Nat} (hal:yeq δ C alk) (N:Nat) (hn:∀ c,c<C->(ms c).Nodup) (hs:∀ c,c<C->∀ s,(s∈ms c↔s<N∧G (δ s c))) (haN:∀ s t,alk s t->(s<N↔t<N)) (hG:∀ s t,alk s t->(G s↔G t)):
 ∀ (k c:Nat) (p:PT),p.N=N->c+k=C->PInv p->zik p->HI alk A g p->g<=p.n->
  PInv (ze8 ms k c p)∧(ze8 ms k c p).N=N∧HI alk A g (ze8 ms k c p)∧p.n<=(ze8 ms k c p).n∧zik (ze8 ms k c p)∧∀ s t,s<N->t<N->(ze8 ms k c p).grp s=(ze8 ms k c p).grp t->p.grp s=p.grp t∧∀ d,c<=d->d<C->(G (δ s d)↔G (δ t d))
 | 0,c,p,hN,hk,hp,hc,hh,hg=>⟨hp,hN,hh,ygo _,hc,fun s t a b e=>⟨e,fun d d1 d2=>by omega⟩⟩
 | k+1,c,p,hN,hk,hp,hc,hh,hg=>by
  have hcC:c<C:=yjz;obtain⟨q1,q2,q3,q4,q5,q6⟩:=zpe hp hc hh hg (hn c hcC) (fun s h=>by rw[hN];exact ((hs c hcC s).1 h).1) (fun s t h=>by rw[hs c hcC,hs c hcC,haN s t h,hG _ _ (hal.step s t c hcC h)]);obtain⟨r1,r2,r3,r4,r5,r6⟩:=zsp hal N hn hs haN hG k (c+1) (zdj (ms c) p) (q2.trans hN) yjz q1 q5 q3 yjz;refine⟨r1,r2,r3,by show p.n<=(ze8 ms k (c+1) (zdj (ms c) p)).n;omega,r5,fun s t a b e=>?_⟩;obtain⟨z1,z2⟩:=r6 s t a b e;obtain⟨y1,y2⟩:=q6 s t (by rw[hN];exact a) (by rw[hN];exact b) z1;refine⟨y1,fun d d1 d2=>?_⟩
  by_cases ed:d=c
  .subst ed;rw[hs d hcC,hs d hcC] at y2;exact⟨fun z=>(y2.1 ⟨a,z⟩).2,fun z=>(y2.2 ⟨b,z⟩).2⟩
  .exact z2 d yjz d2
end
def Stab (δ:Nat->Nat->Nat) (C:Nat) (A:(Nat->Prop)->Prop) (p:PT):Prop:=∀ X,A X->∀ s t,s<p.N->t<p.N->p.grp s=p.grp t->∀ c,c<C->(X (δ s c)↔X (δ t c))
theorem ye0 {δ:Nat->Nat->Nat} {C g:Nat} {alk:Nat->Nat->Prop} {A:(Nat->Prop)->Prop} {p:PT} {ms:Nat->List Nat} (hal:yeq δ C alk) (haN:∀ s t,alk s t->(s<p.N↔t<p.N)) (hp:PInv p) (hc:zik p) (hh:HI alk A g p) (hst:Stab δ C A p) (hg:g<p.n)
 (hn:∀ c,c<C->(ms c).Nodup) (hs:∀ c,c<C->∀ s,(s∈ms c↔s<p.N∧(δ s c<p.N∧p.grp (δ s c)=g))):
 PInv (ze8 ms C 0 p)∧(ze8 ms C 0 p).N=p.N∧p.n<=(ze8 ms C 0 p).n∧zik (ze8 ms C 0 p)∧(∃ A',HI alk A' (g+1) (ze8 ms C 0 p)∧Stab δ C A' (ze8 ms C 0 p))∧∀ s t,s<p.N->t<p.N->(ze8 ms C 0 p).grp s=(ze8 ms C 0 p).grp t->p.grp s=p.grp t:=by
 have hh':HI alk (fun X=>A X∨X=fun x=>x<p.N∧p.grp x=g) (g+1) p:=by
  refine⟨hh.i0,fun s t a b hX hk=>hh.i2 s t a b (fun X h=>hX X (.inl h)) fun k k1 k2=>?_⟩
  by_cases e:k=g
  .subst e;have:=hX _ (.inr rfl);simp only[a,b,true_and] at this;exact this
  .exact hk k yjz k2
 have hG:∀ s t,alk s t->((fun x=>x<p.N∧p.grp x=g) s↔(fun x=>x<p.N∧p.grp x=g) t):=fun s t h=>by
  have h1:=haN s t h;constructor
  .rintro⟨a,b⟩;exact⟨h1.1 a,by rw[←hh.i0 s t a (h1.1 a) h];exact b⟩
  .rintro⟨a,b⟩;exact⟨h1.2 a,by rw[hh.i0 s t (h1.2 a) a h];exact b⟩
 obtain⟨q1,q2,q3,q4,q5,q6⟩:=zsp (G:=fun x=>x<p.N∧p.grp x=g) (ms:=ms) hal p.N hn hs haN hG C 0 p rfl yjz hp hc hh' yjz;refine⟨q1,q2,q4,q5,⟨_,q3,fun X hX s t a b e c hcC=>?_⟩,fun s t a b e=>(q6 s t a b e).1⟩;rw[q2] at a b;obtain⟨z1,z2⟩:=q6 s t a b e;rcases hX with hX|rfl
 .exact hst X hX s t a b z1 c hcC
 .exact z2 c (ygy _) hcC
theorem zzm {δ:Nat->Nat->Nat} {C:Nat} {alk:Nat->Nat->Prop} {A:(Nat->Prop)->Prop} {p:PT} (hh:HI alk A p.n p) (hst:Stab δ C A p) (hδ:∀ s c,s<p.N->c<C->δ s c<p.N) {s t c:Nat} (hs:s<p.N) (ht:t<p.N) (e:p.grp s=p.grp t) (hc:c<C):p.grp (δ s c)=p.grp (δ t c):=
 hh.i2 _ _ (hδ s c hs hc) (hδ t c ht hc) (fun X hX=>hst X hX s t hs ht e c hc) fun k k1 k2=>by omega
def goW (δ:Nat->Nat->Nat):List Nat->Nat->Nat
 | [],s=>s
 | c::w,s=>goW δ w (δ s c)
def Alk {O:Type} (δ:Nat->Nat->Nat) (o:Nat->O) (N C:Nat) (s t:Nat):Prop:=s<N∧t<N∧∀ w:List Nat,(∀ c∈w,c<C)->o (goW δ w s)=o (goW δ w t)
theorem zyz {O:Type} {δ:Nat->Nat->Nat} {o:Nat->O} {C:Nat} {p:PT} (hδ:∀ s c,s<p.N->c<C->δ s c<p.N) (ho:∀ s t,s<p.N->t<p.N->p.grp s=p.grp t->o s=o t) (hst:∀ s t c,s<p.N->t<p.N->p.grp s=p.grp t->c<C->p.grp (δ s c)=p.grp (δ t c)):
 ∀ (w:List Nat) (s t:Nat),(∀ c∈w,c<C)->s<p.N->t<p.N->p.grp s=p.grp t->o (goW δ w s)=o (goW δ w t)
 | [],s,t,_,hs,ht,e=>ho s t hs ht e
 | c::w,s,t,hw,hs,ht,e=>zyz hδ ho hst w (δ s c) (δ t c) (fun x hx=>hw x (by simp[hx])) (hδ s c hs (hw c yk3)) (hδ t c ht (hw c yk3)) (hst s t c hs ht e (hw c yk3))
theorem zz0 {O:Type} {δ:Nat->Nat->Nat} {o:Nat->O} {N C:Nat} (hδ:∀ s c,s<N->c<C->δ s c<N):yeq δ C (Alk δ o N C):=
 ⟨fun s t c hc h=>⟨hδ s c h.1 hc,hδ t c h.2.1 hc,fun w hw=>h.2.2 (c::w) (fun d hd=>by
  rw[yh4] at hd;rcases hd with rfl|hd
  .exact hc
  .exact hw d hd)⟩⟩
theorem yfu {O:Type} {δ:Nat->Nat->Nat} {o:Nat->O} {N C s t:Nat} (h:Alk δ o N C s t):s<N↔t<N:=⟨fun _=>h.2.1,fun _=>h.1⟩
theorem ybd {O:Type} {δ:Nat->Nat->Nat} {o:Nat->O} {C:Nat} {p:PT} (hp:PInv p) (ho:∀ s t,s<p.N->t<p.N->(p.grp s=p.grp t↔o s=o t)):HI (Alk δ o p.N C) (fun _=>False) 0 p:=
 ⟨fun s t hs ht h=>(ho s t hs ht).2 (h.2.2 [] (fun c hc=>by simp at hc)),fun s t hs ht _ hk=>((hk (p.grp s) (ygy _) (hp.gn s hs)).1 rfl).symm⟩
theorem yfj {O:Type} {δ:Nat->Nat->Nat} {o:Nat->O} {C:Nat} {A:(Nat->Prop)->Prop} {p:PT} (hδ:∀ s c,s<p.N->c<C->δ s c<p.N) (hh:HI (Alk δ o p.N C) A p.n p) (hst:Stab δ C A p) (ho:∀ s t,s<p.N->t<p.N->p.grp s=p.grp t->o s=o t) {s t:Nat} (hs:s<p.N) (ht:t<p.N):
 p.grp s=p.grp t↔Alk δ o p.N C s t:=
 ⟨fun e=>⟨hs,ht,fun w hw=>zyz hδ ho (fun s t c a b e hc=>zzm hh hst hδ a b e hc) w s t hw hs ht e⟩,fun h=>hh.i0 s t hs ht h⟩
theorem zew {p:PT} (h:PInv p):p.n<=p.N:=by
 have hb:∀ g,g<p.n->p.bg g<p.N∧p.grp (p.st (p.bg g))=g:=fun g hg=>by
  have:=h.ne g hg;exact h.of g (p.bg g) hg (ygo _) this.1
 have hn:((List.range p.n).map p.bg).Nodup:=by
  rw[yif,List.pairwise_map];refine List.Pairwise.imp_of_mem ?_ (yif.1 List.nodup_range);intro a b ha hb' hne e;rw[yho] at ha hb';apply hne;rw[←(hb a ha).2,←(hb b hb').2,e]
 have:=zcv _ (List.range p.N) hn (fun x hx=>by
  rw[yhx] at hx;obtain⟨g,hg,rfl⟩:=hx;rw[yho] at hg ⊢;exact (hb g hg).1)
 simpa using this
end
section
open Go Go.RowKit
theorem PM.kept {w w':World} {B g:Nat} {a b c d e m:Value} {p:PT} {Q:Nat->Prop} (h:PM w B g a b c d e m p) (hk:Kept Q w w') (hg:¬ Q g) (hq:∀ v∈[a,b,c,d,e,m],∀ x,v.ownBlock=some x->¬ Q x):PM w' B g a b c d e m p:=
 ⟨h.gB,(hk.block g (za1 h.box) hg).trans h.box,h.ra.kept hk (hq a yk3),h.rb.kept hk (hq b yk3),h.rc.kept hk (hq c yk3),h.rd.kept hk (hq d yk3),h.re.kept hk (hq e yk3),h.rm.kept hk (hq m yk3),h.ap⟩
structure PS (w:World) (B g:Nat) (a b c d e m vs:Value) (p:PT) (sm:List Nat):Prop where
 pm:PM w B g a b c d e m p
 sm:Ints w B vs (ns sm)
 ap:∀ v∈[a,b,c,d,e,m],Ap vs v
theorem PM.setM {w:World} {B g bm cm G v:Nat} {a b c d e:Value} {p:PT} (h:PM w B g a b c d e (.slice (some ⟨bm,0,none⟩) p.n cm) p):PM (w.setCell ⟨bm,G,none⟩ (.int .i64 (v:Int))) B g a b c d e (.slice (some ⟨bm,0,none⟩) p.n cm) {p with md:=upd p.md G v}:=by
 have hap:=h.ap;simp only[yhq,yh4,forall_eq_or_imp,yh5,false_imp_iff,implies_true,and_true,yi5,Ap] at hap;obtain⟨⟨_,_,_,_,x5⟩,⟨_,_,_,y5⟩,⟨_,_,z5⟩,⟨_,u5⟩,t5⟩:=hap;have k1:Kept (fun x=>x=bm) w (w.setCell ⟨bm,G,none⟩ (.int .i64 (v:Int))):=(Kept.refl (fun x=>x=bm) w).setCell (a:=⟨bm,G,none⟩) (.inl rfl) _;have g1:=zbi h.rm h.box bm rfl;have oth:∀ (u:Value) (n:Nat) (f:Nat->Nat),NRow w B u n f->(∀ x,u.ownBlock=some x->(Value.slice (some ⟨bm,0,none⟩) p.n cm).ownBlock≠some x)->NRow (w.setCell ⟨bm,G,none⟩ (.int .i64 (v:Int))) B u n f:=fun u n f hr z=>hr.kept k1 fun x e1 e2=>z x e1 (by rw[e2];rfl)
 exact⟨h.gB,(ygz _ _ _ _ (fun e'=>g1 e'.symm)).trans h.box,oth _ _ _ h.ra x5,oth _ _ _ h.rb y5,oth _ _ _ h.rc z5,oth _ _ _ h.rd u5,oth _ _ _ h.re t5,h.rm.set G v,h.ap⟩
theorem PS.push {w w':World} {B g G:Nat} {a b c d e m vs v':Value} {p:PT} {sm:List Nat} {o:Obj} (h:PS w B g a b c d e m vs p sm) (hg:(w.alloc o).grownBy w' vs.ownBlock) (hr:Ints w' B v' (ns sm++ns [G])) (ho:v'.ownBlock=vs.ownBlock∨v'.ownBlock=some (w.alloc o).heap.size):PS w' B g a b c d e m v' p (sm++[G])∧Kept (fun x=>vs.ownBlock=some x) w w':=by
 have hk:Kept (fun x=>vs.ownBlock=some x) w w':=((Kept.refl (fun x=>vs.ownBlock=some x) w).alloc o).grown hg (fun x ex => .inl ex);have hgg:¬ vs.ownBlock=some g:=fun ex=>by
  obtain⟨cu,hc⟩:=za8 h.sm ex;exact za0 hc h.pm.box yk6 rfl
 refine⟨⟨h.pm.kept hk hgg fun v hv x ex q=>h.ap v hv x q ex,by have:=hr;simpa [ns] using this,fun v hv x ex=>?_⟩,hk⟩;rcases ho with e1|e1
 .exact h.ap v hv x (e1▸ex)
 .intro ev;have hx:x=(w.alloc o).heap.size:=(by rw[e1] at ex;injection ex with ex;exact ex.symm);have hlt:x<w.heap.size:=by
   simp only[yh4,yh5,or_false] at hv;rcases hv with rfl|rfl|rfl|rfl|rfl|rfl
   .exact (ygs h.pm.ra x ev).2
   .exact (ygs h.pm.rb x ev).2
   .exact (ygs h.pm.rc x ev).2
   .exact (ygs h.pm.rd x ev).2
   .exact (ygs h.pm.re x ev).2
   .exact (ygs h.pm.rm x ev).2
  rw[hx] at hlt;simp at hlt;omega
theorem PS.stays {w w':World} {B g:Nat} {a b c d e m vs:Value} {p:PT} {sm:List Nat} (h:PS w B g a b c d e m vs p sm) (hb:Below w.heap.size w w'):PS w' B g a b c d e m vs p sm:=
 ⟨h.pm.kept (Kept.of_below (fun _=>False) hb) (fun q=>q) (fun _ _ _ _ q=>q),h.sm.off (Kept.of_below (fun _=>False) hb) fun _ _ q=>q,h.ap⟩
def zni (w:World) (B g:Nat) (a b c d e m vs:Value) (p:PT) (sm:List Nat) (s:Nat) (en:Ending) (w':World):Prop:=
 ∃ v',en = .returned v'∧PS w' B g a b c d e m v' (zd3 p s) (zgj (p,sm) s).2∧Kept (fun x=>x=g∨vs.ownBlock=some x∨∃ v∈[a,b,c,d,e,m],v.ownBlock=some x) w w'∧∀ x,v'.ownBlock=some x->vs.ownBlock=some x∨w.heap.size<=x
theorem yfd {w:World} {B g:Nat} {a b c d e m vs:Value} {p:PT} {sm:List Nat} {s:Nat} (h:PS w B g a b c d e m vs p sm) (hp:PInv p) (hs:s<p.N) (hm:¬ Mk p s) (hN:p.N<=100000) (hn:p.n<=100000) (hsm:sm.length<=99999):
 Calls Try.prog 68 #[.pointer (some ⟨g,0,none⟩),.int .i64 (s:Int),vs] w (zni w B g a b c d e m vs p sm s):=by
 obtain⟨G,hG⟩:∃ G,p.grp s=G:=⟨_,rfl⟩;have hGn:G<p.n:=hG▸hp.gn s hs;obtain⟨D,hD⟩:∃ D,p.md G=D:=⟨_,rfl⟩;have HP:=Zh h;obtain⟨bc,cc,hec,_,hc0⟩:=h.pm.rc.at hs;obtain⟨bm,cm,hem,_,hm0⟩:=h.pm.rm.at hGn;subst hec hem;rw[hG] at hc0;rw[hD] at hm0;have q2:w.cell? ⟨g,2,none⟩=some (.slice (some ⟨bc,0,none⟩) p.N cc):=cell_of_row w g 2 _ _ (0,0) h.pm.box;have q5:w.cell? ⟨g,5,none⟩=some (.slice (some ⟨bm,0,none⟩) p.n cm):=cell_of_row w g 5 _ _ (0,0) h.pm.box;obtain⟨N,hN'⟩:∃ N,p.N=N:=⟨_,rfl⟩;obtain⟨n,hn'⟩:∃ n,p.n=n:=⟨_,rfl⟩;have HNN:=Zh hN';have Hnn:=Zh hn';obtain⟨As,ns',cs',hvs⟩:=h.sm.form3;have i0:(0:Int)<=(s:Int):=yjz;have i1:(s:Int)<(N:Int):=yjz;have i2:(0:Int)<=(G:Int):=yjz;have i3:(G:Int)<(n:Int):=yjz;have hBs:=h.pm.box;have HGB:=Zh (show B<=w.heap.size by have:=za1 h.pm.box;have:=h.pm.gB;omega);have HPI:=Zh hp;have HSN:=Zh hs;have HMK:=Zh hm;have HN1:=Zh hN;have HN2:=Zh hn;have HSM:=Zh (show (ns sm).length+(ns [G]).length<=100000 by simp[ns];omega);have HGG:=Zh hG;have HDD:=Zh hD;rw[hN'] at q2 HP;rw[hn'] at q5 HP;clear h hp hs hm hN hn hsm hBs hN' hn' hG hD hGn;go_enter Try.func68,Try.ntmps68;go_upto_if 24 with fail
 go_cut [2] from 25 to 28 (fun s2 wx=>PS wx B g a b (.slice (some ⟨bc,0,none⟩) N cc) d e (.slice (some ⟨bm,0,none⟩) n cm) s2 p (zgj (p,sm) s).2∧Kept (fun x=>vs.ownBlock=some x) w wx∧∀ x,s2.ownBlock=some x->vs.ownBlock=some x∨w.heap.size<=x)
 case first =>
  by_cases hD0:D=0
  .subst hD0;go_wp2_with (first
    | (at_builtin;refine zaw (l:=ns sm) (m:=ns [G]) (B:=B) (C:=B) yk5 _ _ yk5 yk5 yk5 (za6 HP.o.sm ((ygr _ _).alloc (ygo _) _)) (zcz (heap_alloc_new _ _) HGB.o) HSM.o (ygw HGB.o yk3) ?_;intro v8 w8 h8 hg8 ho8;have H8:=Zh h8;have HG8:=Zh hg8;have HO8:=Zh ho8;clear h8 hg8 ho8;go_simp)
    | fail)
   go_meet;have h:=HP.o.push HG8.o H8.o HO8.o;refine⟨?_,h.2,fun x ex=>HO8.o.elim (fun e => .inl (e▸ex)) (fun e => .inr yl6)⟩;rw[show (zgj (p,sm) s).2=sm++[G] by unfold zgj;simp only;rw[HGG.o,if_pos HDD.o]];exact h.1
  .have hq:((D:Int)==0)=false:=yk8;go_wp2;go_meet;refine⟨?_,Kept.refl _ _,fun x ex => .inl ex⟩;rw[show (zgj (p,sm) s).2=sm by unfold zgj;simp only;rw[HGG.o,if_neg (by rw[HDD.o];exact hD0)]];exact HP.o
 case rest =>
 obtain⟨hps,hkc,hnb⟩:=hcut;have HNB:=Zh hnb;clear hnb;have HPS:=Zh hps;have HKC:=Zh hkc;have hGn:G<p.n:=(by rw[←HGG.o];exact HPI.o.gn s HSN.o);obtain⟨bb,cb,heb,_,hb0⟩:=hps.pm.rb.at HSN.o;obtain⟨bd,cd,hed,_,hd0⟩:=hps.pm.rd.at hGn;subst heb hed;obtain⟨bm',cm',hem',_,hm1⟩:=hps.pm.rm.at hGn;obtain⟨rfl,rfl⟩:bm=bm'∧cm=cm':=by
  injection hem' with x1 x2 x3
  injection x1 with x1
  injection x1 with x1
  exact⟨x1,x3⟩
 rw[HDD.o] at hm1;have r1:wc.cell? ⟨g,1,none⟩=some (.slice (some ⟨bb,0,none⟩) p.N cb):=cell_of_row wc g 1 _ _ (0,0) hps.pm.box;have r3:wc.cell? ⟨g,3,none⟩=some (.slice (some ⟨bd,0,none⟩) p.n cd):=cell_of_row wc g 3 _ _ (0,0) hps.pm.box;have r5:wc.cell? ⟨g,5,none⟩=some (.slice (some ⟨bm,0,none⟩) n cm):=cell_of_row wc g 5 _ _ (0,0) hps.pm.box;rw[HNN.o] at r1 HPS;rw[Hnn.o] at r3 HPS;obtain⟨H,hH⟩:∃ H,p.at' s=H:=⟨_,rfl⟩;obtain⟨E,hE⟩:∃ E,p.bg G=E:=⟨_,rfl⟩;have HHH:=Zh hH;have HEE:=Zh hE;rw[hH] at hb0;rw[hE] at hd0;have hmdb:=HPI.o.md G hGn;have hneb:=HPI.o.ne G hGn;rw[hE,HDD.o] at hmdb;have iD:(E:Int)+(D:Int)<=100000:=(by have:=HN1.o;omega);clear hps hkc hH hE hem' hmdb hneb q2 q5 hc0 hm0;go_upto_region 5 with fail
 go_quiet (fail);have BD:Below wc.heap.size wc (wc.drewN nq):=zb5 (ygr _ _) nq;have HPD:=Zh (HPS.o.stays BD);have HKD:=Zh (HKC.o.trans (Kept.of_below (fun _=>False) BD) fun x ex=>ex.elim);generalize wc.drewN nq=wd at *;clear BD HPS HKC hb0 hd0 hm1 r1 r3 r5;have hT:E+D<p.N:=by
  have h1:=HPI.o.lo s HSN.o;have h2:=HMK.o;unfold Mk at h2;rw[HGG.o,HHH.o,HEE.o] at h1;rw[HGG.o,HHH.o,HEE.o,HDD.o] at h2;exact (HPI.o.of G (E+D) hGn (by rw[HEE.o];omega) yjz).1
 obtain⟨ba,ca,hea,_,ha0⟩:=HPD.o.pm.ra.at hT;subst hea;have r0:wd.cell? ⟨g,0,none⟩=some (.slice (some ⟨ba,0,none⟩) p.N ca):=cell_of_row wd g 0 _ _ (0,0) HPD.o.pm.box;obtain⟨Y,hY⟩:∃ Y,p.st (E+D)=Y:=⟨_,rfl⟩;have HYY:=Zh hY;rw[hY] at ha0;have hYN:Y<p.N:=(by rw[←hY];exact HPI.o.stN _ hT);have hHN:H<p.N:=(by rw[←HHH.o];exact HPI.o.atN s HSN.o);have P1:=Zh (yda HPD.o.pm hYN hHN HN1.o);have P2:=Zh (fun (W:World) (h:PM W B g (.slice (some ⟨ba,0,none⟩) p.N ca) (.slice (some ⟨bb,0,none⟩) N cb) (.slice (some ⟨bc,0,none⟩) N cc) (.slice (some ⟨bd,0,none⟩) n cd) e (.slice (some ⟨bm,0,none⟩) n cm) (putF p Y H))=>yda (s:=s) (i:=E+D) h HSN.o hT HN1.o);obtain⟨T,hT'⟩:∃ T,E+D=T:=⟨_,rfl⟩;have hTi:(E:Int)+(D:Int)=(T:Int):=yjz;have HTT:=Zh hT';rw[hT'] at ha0 P2 hT;rw[hTi];have t0:(0:Int)<=(T:Int):=yjz;have t1:(T:Int)<(p.N:Int):=yjz;rw[HNN.o] at r0 t1;rw[HNN.o] at P1 P2;have iD2:(D:Int)+1<=200000:=yjz;clear hY hTi hT';go_upto_region 7 with (first
  | (go_at_call 64;(with_reducible refine P1.o.mono ?_);rintro e' w5 ⟨rfl,h5,k5⟩;have HP5:=Zh h5;have HK5:=Zh k5;clear h5 k5)
  | (go_at_call 64;(with_reducible refine (P2.o _ HP5.o).mono ?_);rintro e' w6 ⟨rfl,h6,k6⟩;have HP6:=Zh h6;have HK6:=Zh k6;clear h6 k6)
  | fail)
 have y5:w6.cell? ⟨g,5,none⟩=some (.slice (some ⟨bm,0,none⟩) n cm):=cell_of_row w6 g 5 _ _ (0,0) HP6.o.box;have ym:w6.cell? ⟨bm,G,none⟩=some (.int .i64 (D:Int)):=by
  obtain⟨b',c',e1,_,hz⟩:=HP6.o.rm.at (i:=G) hGn;injection e1 with x1 x2 x3
  injection x1 with x1
  injection x1 with x1
  rw[←x1] at hz;have hz2:w6.cell? ⟨bm,G,none⟩=some (.int .i64 ((p.md G:Nat):Int)):=hz;rw[HDD.o] at hz2;exact hz2
 have hp6:=HP6.o;have hsetm:PM (w6.setCell ⟨bm,G,none⟩ (.int .i64 ((D+1:Nat):Int))) B g (.slice (some ⟨ba,0,none⟩) N ca) (.slice (some ⟨bb,0,none⟩) N cb) (.slice (some ⟨bc,0,none⟩) N cc) (.slice (some ⟨bd,0,none⟩) n cd) e (.slice (some ⟨bm,0,none⟩) n cm) (zd3 p s):=by
  have h1:=hp6;rw[show n=(putF (putF p Y H) s T).n from Hnn.o.symm] at h1;have h2:=h1.setM (G:=G) (v:=D+1);have e2:zd3 p s=({putF (putF p Y H) s T with md:=upd (putF (putF p Y H) s T).md G (D+1)}:PT):=by
   unfold zd3;simp only[HGG.o,HEE.o,HDD.o,HTT.o,HHH.o];rw[←HYY.o,HTT.o];rfl
  rw[e2,show n=(putF (putF p Y H) s T).n from Hnn.o.symm];exact h2
 have fm:w6.frozen? ⟨bm,G,none⟩=false:=by
  have h1:=hp6.rm;rw[show n=p.n from Hnn.o.symm] at h1;exact yhh h1 G
 have HSM6:=Zh hsetm;clear hp6 hsetm;have hcD:((D+1:Nat):Int)=(D:Int)+1:=yjz;rw[hcD] at HSM6;clear hcD;go_wp2;go_ret;have hd:=HPD.o;have hsg:∀ v∈[(.slice (some ⟨ba,0,none⟩) N ca:Value),.slice (some ⟨bb,0,none⟩) N cb,.slice (some ⟨bc,0,none⟩) N cc,.slice (some ⟨bd,0,none⟩) n cd,e,.slice (some ⟨bm,0,none⟩) n cm],Ap u2 v:=by
  intro v hv;have:=hd.ap v (by rw[HNN.o];exact hv);exact this
 have ks:Kept (fun x=>∃ v∈[(.slice (some ⟨ba,0,none⟩) N ca:Value),.slice (some ⟨bb,0,none⟩) N cb,.slice (some ⟨bc,0,none⟩) N cc,.slice (some ⟨bd,0,none⟩) n cd,e,.slice (some ⟨bm,0,none⟩) n cm],v.ownBlock=some x) wd (w6.setCell ⟨bm,G,none⟩ (.int .i64 ((D:Int)+1))):=by
  refine (((HK5.o.mono (Q':=fun x=>∃ v∈[(.slice (some ⟨ba,0,none⟩) N ca:Value),.slice (some ⟨bb,0,none⟩) N cb,.slice (some ⟨bc,0,none⟩) N cc,.slice (some ⟨bd,0,none⟩) n cd,e,.slice (some ⟨bm,0,none⟩) n cm],v.ownBlock=some x) fun x ex => .inl ?_).trans HK6.o fun x ex => .inl ?_).setCell (a:=⟨bm,G,none⟩) (.inl ?_) _)
  .rcases ex with ex|ex
   .exact⟨_,by simp,ex⟩
   .exact⟨_,by simp,ex⟩
  .rcases ex with ex|ex
   .exact⟨_,by simp,ex⟩
   .exact⟨_,by simp,ex⟩
  .exact⟨.slice (some ⟨bm,0,none⟩) n cm,by simp,rfl⟩
 show zni _ _ _ _ _ _ _ _ _ _ _ _ _ _ _
 rw[HNN.o,Hnn.o];refine⟨u2,rfl,⟨HSM6.o,hd.sm.off ks fun x ex q=>?_,hsg⟩,(HKD.o.mono fun x ex => .inl (.inr (.inl ex))).trans ks fun x ex => .inl (.inr (.inr ex)),HNB.o⟩;obtain⟨v,hv,ev⟩:=q;exact hsg v hv x ex ev
end
section
open Go Go.RowKit
theorem nrow_ints {w:World} {B:Nat} {v:Value} {n:Nat} {f:Nat->Nat}:NRow w B v n f↔Ints w B v (ns ((List.range n).map f)):=by
 unfold NRow Ints;rw[za9,yh8,List.length_range];have e:(ns ((List.range n).map f)).map (Value.int .i64)=lstI n f:=(by simp[ns,lstI]);rw[e]
theorem zbc {w:World} {B:Nat} {v:Value} {n x:Nat} {f:Nat->Nat} (h:Ints w B v (ns ((List.range n).map f)++ns [x])):NRow w B v (n+1) (upd f n x):=by
 rw[nrow_ints];have e:(List.range (n+1)).map (upd f n x)=(List.range n).map f++[x]:=by
  rw[yi6,yhl]
  congr 1
  .apply yj0;intro i hi;rw[yho] at hi;rw[zav _ _ yjz]
  .simp[zag]
 rw[e,zef];exact h
theorem zpu {p:Nat->Prop} {i k j:Nat} (h:p i) (h':p k) (h2:p j):∀ q∈[i,k,j],p q:=fun q hq=>by
 simp at hq;rcases hq with rfl|rfl|rfl
 .exact h
 .exact h'
 .exact h2
structure Rows3 (B:Nat) (w8 W:World) (o1 o2 o3 v1 v2 v3:Value) (n1 n2 n3:Nat) (f1 f2 f3:Nat->Nat):Prop where
 r1:NRow W B v1 n1 f1
 r2:NRow W B v2 n2 f2
 r3:NRow W B v3 n3 f3
 a12:Ap v1 v2
 a13:Ap v1 v3
 a23:Ap v2 v3
 keep:Kept (fun x=>o1.ownBlock=some x∨o2.ownBlock=some x∨o3.ownBlock=some x) w8 W
 q1:∀ x,v1.ownBlock=some x->o1.ownBlock=some x∨w8.heap.size<=x
 q2:∀ x,v2.ownBlock=some x->o2.ownBlock=some x∨w8.heap.size<=x
 q3:∀ x,v3.ownBlock=some x->o3.ownBlock=some x∨w8.heap.size<=x
def New1 (w8 W:World) (u:Value) (x:Nat):Prop:=∃ b,u = .slice (some ⟨b,0,none⟩) 1 1∧w8.heap.size<=b∧W.heap[b]?=some (.cells #[.int .i64 (x:Int)] 3 (0,0))
section
variable {B:Nat} {w8 W W':World} {o1 o2 o3 v1 v2 v3 v' u:Value} {n1 n2 n3 x:Nat} {f1 f2 f3:Nat->Nat}
theorem New1.alloc (h:New1 w8 W u x) (o:Obj):New1 w8 (W.alloc o) u x:=by
 obtain⟨b,e,h1,h2⟩:=h;exact⟨b,e,h1,(yhf W o b (za1 h2)).trans h2⟩
theorem New1.grown (h:New1 w8 W u x) {v:Value} (hg:W.grownBy W' v.ownBlock) (hv:∀ b,v.ownBlock=some b->b<w8.heap.size):New1 w8 W' u x:=by
 obtain⟨b,e,h1,h2⟩:=h;refine⟨b,e,h1,(hg.block b (za1 h2) fun e'=>?_).trans h2⟩;have:=hv b e'.symm;omega
theorem New1.made (w8 W:World) (h:w8.heap.size<=W.heap.size) (x:Nat):New1 w8 (W.alloc (.cells #[.int .i64 (x:Int)] 3)) (.slice (some ⟨W.heap.size,0,none⟩) 1 1) x:=⟨_,rfl,h,heap_alloc_new W _⟩
theorem New1.ints (h:New1 w8 W u x):Ints W 0 u (ns [x]):=by
 obtain⟨b,rfl,h1,h2⟩:=h;exact zcz h2 (ygy _)
theorem Rows3.alloc (h:Rows3 B w8 W o1 o2 o3 v1 v2 v3 n1 n2 n3 f1 f2 f3) (o:Obj):Rows3 B w8 (W.alloc o) o1 o2 o3 v1 v2 v3 n1 n2 n3 f1 f2 f3:=
 ⟨za6 h.r1 ((ygr _ _).alloc (ygo _) _),za6 h.r2 ((ygr _ _).alloc (ygo _) _),za6 h.r3 ((ygr _ _).alloc (ygo _) _),h.a12,h.a13,h.a23,h.keep.alloc o,h.q1,h.q2,h.q3⟩
theorem Rows3.size (h:Rows3 B w8 W o1 o2 o3 v1 v2 v3 n1 n2 n3 f1 f2 f3):w8.heap.size<=W.heap.size:=h.keep.size
theorem zqj {v o:Value} (hq:∀ x,v.ownBlock=some x->o.ownBlock=some x∨w8.heap.size<=x) (hs:w8.heap.size<=W.heap.size) (ho:v'.ownBlock=v.ownBlock∨v'.ownBlock=some W.heap.size):∀ x,v'.ownBlock=some x->o.ownBlock=some x∨w8.heap.size<=x:=fun x ex=>by
 rcases ho with e|e
 .exact hq x (e▸ex)
 .rw[e] at ex;injection ex with ex
  exact .inr yjz
theorem zge {v t:Value} (ha:Ap v t) (ht:∀ b,t.ownBlock=some b->b<W.heap.size) (ho:v'.ownBlock=v.ownBlock∨v'.ownBlock=some W.heap.size):Ap v' t:=fun x ex et=>by
 rcases ho with e|e
 .exact ha x (e▸ex) et
 .rw[e] at ex;injection ex with ex
  have:=ht x et;omega
theorem zdv {v t:Value} {n:Nat} {f:Nat->Nat} (h:NRow W B t n f) (ha:Ap v t) (hg:W.grownBy W' v.ownBlock):NRow W' B t n f:=za7 h fun b e hb=>hg.block b hb fun e'=>ha b e'.symm e
theorem Rows3.app1 (h:Rows3 B w8 W o1 o2 o3 v1 v2 v3 n1 n2 n3 f1 f2 f3) (hr:Ints W' B v' (ns ((List.range n1).map f1)++ns [x])) (hg:W.grownBy W' v1.ownBlock) (ho:v'.ownBlock=v1.ownBlock∨v'.ownBlock=some W.heap.size):Rows3 B w8 W' o1 o2 o3 v' v2 v3 (n1+1) n2 n3 (upd f1 n1 x) f2 f3:=
 ⟨zbc hr,zdv h.r2 h.a12 hg,zdv h.r3 h.a13 hg,zge h.a12 (fun b e=>(ygs h.r2 b e).2) ho,zge h.a13 (fun b e=>(ygs h.r3 b e).2) ho,h.a23,h.keep.grown hg fun b e=>(h.q1 b e).imp (fun e => .inl e) id,zqj h.q1 h.size ho,h.q2,h.q3⟩
theorem Rows3.app2 (h:Rows3 B w8 W o1 o2 o3 v1 v2 v3 n1 n2 n3 f1 f2 f3) (hr:Ints W' B v' (ns ((List.range n2).map f2)++ns [x])) (hg:W.grownBy W' v2.ownBlock) (ho:v'.ownBlock=v2.ownBlock∨v'.ownBlock=some W.heap.size):Rows3 B w8 W' o1 o2 o3 v1 v' v3 n1 (n2+1) n3 f1 (upd f2 n2 x) f3:=
 ⟨zdv h.r1 (fun x e e'=>h.a12 x e' e) hg,zbc hr,zdv h.r3 h.a23 hg,fun x e e'=>zge (fun x e e'=>h.a12 x e' e) (fun b e=>(ygs h.r1 b e).2) ho x e' e,h.a13,zge h.a23 (fun b e=>(ygs h.r3 b e).2) ho,h.keep.grown hg fun b e=>(h.q2 b e).imp (fun e => .inr (.inl e)) id,h.q1,zqj h.q2 h.size ho,h.q3⟩
theorem Rows3.app3 (h:Rows3 B w8 W o1 o2 o3 v1 v2 v3 n1 n2 n3 f1 f2 f3) (hr:Ints W' B v' (ns ((List.range n3).map f3)++ns [x])) (hg:W.grownBy W' v3.ownBlock) (ho:v'.ownBlock=v3.ownBlock∨v'.ownBlock=some W.heap.size):Rows3 B w8 W' o1 o2 o3 v1 v2 v' n1 n2 (n3+1) f1 f2 (upd f3 n3 x):=
 ⟨zdv h.r1 (fun x e e'=>h.a13 x e' e) hg,zdv h.r2 (fun x e e'=>h.a23 x e' e) hg,zbc hr,h.a12,fun x e e'=>zge (fun x e e'=>h.a13 x e' e) (fun b e=>(ygs h.r1 b e).2) ho x e' e,fun x e e'=>zge (fun x e e'=>h.a23 x e' e) (fun b e=>(ygs h.r2 b e).2) ho x e' e,h.keep.grown hg fun b e=>(h.q3 b e).imp (fun e => .inr (.inr e)) id,h.q1,h.q2,zqj h.q3 h.size ho⟩
end
theorem PM.three {B g:Nat} {w8 W:World} {a b c d e m v1 v2 v3:Value} {p:PT} {x1 x2 x3:Nat} (h:PM w8 B g a b c d e m p) (hr:Rows3 B w8 W d e m v1 v2 v3 (p.n+1) (p.n+1) (p.n+1) (upd p.bg p.n x1) (upd p.en p.n x2) (upd p.md p.n x3)):
 PM (((W.setCell ⟨g,3,none⟩ v1).setCell ⟨g,4,none⟩ v2).setCell ⟨g,5,none⟩ v3) B g a b c v1 v2 v3 {p with n:=p.n+1,bg:=upd p.bg p.n x1,en:=upd p.en p.n x2,md:=upd p.md p.n x3}∧
  (∀ v∈[v1,v2,v3],∀ x,v.ownBlock=some x->w8.heap.size<=x∨∃ v∈[d,e,m],v.ownBlock=some x)∧
  Kept (fun x=>x=g∨∃ v∈[a,b,c,d,e,m],v.ownBlock=some x) w8 (((W.setCell ⟨g,3,none⟩ v1).setCell ⟨g,4,none⟩ v2).setCell ⟨g,5,none⟩ v3):=by
 have hap:=h.ap;simp only[yhq,yh4,forall_eq_or_imp,yh5,false_imp_iff,implies_true,and_true,yi5] at hap;obtain⟨⟨ab,ac,ad,ae,am⟩,⟨bc,bd,be,bm⟩,⟨cd,ce,cm⟩,⟨de,dm⟩,em⟩:=hap;have gl:g<w8.heap.size:=za1 h.box;have g1:=zbi h.rd h.box;have g2:=zbi h.re h.box;have g3:=zbi h.rm h.box;have hbox:W.heap[g]?=some (.cells #[a,b,c,d,e,m] 134 (0,0)):=(hr.keep.block g gl fun q=>by
  rcases q with q|q|q
  .exact g1 g q rfl
  .exact g2 g q rfl
  .exact g3 g q rfl).trans h.box
 have h1:=heap_setCell_same W g 3 _ _ v1 hbox;have h2:=heap_setCell_same _ g 4 _ _ v2 h1;have h3:=heap_setCell_same _ g 5 _ _ v3 h2;have kg:Kept (fun x=>x=g) W (((W.setCell ⟨g,3,none⟩ v1).setCell ⟨g,4,none⟩ v2).setCell ⟨g,5,none⟩ v3):=(((Kept.refl (fun x=>x=g) W).setCell (a:=⟨g,3,none⟩) (.inl rfl) v1).setCell (a:=⟨g,4,none⟩) (.inl rfl) v2).setCell (a:=⟨g,5,none⟩) (.inl rfl) v3;have old:∀ (v:Value) (n:Nat) (f:Nat->Nat),NRow w8 B v n f->Ap v d->Ap v e->Ap v m->NRow (((W.setCell ⟨g,3,none⟩ v1).setCell ⟨g,4,none⟩ v2).setCell ⟨g,5,none⟩ v3) B v n f:=fun v n f hv z1 z2 z3=>by
  refine NRow.kept (NRow.kept hv hr.keep fun x ex q=>?_) kg fun x ex q=>zbi hv h.box x ex q
  rcases q with q|q|q
  .exact z1 x ex q
  .exact z2 x ex q
  .exact z3 x ex q
 have neg:∀ (v o:Value),(∀ x,v.ownBlock=some x->o.ownBlock=some x∨w8.heap.size<=x)->(∀ x,o.ownBlock=some x->x≠g)->∀ x,v.ownBlock=some x->¬ x=g:=fun v o hq ho x ex e=>by
  rcases hq x ex with q|q
  .exact ho x q e
  .omega
 have apn:∀ (u v o:Value) (n:Nat) (f:Nat->Nat),NRow w8 B u n f->Ap u o->(∀ x,v.ownBlock=some x->o.ownBlock=some x∨w8.heap.size<=x)->Ap u v:=fun u v o n f hu z hq x ex ev=>by
  rcases hq x ev with q|q
  .exact z x ex q
  .have:=(ygs hu x ex).2;omega
 refine⟨⟨h.gB,h3,old a _ _ h.ra ad ae am,old b _ _ h.rb bd be bm,old c _ _ h.rc cd ce cm,hr.r1.kept kg (neg v1 d hr.q1 g1),hr.r2.kept kg (neg v2 e hr.q2 g2),hr.r3.kept kg (neg v3 m hr.q3 g3),?_⟩,?_,?_⟩
 .simp only[yhq,yh4,forall_eq_or_imp,yh5,false_imp_iff,implies_true,and_true,yi5];exact⟨⟨ab,ac,apn _ _ _ _ _ h.ra ad hr.q1,apn _ _ _ _ _ h.ra ae hr.q2,apn _ _ _ _ _ h.ra am hr.q3⟩,⟨bc,apn _ _ _ _ _ h.rb bd hr.q1,apn _ _ _ _ _ h.rb be hr.q2,apn _ _ _ _ _ h.rb bm hr.q3⟩,⟨apn _ _ _ _ _ h.rc cd hr.q1,apn _ _ _ _ _ h.rc ce hr.q2,apn _ _ _ _ _ h.rc cm hr.q3⟩,⟨hr.a12,hr.a13⟩,hr.a23⟩
 .intro v hv x ex;simp only[yh4,yh5,or_false] at hv;rcases hv with rfl|rfl|rfl
  .exact (hr.q1 x ex).elim (fun q => .inr ⟨d,by simp,q⟩) .inl
  .exact (hr.q2 x ex).elim (fun q => .inr ⟨e,by simp,q⟩) .inl
  .exact (hr.q3 x ex).elim (fun q => .inr ⟨m,by simp,q⟩) .inl
 .refine (hr.keep.mono fun x ex => .inl ?_).trans kg fun x ex => .inl (.inl ex)
  rcases ex with q|q|q
  .exact .inr ⟨d,by simp,q⟩
  .exact .inr ⟨e,by simp,q⟩
  .exact .inr ⟨m,by simp,q⟩
theorem Rows3.begin {B g:Nat} {w8:World} {a b c d e m:Value} {p:PT} (h:PM w8 B g a b c d e m p):Rows3 B w8 w8.drew d e m d e m p.n p.n p.n p.bg p.en p.md:=by
 have hap:=h.ap;simp only[yhq,yh4,forall_eq_or_imp,yh5,false_imp_iff,implies_true,and_true,yi5] at hap;obtain⟨_,_,_,⟨de,dm⟩,em⟩:=hap;exact⟨za6 h.rd (ygr _ _).drew,za6 h.re (ygr _ _).drew,za6 h.rm (ygr _ _).drew,de,dm,em,(Kept.refl _ _).drew,fun x e => .inl e,fun x e => .inl e,fun x e => .inl e⟩
end
section
open Go Go.RowKit
theorem zn8:∀ (E:List (Nat×Nat)) (i:Nat),endE E i<=E.length
 | E,i=>by
  have key:∀ i,endE E i=(E.filter fun e=>decide (e.1<=i)).length:=by
   intro i;induction i with
   | zero =>
    unfold endE cntE zc8;rw[yh8]
    congr 2
    funext e
    simp
   | succ i ih =>
    rw[endE,ih];unfold cntE zc8;rw[yh8];clear ih;induction E with
    | nil=>rfl
    | cons e E ihE =>
     simp only[List.filter_cons]
     by_cases c1:e.1<=i
     .rw[if_pos (by simpa using c1),if_neg yk8,if_pos yk8];simp only[yi8];omega
     .by_cases c2:e.1=i+1
      .rw[if_neg (by simpa using c1),if_pos (by simpa using c2),if_pos yk8];simp only[yi8];omega
      .rw[if_neg (by simpa using c1),if_neg (by simpa using c2),if_neg yk8];exact ihE
  rw[key i];exact yj1 _ _
theorem zkl (δ:Nat->Nat->Nat) (C:Nat):∀ S,(zec δ C S).length=S*C
 | 0=>by simp[zec]
 | S+1=>by
  rw[zec,ygu,zkl δ C S,rowE,yh8,List.length_range,yiq]
def RdL (w:World) (b:Nat) (A:Option Addr) (l:List Nat):Prop:=b<w.heap.size∧∀ (j:Nat) (x:Nat),l[j]?=some x->∃ off,A=some ⟨b,off,none⟩∧w.cell? ⟨b,off+j,none⟩=some (.int .i64 (x:Int))
theorem RdL.block' {w w':World} {b:Nat} {A:Option Addr} {l:List Nat} (h:RdL w b A l) (hb:w'.heap[b]?=w.heap[b]?):RdL w' b A l:=by
 refine⟨?_,fun j x hj=>?_⟩
 .have h1:w.heap[b]?=some (w.heap[b]'h.1):=Array.getElem?_eq_getElem h.1;rw[h1] at hb;exact za1 hb
 .obtain⟨off,e,hc⟩:=h.2 j x hj;exact⟨off,e,(yhs (w:=w) (a:=⟨b,off+j,none⟩) hb).trans hc⟩
def ziw (C:Nat) (vb vf:Value):Value := .agg #[.int .i64 (C:Int),vb,vf]
structure WM (w:World) (B:Nat) (vb vf:Value) (E:List (Nat×Nat)) (M:Nat) (f:Nat->Nat):Prop where
 rb:NRow w B vb (M+1) (begE E)
 rf:NRow w B vf M f
 fs:∀ i,(List.range (cntE E i)).map (fun j=>f (begE E i+j))=(zc8 E i).reverse
 len:E.length=M
theorem WM.kept {w w':World} {B M:Nat} {vb vf:Value} {E:List (Nat×Nat)} {f:Nat->Nat} {Q:Nat->Prop} (h:WM w B vb vf E M f) (hk:Kept Q w w') (h1:∀ b,vb.ownBlock=some b->¬ Q b) (h2:∀ b,vf.ownBlock=some b->¬ Q b):WM w' B vb vf E M f:=
 ⟨h.rb.kept hk h1,h.rf.kept hk h2,h.fs,h.len⟩
theorem zqi (w:World) (C t c:Nat) (vb vf:Value) (A1 A2:Option Addr) (n1 n2 c1 c2:Nat) (e1:vb = .slice A1 n1 c1) (e2:vf = .slice A2 n2 c2) (h:t*C+c<=1000000000):
 Calls Try.prog 65 #[ziw C vb vf,.int .i64 (t:Int),.int .i64 (c:Int)] w fun e w'=>e = .returned (.int .i64 ((t*C+c:Nat):Int))∧Below w.heap.size w w':=by
 subst e1 e2;unfold ziw;have hm:(t:Int)*(C:Int)<=1000000000∧0<=(t:Int)*(C:Int):=by
  have:((t*C:Nat):Int)=(t:Int)*(C:Int):=yjv t C;omega
 have h1:IntKind.i64.wrap ((t:Int)*(C:Int))=(t:Int)*(C:Int):=IntWalk.i64_in _ yjz;have hs:((t*C+c:Nat):Int)=(t:Int)*(C:Int)+(c:Int):=(by rw[yjt,yjv]);have h2:IntKind.i64.wrap ((t:Int)*(C:Int)+(c:Int))=((t*C+c:Nat):Int):=(by rw[←hs];exact IntWalk.i64_in _ yjz);have HS:=Zh hs;clear hs hm;go_enter Try.func65,Try.ntmps65;go_wp2;go_ret;exact⟨rfl,(ygr _ _).alloc (ygo _) _⟩
theorem NRow.cap {w:World} {B n b c:Nat} {f:Nat->Nat} (h:NRow w B (.slice (some ⟨b,0,none⟩) n c) n f):n<=c∧c<=maxLen:=by
 rcases h.2 with ⟨e,_⟩|⟨g',cap,cur,e,_,_,h1,h2,_⟩
 .cases e
 .injection e with e1 e2 e3
  rw[←e3] at h1 h2;exact⟨h1,h2⟩
theorem to_p {w:World} {B C t c M:Nat} {vb vf:Value} {E:List (Nat×Nat)} {f:Nat->Nat} (h:WM w B vb vf E M f) (hi:t*C+c<M) (hM:M<=100000000):
 Calls Try.prog 67 #[ziw C vb vf,.int .i64 (t:Int),.int .i64 (c:Int)] w fun e w'=>Below w.heap.size w w'∧∃ A cp bf,e = .returned (.slice A (zc8 E (t*C+c)).reverse.length cp)∧vf.ownBlock=some bf∧RdL w' bf A (zc8 E (t*C+c)).reverse:=by
 obtain⟨i,hii⟩:∃ i,t*C+c=i:=⟨_,rfl⟩;rw[hii] at hi ⊢;obtain⟨bb,cb,eb,ob,z0⟩:=h.rb.at (show i<M+1 by omega);obtain⟨bf,cf,ef,of,_⟩:=h.rf.at hi;subst eb ef;have z1:=(ygt h.rb (i+1) yjz).trans (zaz (show i+1<M+1 by omega));have hcb:=h.rb.cap;have hcf:=h.rf.cap;unfold maxLen at hcb hcf;have hE:=zel E i;have hle:=zn8 E i;rw[h.len] at hle;rw[hE.2] at z1;change w.cell? ⟨bb,i+1,none⟩=some (.int .i64 ((endE E i:Nat):Int)) at z1;obtain⟨b0,hb0⟩:∃ b0,begE E i=b0:=⟨_,rfl⟩;obtain⟨b1,hb1⟩:∃ b1,endE E i=b1:=⟨_,rfl⟩;rw[hb0] at z0;rw[hb1] at z1;rw[hb0,hb1] at hE;rw[hb1] at hle;have hcn:cntE E i=b1-b0:=yjz;have hln:(zc8 E i).reverse.length=b1-b0:=(by rw[List.length_reverse];exact hcn);have hfs:=h.fs i;rw[hcn,hb0] at hfs;have HW:=Zh h;have HB0:=Zh hb0;have HLN:=Zh hln;have HFS:=Zh hfs;have hbf:bf<w.heap.size:=by
  rcases h.rf.2 with ⟨e,_⟩|⟨g',cap,cur,e,_,hg,_⟩
  .cases e
  .injection e with e1 e2 e3
   injection e1 with e1
   injection e1 with e1
   rw[e1];exact za1 hg
 have HBF:=Zh hbf;have hx:=heap_alloc_new w (.cells #[.int .i64 (C:Int),.slice (some ⟨bb,0,none⟩) (M+1) cb,.slice (some ⟨bf,0,none⟩) M cf] 129);have HX:=Zh hx;have hix:=fun W=>zqi W C t c (.slice (some ⟨bb,0,none⟩) (M+1) cb) (.slice (some ⟨bf,0,none⟩) M cf) _ _ _ _ _ _ rfl rfl yjz
 rw[hii] at hix;unfold ziw at hix ⊢;have HIX:=Zh hix;have i1:(i:Int)<((M+1:Nat):Int):=yjz;have i0:(0:Int)<=(i:Int):=yjz;have i2:(i:Int)+1<((M+1:Nat):Int):=yjz;have i3:(i:Int)<=100000000:=yjz;have j0:(0:Int)<=(b0:Int):=yjz;have j1:(b0:Int)<=(b1:Int):=yjz;have j2:(b1:Int)<=(cf:Int):=yjz;have j3:(b1:Int)<=(M:Int):=yjz;rw[hln];have HZ0:=Zh z0;have HZ1:=Zh z1;have HJ:=Zh (And.intro hcf hle);clear h hb0 hb1 hE hle hcn hln hfs hii hi hbf hx hix hcb hcf z0 z1 ob of
 by_cases hcc:cf=b0
 .subst hcc;go_enter Try.func67,Try.ntmps67;go_upto_region 2 with (first
   | (go_at_call 65;(with_reducible refine (HIX.o _).mono ?_);rintro e w1 ⟨rfl,b1'⟩;have hx1:=(b1'.block w.heap.size yk3).trans HX.o;have q0:w1.cell? ⟨w.heap.size,0,none⟩=some (.int .i64 (C:Int)):=cell_of_row w1 w.heap.size 0 _ _ (0,0) hx1;have q1:w1.cell? ⟨w.heap.size,1,none⟩=some (.slice (some ⟨bb,0,none⟩) (M+1) cb):=cell_of_row w1 w.heap.size 1 _ _ (0,0) hx1;have q2:w1.cell? ⟨w.heap.size,2,none⟩=some (.slice (some ⟨bf,0,none⟩) M cf):=cell_of_row w1 w.heap.size 2 _ _ (0,0) hx1;have B1:=Zh ((zjb (ygr _ _) rfl _).trans (b1'.mono yk3));have z0:=za3 HZ0.o B1.o;have z1:=za3 HZ1.o B1.o;clear b1' hx1)
   | fail)
  go_quiet (fail);go_wp2;go_ret;refine⟨zb5 B1.o _,_,_,_,rfl,rfl,yh3 HBF.o B1.o.size,fun j x hj=>?_⟩;have h0:b1-cf=0:=yjz;rw[←HFS.o,h0] at hj;simp at hj
 .have hcc2:¬ (cf:Int)=(b0:Int):=yjz;go_enter Try.func67,Try.ntmps67;go_upto_region 2 with (first
   | (go_at_call 65;(with_reducible refine (HIX.o _).mono ?_);rintro e w1 ⟨rfl,b1'⟩;have hx1:=(b1'.block w.heap.size yk3).trans HX.o;have q0:w1.cell? ⟨w.heap.size,0,none⟩=some (.int .i64 (C:Int)):=cell_of_row w1 w.heap.size 0 _ _ (0,0) hx1;have q1:w1.cell? ⟨w.heap.size,1,none⟩=some (.slice (some ⟨bb,0,none⟩) (M+1) cb):=cell_of_row w1 w.heap.size 1 _ _ (0,0) hx1;have q2:w1.cell? ⟨w.heap.size,2,none⟩=some (.slice (some ⟨bf,0,none⟩) M cf):=cell_of_row w1 w.heap.size 2 _ _ (0,0) hx1;have B1:=Zh ((zjb (ygr _ _) rfl _).trans (b1'.mono yk3));have z0:=za3 HZ0.o B1.o;have z1:=za3 HZ1.o B1.o;clear b1' hx1)
   | fail)
  go_quiet (fail);go_wp2;go_ret;refine⟨zb5 B1.o _,_,_,_,rfl,rfl,yh3 HBF.o B1.o.size,fun j x hj=>?_⟩;rw[←HFS.o] at hj;have hjn:j<b1-b0:=by
   have:=(ygp.1 hj).1
   simpa using this
  rw[yhj,yir hjn] at hj;injection hj with hj
  subst hj;refine⟨b0,?_,?_⟩
  .rfl
  .have hlt:b0+j<M:=(by have:=HJ.o.2;omega);have:=(ygt HW.o.rf (b0+j) yjz).trans (zaz hlt);exact za3 this (zb5 B1.o _)
theorem ybc {w:World} {b off cap:Nat} {l:List Nat} (h:∀ (j:Nat) (x:Nat),l[j]?=some x->w.cell? ⟨b,off+j,none⟩=some (.int .i64 (x:Int))) (hl:l.length<=100000):
 Calls Try.prog 66 #[.slice (some ⟨b,off,none⟩) l.length cap] w fun e w'=>∃ v',e = .returned v'∧Ints w' w.heap.size v' (ns l)∧Below w.heap.size w w':=by
 obtain⟨i0,hi,hz0,hz1,hz2⟩:=info_parts Try.infoInt;have he:=Lib.run_eql_slice_some_nil (P:=Try.prog) w ⟨b,off,none⟩ l.length cap Try.underlying44;have hown:(w.alloc (.cells #[] 3)).ownsRow w.heap.size 3 1 (.slice (some ⟨w.heap.size,0,none⟩) 0 0) 0 []:=yj7 w #[] 0 (ygo _) yk6 rfl;have hnews:∀ j u,((ns l).map (Value.int .i64))[j]?=some u->(w.alloc (.cells #[] 3)).cell? ((⟨b,off,none⟩:Addr).add j)=some u:=by
  intro j u hu;rw[yhj] at hu;unfold ns at hu;rw[yhj] at hu;cases hx:l[j]? with
  | none=>rw[hx] at hu;cases hu
  | some x =>
   rw[hx] at hu;injection hu with hu
   subst hu;rw[Addr.add_lit];exact za3 (h j x hx) ((ygr _ _).alloc (ygo _) _)
 have hlen:(ns l).length=l.length:=za9 l;obtain⟨L,hL⟩:∃ L,l.length=L:=⟨_,rfl⟩;have HO:=Zh hown;have HN:=Zh hnews;have HL:=Zh hL;have HLN:=Zh hlen;rw[hL] at he hl ⊢;clear hown hnews h hL hlen;go_enter Try.func66,Try.ntmps66;go_wp2_with (at_builtin;refine wpList_append_own _ rfl _ _ 44 rfl w.heap.size 3 i0 _ 1 8 Try.underlying44 hi hz0 hz1 hz2 rfl yk6 _ _ _ rfl HO.o ⟨b,off,none⟩ L cap ((ns l).map (Value.int .i64)) rfl (by rw[yh8,HLN.o,HL.o,yib]) HN.o (zs4 (ns l)) ?c3 ?c4 ?c5 ?_)
 case c3=>unfold maxLen;omega
 case c4=>omega
 case c5=>simp
 .intro v' w2 hown' hgrow _;have HO2:=Zh hown';have hB2:Below w.heap.size w w2:=((ygr _ _).alloc (ygo _) _).grown hgrow yk3 (fun j e=>((HO.o).lt j e).1);have HB2:=Zh hB2;clear hgrow hown' hB2;go_wp2;go_ret;refine⟨_,rfl,?_,HB2.o⟩;have h2:=HO2.o;unfold Ints;rw[HLN.o,HL.o]
  simpa using h2
end
structure PW (l:List Nat) (p:PT):Prop where
 inv:PInv p
 nod:l.Nodup
 all:∀ k∈l,k<p.n∧0<p.md k
theorem PW.step {b:Nat} {l:List Nat} {p:PT} (h:PW (b::l) p):(b<p.n∧0<p.md b)∧PW l (zc6 p b)∧(zc6 p b).N=p.N∧zbf (b::l) p=zbf l (zc6 p b):=by
 have hb:=h.all b yk3;obtain⟨q1,q2,q3,_,q5⟩:=zrl h.inv hb.1 hb.2;obtain⟨n1,n2⟩:=yih.1 h.nod;refine⟨hb,⟨q1,n2,fun k hk=>?_⟩,q2,rfl⟩;have h1:=h.all k (by simp[hk]);have hne:k≠b:=fun e=>n1 (e▸hk)
 have hnn:p.n<=(zc6 p b).n:=by rcases q3 with ⟨e,_⟩|⟨e,_⟩ <;> omega
 exact⟨by omega,by rw[q5 k h1.1 hne];exact h1.2⟩
def Mkg (p:PT) (ms rem:List Nat) (r:PT×List Nat):Prop:=∃ done,MI p done r∧done++rem=ms
theorem yak {p:PT} (hp:PInv p) (hc:zik p):MI p [] (p,[]):=
 ⟨hp,rfl,rfl,rfl,fun x hx=>by simp;exact zmx hp hx (hc _ (hp.gn x hx)),by simp,fun k hk=>by simp;exact hc k hk,fun k hk=>by simp at hk⟩
theorem zwm {p:PT} (hp:PInv p) (hc:zik p) (ms:List Nat):Mkg p ms ms (p,[]):=⟨[],yak hp hc,rfl⟩
theorem yaj {p:PT} {ms rem:List Nat} {s:Nat} {r:PT×List Nat} (h:Mkg p ms (s::rem) r) (hn:ms.Nodup) (hs:∀ s∈ms,s<p.N):
 s<r.1.N∧¬ Mk r.1 s∧PInv r.1∧Mkg p ms rem (zgj r s):=by
 obtain⟨done,hi,e⟩:=h;have hsm:s∈ms:=(by rw[←e];simp);have hsN:=hs s hsm;have hsd:s∉done:=fun hm=>by
  rw[←e,yid] at hn;exact hn.2.2 s hm s yk3 rfl
 have hmk:¬ Mk r.1 s:=fun e=>hsd ((hi.mks s hsN).1 e)
 refine⟨by rw[hi.eN];exact hsN,hmk,hi.inv,done++[s],?_,by rw[←e];simp⟩;have h1:=zi6 (p:=p) [s] done r hi (by
  rw[←e] at hn;have:(done++[s]++rem).Nodup:=by simpa using hn
  exact (yid.1 this).1) (fun x hx=>by simp at hx;subst hx;exact hsN)
 simpa [zdo] using h1
theorem zoh {n:Nat}:∀ {l:List Nat},l.Nodup->(∀ k∈l,k<n)->l.length<=n:=by
 intro l hn hl;have:=List.Nodup.length_le_of_subset (l₂:=List.range n) hn (fun x hx=>yho.2 (hl x hx))
 simpa using this
theorem zwl {p:PT} {ms rem:List Nat} {r:PT×List Nat} (h:Mkg p ms rem r):r.2.length<=p.n∧r.1.N=p.N∧r.1.n=p.n:=by
 obtain⟨done,hi,e⟩:=h;exact⟨zoh hi.nod hi.sub,hi.eN,hi.en'⟩
theorem ydl {p:PT} {ms:List Nat} {r:PT×List Nat} (h:Mkg p ms [] r):PW r.2 r.1:=by
 obtain⟨done,hi,e⟩:=h;exact⟨hi.inv,hi.nod,fun k hk=>⟨by rw[hi.en'];exact hi.sub k hk,(hi.set k (hi.sub k hk)).1 hk⟩⟩
theorem zqs {p:PT} (hp:PInv p) (hc:zik p) {ms:List Nat} (hn:ms.Nodup) (hs:∀ s∈ms,s<p.N):PInv (zdj ms p)∧(zdj ms p).N=p.N∧zik (zdj ms p):=by
 have h:=zpe (alk:=fun s t=>s=t) (A:=fun _=>False) (g:=0) hp hc ⟨fun s t hs ht e=>by rw[e],fun s t hs ht h1 h2=>by
  have:=(h2 (p.grp s) (ygy _) (hp.gn s hs)).1 rfl;exact this.symm⟩ (ygy _) hn hs (fun s t e=>by rw[e])
 exact⟨h.1,h.2.1,h.2.2.2.2.1⟩
def zei (p:PT) (g:Nat):List Nat:=(List.range (p.en g-p.bg g)).map fun j=>p.st (p.bg g+j)
theorem zxq {p:PT} {g j:Nat} (h:j<p.en g-p.bg g):(zei p g)[j]?=some (p.st (p.bg g+j)):=by
 unfold zei;rw[yhj,yir h];rfl
theorem zxp (p:PT) (g:Nat):(zei p g).length=p.en g-p.bg g:=by simp[zei]
theorem zp5 {p:PT} (hp:PInv p) {g:Nat} (hg:g<p.n) (s:Nat):s∈zei p g↔s<p.N∧p.grp s=g:=by
 unfold zei;rw[yhx];constructor
 .rintro⟨j,hj,rfl⟩;rw[yho] at hj;obtain⟨h1,h2⟩:=hp.of g (p.bg g+j) hg yjz yjz;exact⟨hp.stN _ h1,h2⟩
 .rintro⟨h1,h2⟩;have:=hp.lo s h1;rw[h2] at this;exact⟨p.at' s-p.bg g,yho.2 yjz,by rw[show p.bg g+(p.at' s-p.bg g)=p.at' s by omega];exact hp.sa s h1⟩
theorem zkg {p:PT} (hp:PInv p) {g:Nat} (hg:g<p.n):(zei p g).Nodup:=by
 have hne:=hp.ne g hg;unfold zei;rw[yif,List.pairwise_map];refine List.Pairwise.imp_of_mem ?_ (yif.1 List.nodup_range);intro i j hi hj hij e;rw[yho] at hi hj;have h1:=hp.ats (p.bg g+i) yjz;have h2:=hp.ats (p.bg g+j) yjz;rw[e] at h1;omega
theorem zt6 (δ:Nat->Nat->Nat) (C S c t:Nat) (l:List Nat):zd9 δ C S c (t::l)=toW δ C S t c++zd9 δ C S c l:=rfl
section
open Go Go.RowKit
theorem PM.setD {w:World} {B g bd cd G v:Nat} {a b c e m:Value} {p:PT} (h:PM w B g a b c (.slice (some ⟨bd,0,none⟩) p.n cd) e m p):PM (w.setCell ⟨bd,G,none⟩ (.int .i64 (v:Int))) B g a b c (.slice (some ⟨bd,0,none⟩) p.n cd) e m {p with bg:=upd p.bg G v}:=by
 have hap:=h.ap;simp only[yhq,yh4,forall_eq_or_imp,yh5,false_imp_iff,implies_true,and_true,yi5,Ap] at hap;obtain⟨⟨_,_,x3,_,_⟩,⟨_,y3,_,_⟩,⟨z3,_,_⟩,⟨u4,u5⟩,_⟩:=hap;have k1:Kept (fun x=>x=bd) w (w.setCell ⟨bd,G,none⟩ (.int .i64 (v:Int))):=(Kept.refl (fun x=>x=bd) w).setCell (a:=⟨bd,G,none⟩) (.inl rfl) _;have g1:=zbi h.rd h.box bd rfl;have oth:∀ (u:Value) (n:Nat) (f:Nat->Nat),NRow w B u n f->(∀ x,u.ownBlock=some x->(Value.slice (some ⟨bd,0,none⟩) p.n cd).ownBlock≠some x)->NRow (w.setCell ⟨bd,G,none⟩ (.int .i64 (v:Int))) B u n f:=fun u n f hr z=>hr.kept k1 fun x e1 e2=>z x e1 (by rw[e2];rfl)
 exact⟨h.gB,(ygz _ _ _ _ (fun e'=>g1 e'.symm)).trans h.box,oth _ _ _ h.ra x3,oth _ _ _ h.rb y3,oth _ _ _ h.rc z3,h.rd.set G v,oth _ _ _ h.re fun x e1 e2=>u4 x e2 e1,oth _ _ _ h.rm fun x e1 e2=>u5 x e2 e1,h.ap⟩
theorem PM.setE {w:World} {B g be ce G v:Nat} {a b c d m:Value} {p:PT} (h:PM w B g a b c d (.slice (some ⟨be,0,none⟩) p.n ce) m p):PM (w.setCell ⟨be,G,none⟩ (.int .i64 (v:Int))) B g a b c d (.slice (some ⟨be,0,none⟩) p.n ce) m {p with en:=upd p.en G v}:=by
 have hap:=h.ap;simp only[yhq,yh4,forall_eq_or_imp,yh5,false_imp_iff,implies_true,and_true,yi5,Ap] at hap;obtain⟨⟨_,_,_,x4,_⟩,⟨_,_,y4,_⟩,⟨_,z4,_⟩,⟨u4,_⟩,t5⟩:=hap;have k1:Kept (fun x=>x=be) w (w.setCell ⟨be,G,none⟩ (.int .i64 (v:Int))):=(Kept.refl (fun x=>x=be) w).setCell (a:=⟨be,G,none⟩) (.inl rfl) _;have g1:=zbi h.re h.box be rfl;have oth:∀ (u:Value) (n:Nat) (f:Nat->Nat),NRow w B u n f->(∀ x,u.ownBlock=some x->(Value.slice (some ⟨be,0,none⟩) p.n ce).ownBlock≠some x)->NRow (w.setCell ⟨be,G,none⟩ (.int .i64 (v:Int))) B u n f:=fun u n f hr z=>hr.kept k1 fun x e1 e2=>z x e1 (by rw[e2];rfl)
 exact⟨h.gB,(ygz _ _ _ _ (fun e'=>g1 e'.symm)).trans h.box,oth _ _ _ h.ra x4,oth _ _ _ h.rb y4,oth _ _ _ h.rc z4,oth _ _ _ h.rd u4,h.re.set G v,oth _ _ _ h.rm fun x e1 e2=>t5 x e2 e1,h.ap⟩
theorem PM.setC {w:World} {B g bc cc s v:Nat} {a b d e m:Value} {p:PT} (h:PM w B g a b (.slice (some ⟨bc,0,none⟩) p.N cc) d e m p):PM (w.setCell ⟨bc,s,none⟩ (.int .i64 (v:Int))) B g a b (.slice (some ⟨bc,0,none⟩) p.N cc) d e m {p with grp:=upd p.grp s v}:=by
 have hap:=h.ap;simp only[yhq,yh4,forall_eq_or_imp,yh5,false_imp_iff,implies_true,and_true,yi5,Ap] at hap;obtain⟨⟨_,x2,_,_,_⟩,⟨y2,_,_,_⟩,⟨z3,z4,z5⟩,_⟩:=hap;have k1:Kept (fun x=>x=bc) w (w.setCell ⟨bc,s,none⟩ (.int .i64 (v:Int))):=(Kept.refl (fun x=>x=bc) w).setCell (a:=⟨bc,s,none⟩) (.inl rfl) _;have g1:=zbi h.rc h.box bc rfl;have oth:∀ (u:Value) (n:Nat) (f:Nat->Nat),NRow w B u n f->(∀ x,u.ownBlock=some x->(Value.slice (some ⟨bc,0,none⟩) p.N cc).ownBlock≠some x)->NRow (w.setCell ⟨bc,s,none⟩ (.int .i64 (v:Int))) B u n f:=fun u n f hr z=>hr.kept k1 fun x e1 e2=>z x e1 (by rw[e2];rfl)
 exact⟨h.gB,(ygz _ _ _ _ (fun e'=>g1 e'.symm)).trans h.box,oth _ _ _ h.ra x2,oth _ _ _ h.rb y2,h.rc.set s v,oth _ _ _ h.rd fun x e1 e2=>z3 x e2 e1,oth _ _ _ h.re fun x e1 e2=>z4 x e2 e1,oth _ _ _ h.rm fun x e1 e2=>z5 x e2 e1,h.ap⟩
theorem zs9 {w:World} {B g:Nat} {a b c d e m:Value} {p:PT} (h:PM w B g a b c d e m p):Calls Try.prog 53 #[.pointer (some ⟨g,0,none⟩)] w fun e' w'=>e' = .returned (.int .i64 (p.n:Int))∧w'=w:=by
 have c3:w.cell? ⟨g,3,none⟩=some d:=cell_of_row w g 3 _ _ (0,0) h.box;obtain⟨A,cd,hd⟩:∃ A c,d = .slice A p.n c:=by
  rcases h.rd.2 with ⟨e,e0⟩|⟨g,cap,cur,e,_⟩
  .exact⟨_,_,by rw[e,e0]⟩
  .exact⟨_,_,e⟩
 subst hd;generalize p.n=n at *;clear h;go_enter Try.func53,Try.ntmps53;go_wp2;go_ret;exact⟨rfl,rfl⟩
end
section
open Go Go.RowKit
def zq6 (n:Nat) (G:Nat->Nat) (k:Nat):List Value:=(List.range k).map fun i => .slice (some ⟨G i,0,none⟩) n n
theorem zzt (n:Nat) (G:Nat->Nat) (k i:Nat) (h:i<k):(zq6 n G k)[i]?=some (.slice (some ⟨G i,0,none⟩) n n):=by simp[zq6,h]
theorem ztp (n:Nat) (G:Nat->Nat) (k g:Nat):zq6 n (fun i=>if i=k then g else G i) (k+1)=zq6 n G k++[.slice (some ⟨g,0,none⟩) n n]:=by
 unfold zq6;rw[yi6,yhl]
 congr 1
 .refine yj0 fun i hi=>?_
  rw[yho] at hi
  show Value.slice (some ⟨if i=k then g else G i,0,none⟩) n n=_
  rw[if_neg yjz]
 .simp
def upd2 (L:Nat->Nat->Bool) (s t:Nat) (b:Bool):Nat->Nat->Bool:=fun i j=>if i=s then (if j=t then b else L i j) else L i j
structure MX (w:World) (B:Nat) (v:Value) (n k:Nat) (G:Nat->Nat) (L:Nat->Nat->Bool):Prop where
 row:w.ownsRow B 23 1 v k (zq6 n G k)
 rows:∀ i,i<k->Bools w B (G i) n (L i)
 inj:∀ i j,i<k->j<k->G i=G j->i=j
section
variable {w w':World} {B n k:Nat} {v v':Value} {G:Nat->Nat} {L L':Nat->Nat->Bool}
theorem MX.nil (w:World) (B n:Nat) (G:Nat->Nat) (L:Nat->Nat->Bool):MX w B (.slice none 0 0) n 0 G L:=⟨yhd w B _ 1,fun i hi=>absurd hi (yit _),fun i j hi=>absurd hi (yit _)⟩
theorem MX.form (h:MX w B v n k G L):∃ A c,v = .slice A k c:=by
 rcases h.row.2 with ⟨rfl,h0⟩|⟨g,cap,cur,rfl,_⟩
 .exact⟨none,0,by rw[h0]⟩
 .exact⟨_,_,rfl⟩
theorem MX.stays (h:MX w B v n k G L) (hb:Below w.heap.size w w'):MX w' B v n k G L:=⟨za6 h.row hb,fun i hi=>(h.rows i hi).stays hb,h.inj⟩
theorem MX.block (h:MX w B v n k G L) {b:Nat} (hb:v.ownBlock=some b):B<=b∧b<w.heap.size:=ygs h.row b hb
theorem MX.apart (h:MX w B v n k G L) {b:Nat} (hb:v.ownBlock=some b) (i:Nat) (hi:i<k):b≠G i:=by
 obtain⟨c1,h1⟩:=za8 h.row hb;obtain⟨c2,h2⟩:=(h.rows i hi).kind;exact za0 h1 h2 yk6
theorem MX.at (h:MX w B v n k G L) (i:Nat) (hi:i<k):∃ g c,v = .slice (some ⟨g,0,none⟩) k c∧w.cell? ⟨g,i,none⟩=some (.slice (some ⟨G i,0,none⟩) n n):=by
 rcases h.row.2 with ⟨_,h0⟩|⟨g,cap,cur,rfl,hB,hg,_⟩
 .omega
 .exact⟨g,cap,rfl,(ygt h.row i yjz).trans (zzt n G k i hi)⟩
theorem MX.set (h:MX w B v n k G L) {s t:Nat} (hs:s<k) (ht:t<n) (b:Bool):MX (w.setCell ⟨G s,t,none⟩ (.bool b)) B v n k G (upd2 L s t b):=by
 have ho:∀ c,c≠G s->(w.setCell ⟨G s,t,none⟩ (.bool b)).heap[c]?=w.heap[c]?:=fun c hc=>heap_setCell_other w ⟨G s,t,none⟩ c (.bool b) hc
 refine⟨za7 h.row fun c e _=>ho c (h.apart e s hs),fun i hi=>?_,h.inj⟩
 by_cases e:i=s
 .subst e;refine ((h.rows i hi).set t ht b).congr fun j hj=>?_
  simp[upd2]
 .refine ((h.rows i hi).block (ho _ fun e'=>e (h.inj i s hi hs e'))).congr fun j hj=>?_
  simp[upd2,e]
theorem yc0 {w:World} {B g n:Nat} {M:Array Value} {F:Nat->Bool} (hM:M.toList=zc0 n F) (h:w.heap[g]?=some (.cells M 4 (0,0))) (hB:B<=g) (hn:n<=100000000):Bools w B g n F:=by
 have hl:(zc0 n F).length=n:=(by simp[zc0]);have hs:M.size=n:=(by rw[←yij,hM,hl]);exact⟨by rw[hl,yib],.inr ⟨g,n,M,rfl,hB,h,ygo _,by unfold maxLen;omega,by rw[hs,yib],by rw[hM,yhg (by rw[hl];omega)]⟩⟩
theorem MX.push (h:MX w B v n k G L) (hB:B<=w.heap.size) (hn:n<=100000000) {M:Array Value} {o:Obj} {u:World} (hM:M.toList=zc0 n fun _=>false)
 (hr:u.ownsRow B 23 1 v' (k+1) (zq6 n G k++[.slice (some ⟨w.heap.size,0,none⟩) n n])) (hg:((w.alloc (.cells M 4)).alloc o).grownBy u v.ownBlock):
 MX u B v' n (k+1) (fun i=>if i=k then w.heap.size else G i) (fun i=>if i=k then fun _=>false else L i):=by
 have hb:Below w.heap.size w ((w.alloc (.cells M 4)).alloc o):=((ygr _ _).alloc (ygo _) _).alloc yk3 _;have hv:∀ b,v.ownBlock=some b->b<w.heap.size:=fun b e=>(h.block e).2
 have hnew:((w.alloc (.cells M 4)).alloc o).heap[w.heap.size]?=some (.cells M 4 (0,0)):=(yhf _ o w.heap.size yk3).trans (heap_alloc_new w _);have hN:Bools u B w.heap.size n (fun _=>false):=yc0 hM ((hg.block w.heap.size yk8 fun e=>by have:=hv _ e.symm;omega).trans hnew) hB hn;refine⟨by rw[ztp];exact hr,fun i hi=>?_,fun i j hi hj e=>?_⟩
 .by_cases e:i=k
  .simp only[e,if_true];exact hN
  .simp only[e,if_false];have hi':i<k:=yjz;refine ((h.rows i hi').stays hb).block (hg.block _ ((h.rows i hi').stays hb).in.2 fun e'=>?_);exact h.apart e'.symm i hi' rfl
 .by_cases e1:i=k <;> by_cases e2:j=k
  .omega
  .simp only[e1,e2,if_true,if_false] at e;have:=(h.rows j yjz).in.2;omega
  .simp only[e1,e2,if_true,if_false] at e;have:=(h.rows i yjz).in.2;omega
  .simp only[e1,e2,if_false] at e;exact h.inj i j yjz yjz e
end
theorem Try.infoBoolM:(Try.prog.info? 4).map (fun i=>(i.zero,i.size,i.bytes))=some (some (.bool false),1,1):=by kernel_rfl
theorem Try.infoBoolsM:(Try.prog.info? 23).map (fun i=>(i.zero,i.size,i.bytes))=some (some (.slice none 0 0),1,24):=by kernel_rfl
theorem zu4 (n:Nat) (hn:n<=100000000):∃ M:Array Value,M.toList=zc0 n (fun _=>false)∧∀ W:World,(Instr.makeSlice 23 (.int .i64 (n:Int)) (.int .i64 (n:Int))).run Try.prog W = .ok (.slice (some ⟨W.heap.size,0,none⟩) n n) (W.alloc (.cells M 4)):=by
 obtain⟨i1,a1,a2,a3,a4⟩:=info_parts Try.infoBoolM;refine⟨madeCells (Value.bool false).cells (n*1),zii n,fun W=>?_⟩;have:=run_make (P:=Try.prog) (w:=W) 23 4 i1 _ Try.underlying23 a1 a2 .i64 .i64 (n:Int) (n:Int) yjz (yjw _) (by rw[a4];omega) yjz;rw[a3] at this
 simpa using this
def cntM (n:Nat) (L:Nat->Nat->Bool):Nat:=(List.range (n*n)).countP fun k=>L (k / n) (k % n)
theorem zkn {α:Type} {p q:α->Bool}:∀ (l:List α),(∀ x∈l,q x=true->p x=true)->(∃ x∈l,p x=true∧q x=false)->l.countP q<l.countP p
 | [],_,h=>by obtain⟨x,hx,_⟩:=h;simp at hx
 | x::l,hle,h=>by
  have hmono:l.countP q<=l.countP p:=List.countP_mono_left fun y hy=>hle y (by simp[hy])
  rw[List.countP_cons,List.countP_cons]
  by_cases hx:p x=true∧q x=false
  .rw[hx.1,hx.2];simp;omega
  .have h':∃ y∈l,p y=true∧q y=false:=by
    obtain⟨y,hy,e⟩:=h;rcases yh4.1 hy with rfl|hy
    .exact absurd e hx
    .exact⟨y,hy,e⟩
   have:=zkn l (fun y hy=>hle y (by simp[hy])) h';have hq:=hle x yk3;cases hqx:q x with
   | false=>simp;omega
   | true=>rw[hq hqx];simp;omega
theorem ybu {n s t:Nat} {L:Nat->Nat->Bool} (hs:s<n) (ht:t<n) (h:L s t=true):cntM n (upd2 L s t false)<cntM n L:=by
 refine zkn _ (fun k _ hk=>?_) ⟨s*n+t,?_,?_,?_⟩
 .unfold upd2 at hk;split at hk
  .split at hk
   .cases hk
   .exact hk
  .exact hk
 .rw[yho]
  calc s*n+t<s*n+n:=by omega
   _=(s+1)*n:=by rw[yiq]
   _<=n*n:=yhv _ hs
 .have h1:(s*n+t) / n=s:=(by rw[yhz,Nat.mul_add_div yjz,Nat.div_eq_of_lt ht,yi2]);have h2:(s*n+t) % n=t:=(by rw[yhz,Nat.mul_add_mod,yjc ht]);rw[h1,h2];exact h
 .have h1:(s*n+t) / n=s:=(by rw[yhz,Nat.mul_add_div yjz,Nat.div_eq_of_lt ht,yi2]);have h2:(s*n+t) % n=t:=(by rw[yhz,Nat.mul_add_mod,yjc ht]);rw[h1,h2];simp[upd2]
structure AlkM {O:Type} (δ:Nat->Nat->Nat) (o:Nat->O) (N C:Nat) (L:Nat->Nat->Bool):Prop where
 sound:∀ s t,Alk δ o N C s t->L s t=true
 out:∀ s t,s<N->t<N->L s t=true->o s=o t
def zhx (δ:Nat->Nat->Nat) (C:Nat) (L:Nat->Nat->Bool) (s t:Nat):Prop:=L s t=true->∀ c,c<C->L (δ s c) (δ t c)=true
section
variable {O:Type} {δ:Nat->Nat->Nat} {o:Nat->O} {N C:Nat} {L:Nat->Nat->Bool}
theorem AlkM.drop (h:AlkM δ o N C L) (hδ:∀ s c,s<N->c<C->δ s c<N) {s t c:Nat} (hs:s<N) (ht:t<N) (hc:c<C) (hL:L (δ s c) (δ t c)=false):AlkM δ o N C (upd2 L s t false):=by
 refine⟨fun i j ha=>?_,fun i j hi hj hl=>h.out i j hi hj ?_⟩
 .unfold upd2;split
  .split
   .rename_i e1 e2;subst e1 e2;have:=h.sound (δ i c) (δ j c) ⟨hδ i c hs hc,hδ j c ht hc,fun w hw=>by
     have:=ha.2.2 (c::w) (fun d hd=>by
      rcases yh4.1 hd with rfl|hd
      .exact hc
      .exact hw d hd)
     simpa [goW] using this⟩
    rw[hL] at this;cases this
   .exact h.sound i j ha
  .exact h.sound i j ha
 .unfold upd2 at hl;split at hl
  .split at hl
   .cases hl
   .exact hl
  .exact hl
theorem AlkM.done (h:AlkM δ o N C L) (hδ:∀ s c,s<N->c<C->δ s c<N) (hcl:∀ s t,s<N->t<N->zhx δ C L s t) {s t:Nat} (hs:s<N) (ht:t<N):L s t=true↔Alk δ o N C s t:=by
 refine⟨fun hl=>⟨hs,ht,fun w hw=>?_⟩,fun ha=>h.sound s t ha⟩;have key:∀ (w:List Nat) (s t:Nat),s<N->t<N->L s t=true->(∀ c∈w,c<C)->o (goW δ w s)=o (goW δ w t):=by
  intro w;induction w with
  | nil=>intro s t hs ht hl _;exact h.out s t hs ht hl
  | cons c w ih =>
   intro s t hs ht hl hw;have hc:=hw c yk3;exact ih (δ s c) (δ t c) (hδ s c hs hc) (hδ t c ht hc) (hcl s t hs ht hl c hc) fun d hd=>hw d (by simp[hd])
 exact key w s t hs ht hl hw
end
end
end Go.Proofs.Ytipfgpfplakhiaa
