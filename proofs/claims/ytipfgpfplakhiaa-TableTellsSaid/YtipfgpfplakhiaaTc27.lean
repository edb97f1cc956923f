import Derived.Test.YtipfgpfplakhiaaTc14
import Derived.Test.YtipfgpfplakhiaaTc13
import Derived.Test.YtipfgpfplakhiaaTc16
set_option linter.unusedVariables false
set_option linter.unusedSimpArgs false
set_option maxRecDepth 20000
set_option maxHeartbeats 4000000
namespace Go.Proofs.Ytipfgpfplakhiaa
open Go Go.RowKit
section
attribute [local go_sem ↓] Go.wp_at_zero Go.wp_at_succ
attribute [local go_sem ↓] zh5
def zm9 (w:World) (C ga gs gf k:Nat) (vl:Value) (e:Bool) (s:Lay) (Q:Nat->Prop) (en:Ending) (w':World):Prop:=
 en = .returned (.tuple #[])∧∃ Q',NfaD w' C ga gs gf k vl e s Q'∧Kept Q w w'∧∀ b,Q' b->Q b∨w.heap.size<=b
def zz5 (N:Nat):Prop:=∀ (t:T) (w:World) (ok:Nat->Prop) (kv:Value) (a C ga gs gf k:Nat) (vl:Value) (e:Bool) (s:Lay) (Q:Nat->Prop),SizeOf.sizeOf t<=N->FT t->Tree w ok t kv->(∀ b,ok b->¬ Q b)->a+plT t<=k->k<=256->
 NfaD w C ga gs gf k vl e s Q->C<=w.heap.size->(∀ q,(s.follow.getD q []).length+plT t*plT t<=70000)->
 Calls Try.prog 44 #[.pointer (some ⟨ga,0,none⟩),zas t kv,.int .i64 (a:Int)] w (zm9 w C ga gs gf k vl e (folL t a s) Q)
theorem zr3 {w:World} {ok:Nat->Prop} {t:T} {g n c:Nat} (h:Tree w ok t (.slice (some ⟨g,0,none⟩) n c)):ok g:=by
 cases h
 assumption
theorem zer {w w':World} {ok:Nat->Prop} {Q:Nat->Prop} {t:T} {k:Value} (h:Tree w ok t k) (hk:Kept Q w w') (hq:∀ b,ok b->¬ Q b):Tree w' (fun b=>ok b∧b<w.heap.size) t k:=
 h.mono fun b h1 h2 _=>⟨hk.block b h2 (hq b h1),h1,h2⟩
structure Away (w:World) (v:Value) (l:List Nat) (Q:Nat->Prop):Prop where
 ints:Ints w 0 v (ns l)
 out:∀ b,v.ownBlock=some b->¬ Q b
structure FolIn (w:World) (C ga gs gf k:Nat) (vl:Value) (e:Bool) (Q:Nat->Prop) (t:T) (kv beg:Value) (bl:List Nat) (s:Lay) (Qj:Nat->Prop) (wr:World):Prop where
 box:Box8 wr w.heap.size t kv
 begA:Away wr beg bl Qj
 begB:∀ b,beg.ownBlock=some b->w.heap.size+1<=b
 D:NfaD wr C ga gs gf k vl e s Qj
 kept:Kept Q w wr
 q:∀ b,Qj b->Q b∨w.heap.size+1<=b
 ge:∀ b,Q b->b<w.heap.size
section
variable {w wr w2:World} {C ga gs gf k:Nat} {vl:Value} {e:Bool} {Q Qj Q2:Nat->Prop} {t:T} {kv beg beg2 v v' vp:Value} {bl l:List Nat} {s s2:Lay}
theorem Away.stays (h:Away wr v l Qj) (hb:Below wr.heap.size wr w2):Away w2 v l Qj:=⟨h.ints.stays hb,h.out⟩
theorem Away.off (h:Away wr v l Qj) (hk:Kept Qj wr w2) (hq:∀ b,Q2 b->Qj b∨wr.heap.size<=b):Away w2 v l Q2:=
 ⟨h.ints.off hk h.out,fun b e q=>(hq b q).elim (h.out b e) fun h2=>by have:=(h.ints.in e).2;omega⟩
theorem Away.ret {B:Nat} (h:Ints w2 B v (ns l)) (hB:wr.heap.size<=B) (hq:∀ b,Qj b->b<wr.heap.size):Away w2 v l Qj:=
 ⟨h.low (ygy _),fun b e q=>by have:=(h.in e).1;have:=hq b q;omega⟩
theorem FolIn.boxQ (h:FolIn w C ga gs gf k vl e Q t kv beg bl s Qj wr):¬ Qj w.heap.size:=fun q=>(h.q _ q).elim (fun q'=>by have:=h.ge _ q';omega) (fun q'=>by omega)
theorem FolIn.stays (h:FolIn w C ga gs gf k vl e Q t kv beg bl s Qj wr) (hb:Below wr.heap.size wr w2):FolIn w C ga gs gf k vl e Q t kv beg bl s Qj w2:=
 ⟨h.box.stays hb,h.begA.stays hb,h.begB,h.D.stays hb,h.kept.trans (Kept.of_below (fun _=>False) hb) fun b f=>f.elim,h.q,h.ge⟩
theorem FolIn.call (h:FolIn w C ga gs gf k vl e Q t kv beg bl s Qj wr) (hD:NfaD w2 C ga gs gf k vl e s2 Q2) (hk:Kept Qj wr w2) (hq:∀ b,Q2 b->Qj b∨wr.heap.size<=b):FolIn w C ga gs gf k vl e Q t kv beg bl s2 Q2 w2:=by
 have hs:=h.box.lt;refine⟨(hk.block _ hs h.boxQ).trans h.box,h.begA.off hk hq,h.begB,hD,h.kept.trans hk fun b q=>?_,fun b q=>(hq b q).elim (h.q b) fun q' => .inr yjz,h.ge⟩;exact (h.q b q).imp id fun q'=>by omega
theorem FolIn.grow (h:FolIn w C ga gs gf k vl e Q t kv beg bl s Qj wr) {o:Obj} {x:Nat} (hi:Ints w2 0 beg2 (ns (bl++[x]))) (hg:(wr.alloc o).grownBy w2 beg.ownBlock) (hor:beg2.ownBlock=beg.ownBlock∨beg2.ownBlock=some (wr.alloc o).heap.size):
 FolIn w C ga gs gf k vl e Q t kv beg2 (bl++[x]) s Qj w2:=by
 have hs:=h.box.lt;have hg2:wr.grownBy w2 beg.ownBlock:=(yjb wr _ _).trans hg;refine⟨h.box.grown hg2 fun e=>by have:=h.begB _ e.symm;omega,⟨hi,fun b e q=>?_⟩,fun b e=>?_,h.D.block hg2.size fun b q=>hg2.block b (h.D.ge b q).2 fun e=>h.begA.out b e.symm q,h.kept.grown hg2 fun b e => .inr (by have:=h.begB b e;omega),h.q,h.ge⟩
 .rcases hor with h' | h'
  .exact h.begA.out b (h'.symm.trans e) q
  .rw[e] at h';injection h' with h'
   have:=(h.D.ge b q).2;rw[yh0] at h';omega
 .rcases hor with h' | h'
  .exact h.begB b (h'.symm.trans e)
  .rw[e] at h';injection h' with h'
   rw[yh0] at h';omega
end
theorem zue {t:T} {w:World} {kv:Value} {a C ga gs gf k:Nat} {vl:Value} {e:Bool} {s:Lay} {Q:Nat->Prop} (ha:a+plT t<=k) (hk:k<=256) (hD:NfaD w C ga gs gf k vl e s Q) (hC:C<=w.heap.size) (h1:t.op=1):
 Calls Try.prog 44 #[.pointer (some ⟨ga,0,none⟩),zas t kv,.int .i64 (a:Int)] w (zm9 w C ga gs gf k vl e (folL t a s) Q):=by
 have hpl:1<=plT t:=(by cases t;simp only[T.op] at h1;subst h1;simp[plT]);have hak:a<k:=yjz;have hfl:folL t a s=⟨s.sets.set a t.set,s.follow⟩:=(by cases t;simp only[T.op] at h1;subst h1;simp[folL,T.set]);rw[hfl];have b1:=Box8.new w t kv;have hB:Below w.heap.size w (w.alloc (.cells #[.int .i64 t.op,.int .u64 (word t.set 0),.int .u64 (word t.set 1),.int .u64 (word t.set 2),.int .u64 (word t.set 3),.int .i64 t.lo,.int .i64 t.hi,kv] 67)):=(ygr _ _).alloc (ygo _) _;have hD1:=hD.stays hB;obtain⟨c0,c1,c2,c3,c4,c5,c6,c7⟩:=b1.cell;obtain⟨d0,d3⟩:=hD1.cell;obtain⟨e0,e3⟩:=hD.cell;have s0:=hD.rows.sets;rw[hD.ns] at s0;have z0:w.frozen? ⟨gs,a*4,none⟩=false:=yhh s0 _;have z1:w.frozen? ⟨gs,a*4+1,none⟩=false:=yhh s0 _;have z2:w.frozen? ⟨gs,a*4+2,none⟩=false:=yhh s0 _;have z3:w.frozen? ⟨gs,a*4+3,none⟩=false:=yhh s0 _;have hc:∀ q,q<4->∃ v,w.cell? ⟨gs,a*4+q,none⟩=some v:=fun q hq=>by
  rw[ygt s0 (a*4+q) yjz,zcs s.sets a q (by rw[hD.ns];exact hak) hq];exact⟨_,rfl⟩
 obtain⟨u0,y0⟩:=hc 0 yk6;obtain⟨u1,y1⟩:=hc 1 yk6;obtain⟨u2,y2⟩:=hc 2 yk6;obtain⟨u3,y3⟩:=hc 3 yk6;rw[yi2] at y0;have hb1:(t.op==1)=true:=(by simp[h1]);have p0:(0:Int)<=(a:Int):=yjz;have p1:(a:Int)<(k:Int):=yjz;have hset:=hD.setS a hak t.set;have hga:=(hD.ge _ hD.aQ).2;have hgs:=(hD.ge _ hD.sQ).2;have hsQ:=hD.sQ;have HSET:=Zh hset;have HD:=Zh hD;have HQ:=Zh hsQ;unfold zas;clear hc s0 hset hD1 hD hfl hpl ha h1 b1 hB hsQ;go_enter Try.func44,Try.ntmps44;go_wp2;go_region
 all_goals (try go_wp2)
 all_goals
  refine bodyPost_ret (v := .tuple #[]) (by simp[results,Try.results44]) rfl ⟨rfl,Q,((HSET.o.alloc _).block (ygo _) (fun _ _=>rfl)),?_,fun b h => .inl h⟩;exact ((((((Kept.refl Q w).setCell (a:=⟨gs,a*4,none⟩) (.inl HQ.o) _).setCell (a:=⟨gs,a*4+1,none⟩) (.inl HQ.o) _).setCell (a:=⟨gs,a*4+2,none⟩) (.inl HQ.o) _).setCell (a:=⟨gs,a*4+3,none⟩) (.inl HQ.o) _).alloc _).drew
theorem yba (w:World) (x:Int):Ints (w.alloc (.cells #[.int .i64 x] 3)) w.heap.size (.slice (some ⟨w.heap.size,0,none⟩) 1 1) [x]:=
 yj7 (base:=w.heap.size) (e:=3) (size:=1) w #[.int .i64 x] 1 (ygo _) yk6 rfl
theorem ybj {N:Nat} (ih:zz5 N) {t:T} {w:World} {ok:Nat->Prop} {kv:Value} {a C ga gs gf k:Nat} {vl:Value} {e:Bool} {s:Lay} {Q:Nat->Prop} (hN:SizeOf.sizeOf t<=N+1) (hft:FT t) (ht:Tree w ok t kv) (hokQ:∀ b,ok b->¬ Q b)
 (ha:a+plT t<=k) (hk:k<=256) (hD:NfaD w C ga gs gf k vl e s Q) (hC:C<=w.heap.size) (hlen70:∀ q,(s.follow.getD q []).length+plT t*plT t<=70000) (h1:t.op≠1):
 Calls Try.prog 44 #[.pointer (some ⟨ga,0,none⟩),zas t kv,.int .i64 (a:Int)] w (zm9 w C ga gs gf k vl e (folL t a s) Q):=by
 obtain⟨A,n',c,rfl⟩:=ht.form;obtain⟨hn,hm⟩:=ht.bound;have hlen:=hft.len;rw[←hn] at hlen;unfold maxLen at hm;have hpl:plTL t.kids=plT t:=(by cases t;simp only[T.op] at h1;simp[plT,T.kids,h1]);have hsc:=yd0 t.kids;rw[hpl] at hsc;have b1:=Box8.new w t (.slice A n' c);have hB:Below w.heap.size w (w.alloc (.cells #[.int .i64 t.op,.int .u64 (word t.set 0),.int .u64 (word t.set 1),.int .u64 (word t.set 2),.int .u64 (word t.set 3),.int .i64 t.lo,.int .i64 t.hi,.slice A n' c] 67)):=(ygr _ _).alloc (ygo _) _;obtain⟨c0,c1,c2,c3,c4,c5,c6,c7⟩:=b1.cell;have hF0:FolIn w C ga gs gf k vl e Q t (.slice A n' c) (.slice none 0 0) [] s Q (w.alloc (.cells #[.int .i64 t.op,.int .u64 (word t.set 0),.int .u64 (word t.set 1),.int .u64 (word t.set 2),.int .u64 (word t.set 3),.int .i64 t.lo,.int .i64 t.hi,.slice A n' c] 67)):=
  ⟨b1,⟨Ints.nil _ _,fun b e=>ykt⟩,fun b e=>ykt,hD.stays hB,Kept.of_below _ hB,fun b q => .inl q,fun b q=>(hD.ge b q).2⟩
 have hb1:(t.op==1)=false:=(by simp[h1]);unfold zas;have HN:=Zh hn;have HT:=Zh ht;have HFT:=Zh hft;have IH:=Zh ih;have HF0:=Zh hF0;have HSZ:=Zh hN;have HPL:=Zh hpl;have HSC:=Zh hsc;have HM:=Zh hm;have H1:=Zh h1;have HOK:=Zh hokQ;have HC:=Zh hC;have HL:=Zh hlen70;clear hn ih hft b1 hB ht hN hpl hm h1 hD hF0 hokQ hC hlen70 hsc;go_enter Try.func44,Try.ntmps44;go_wp2;go_loopg [2,6,7] n' (fun m at_ beg i wr=>∃ (j:Nat) (Qj:Nat->Prop),i = .int .i64 (j:Int)∧j<=n'∧m=n'-j∧at_ = .int .i64 ((a+plTL (t.kids.take j):Nat):Int)∧FolIn w C ga gs gf k vl e Q t (.slice A n' c) beg (begL t.kids a j) (zby (t.kids.take j) a s) Qj wr)
 case atStart=>exact⟨0,Q,rfl,ygy _,rfl,rfl,by simpa [begL,zby] using HF0.o⟩
 case round =>
  clear c0 c1 c2 c3 c4 c5 c6 c7;obtain⟨j,Qj,rfl,hj,hmj,rfl,hF⟩:=hrel;have HMJ:=Zh hmj;obtain⟨Ab,cb,hfb⟩:=hF.begA.ints.form;rw[za9,zcf] at hfb;subst hfb;obtain⟨c0,c1,c2,c3,c4,c5,c6,c7⟩:=hF.box.cell;have hg0:w.heap.size<wr.heap.size:=hF.box.lt;have HF:=Zh hF;clear hmj hF
  by_cases hlt:j<n'
  .have hlt':j<t.kids.length:=ykr;obtain⟨g,B,m1,m2,e1,hg1,htk,hcells⟩:=kid8 HT.o j (ygn hlt');subst e1;have hokg:¬ Q g:=HOK.o g (zr3 HT.o);have hwk:=HFT.o.at j hlt';have hks:=zcy t j hlt';have hst:=zeu t.kids j hlt';have hsl:=zi2 t.kids (j+1);have hpn:=zrj hwk;have hbs:=zpr t.kids a j;have hkt:=zua t.kids j hlt' a s;have hsq:=ycz t.kids j hlt';have hsq2:=ztg t.kids (j+1);have hgr:=zj7 (t.kids.take j) a s;generalize t.kids[j]=u at *;have hpb:a+plTL (t.kids.take j)+plT u<=k:=ykv;have hpu:plN u=plT u:=yjz;have hl70:∀ q,((zby (t.kids.take j) a s).follow.getD q []).length+plT u*plT u<=70000:=fun q=>by
    have:=HL.o q;have:=hgr q;have:=HSC.o;omega
   have hforall:∀ w',Kept Q w w'->w'.cell? ⟨g,j*8,none⟩=some (.int .i64 u.op)∧w'.cell? ⟨g,j*8+1,none⟩=some (.int .u64 (word u.set 0))∧w'.cell? ⟨g,j*8+2,none⟩=some (.int .u64 (word u.set 1))∧w'.cell? ⟨g,j*8+3,none⟩=some (.int .u64 (word u.set 2))∧w'.cell? ⟨g,j*8+4,none⟩=some (.int .u64 (word u.set 3))∧w'.cell? ⟨g,j*8+5,none⟩=some (.int .i64 u.lo)∧w'.cell? ⟨g,j*8+6,none⟩=some (.int .i64 u.hi)∧w'.cell? ⟨g,j*8+7,none⟩=some (.slice B m1 m2):=fun w' hb=>by
    have HCk:∀ q v,(zb6 u (.slice B m1 m2))[q]?=some v->w'.cell? ⟨g,j*8+q,none⟩=some v:=fun q v h=>by rw[yhz j 8];exact hb.cell (hcells q v h) hokg
    exact⟨HCk 0 _ rfl,HCk 1 _ rfl,HCk 2 _ rfl,HCk 3 _ rfl,HCk 4 _ rfl,HCk 5 _ rfl,HCk 6 _ rfl,HCk 7 _ rfl⟩
   have HCA:=Zh hforall;have HTK:=Zh htk;have HWK:=Zh hwk;have HST:=Zh hst;have HBS:=Zh hbs;have HPU:=Zh hpu;have HPB:=Zh hpb;have HKT:=Zh hkt;have HL7:=Zh hl70;have HKS:=Zh hks;have HKP:=Zh (fun (w':World) (hb:Kept Q w w')=>zob (w:=w') hwk (zer htk hb HOK.o));have hb13:a+plTL (t.kids.take j)+plT u<=k:=hpb;have HK:=Zh (fun (w':World) (beg:Value) (bl:List Nat) (hF':FolIn w C ga gs gf k vl e Q t (.slice (some ⟨g,0,none⟩) n' c) beg bl (zby (t.kids.take j) a s) Qj w') =>
    IH.o u w' _ (.slice B m1 m2) (a+plTL (t.kids.take j)) C ga gs gf k vl e _ Qj (by have:=HSZ.o;omega) hwk (zer htk hF'.kept HOK.o) (fun b hb q=>(hF'.q b q).elim (HOK.o b hb.1) fun q'=>by omega) hb13 hk hF'.D (ygw HC.o hF'.kept.size) hl70)
   have hpb2:plTL (t.kids.take j)<=256:=yjz;clear hforall hcells htk hwk hst hbs hpu hpn hsl hkt hl70 hks hpb hsq hsq2 hgr;generalize plTL (t.kids.take j)=S at *;unfold zas zm9 at HK;unfold zas zea at HKP;simp only[yjt] at HK;go_wp2_with (first
    | (at_builtin;refine zaw rfl _ _ yk5 yk5 yk5 (HF.o.begA.ints.alloc _) (yba wr ((a+S:Nat):Int)) (by rw[za9,zcf];simp;omega) (ygy _) ?_;intro v6 w6 i6 g6 o6;have hF6:=HF.o.grow (x:=a+S) (by rw[zef];exact i6) g6 o6;have HF6:=Zh hF6;clear i6 g6 o6;obtain⟨d0,d1,d2,d3,d4,d5,d6,d7⟩:=hF6.box.cell;obtain⟨k0,k1,k2,k3,k4,k5,k6,k7⟩:=HCA.o w6 hF6.kept;clear hF6)
    | (go_at_call 44;(with_reducible refine (HK.o _ _ _ HF6.o).mono ?_);rintro e7 w7 ⟨rfl,Q7,D7,K7,q7⟩;have hF7:=HF6.o.call D7 K7 q7;have HF7:=Zh hF7;clear D7 K7 q7;obtain⟨x0,x1,x2,x3,x4,x5,x6,x7⟩:=hF7.box.cell;obtain⟨y0,y1,y2,y3,y4,y5,y6,y7⟩:=HCA.o w7 hF7.kept;clear hF7)
    | (go_at_call 41;(with_reducible refine (HKP.o _ HF7.o.kept).mono ?_);rintro e8 w8 ⟨rfl,hb8⟩;rw[HPU.o];have HF8:=Zh (HF7.o.stays hb8);clear hb8)
    | fail)
   go_roundg (n'-(j+1))
   case measure=>have:=HMJ.o;omega
   case rel=>exact⟨j+1,Q7,by go_num,by omega,rfl,by rw[HST.o];go_num,by rw[HBS.o,HKT.o];exact HF8.o⟩
  .have hjn:j=n':=yjz;subst hjn;have htk:t.kids.take j=t.kids:=(by rw[HN.o];exact yhn);rw[htk] at HF;cases hb2:(t.op==2)
   .have hfl:folL t a s=zby t.kids a s:=by
     have h2:t.op≠2:=(by simpa using hb2);have h1:=H1.o;cases t;simp only[T.op] at h1 h2;simp[folL,T.kids,h1,h2]
    have HFL:=Zh hfl;have hb2':(t.op != 2)=true:=(by simp[bne,hb2]);have HFF:=Zh HF.o;clear hfl htk hb2;go_wp2;refine bodyPost_ret (v := .tuple #[]) (by simp[results,Try.results44]) rfl ⟨rfl,Qj,by rw[HFL.o];exact HFF.o.D,HFF.o.kept,fun b h=>(HFF.o.q b h).imp id fun h=>by omega⟩
   .have hfl:folL t a s=⟨(zby t.kids a s).sets,zd8 t.kids a (zby t.kids a s).follow⟩:=by
     have h2:t.op=2:=(by simpa using hb2);cases t;simp only[T.op] at h2;subst h2;simp[folL,T.kids]
    have hb2':(t.op != 2)=false:=(by simp[bne,hb2]);have hgr:∀ q,(((zby t.kids a s).follow).getD q []).length+cr t.kids<=70000:=fun q=>by
     have:=zj7 t.kids a s q;have:=HL.o q;have:=HSC.o;omega
    have HGR:=Zh hgr;generalize hTG:zd8 t.kids a (zby t.kids a s).follow=TG at *;have HTG:=Zh hTG;generalize zby t.kids a s=s1 at *;have HFL:=Zh hfl;clear hfl htk hb2 hlt hj hgr hTG;go_wp2;go_loopg [8] j (fun m i wr=>∃ (q:Nat) (Qi:Nat->Prop) (F:List (List Nat)),i = .int .i64 (q:Int)∧q<=j∧m=j-q∧FolIn w C ga gs gf k vl e Q t (.slice A j c) (.slice Ab j cb) (begL t.kids a j) ⟨s1.sets,F⟩ Qi wr∧
     zd8 (t.kids.drop q) (a+plTL (t.kids.take q)) F=TG∧∀ x,(F.getD x []).length+cr (t.kids.drop q)<=70000)
    case atStart=>exact⟨0,Qj,s1.follow,rfl,ygy _,rfl,HF.o,by simpa [plTL] using HTG.o,by simpa using HGR.o⟩
    case round =>
     obtain⟨q,Qi,F,rfl,hq,hmq,hF2,hcr,hbd⟩:=hrel;have HMQ:=Zh hmq;have HF2:=Zh hF2;have HCR:=Zh hcr;have HBD:=Zh hbd;obtain⟨c0,c1,c2,c3,c4,c5,c6,c7⟩:=hF2.box.cell;have hz0:w.heap.size<wr.heap.size:=hF2.box.lt;clear hmq hF2 hcr hbd
     by_cases hqj:q<j
     .have hqt:q<t.kids.length:=(by rw[←HN.o];exact hqj);obtain⟨g,B,m1,m2,e1,hg1,htk,hcells⟩:=kid8 HT.o q (ygn hqt);subst e1;have hokg:¬ Q g:=HOK.o g (zr3 HT.o);obtain⟨gb,cb',e2,hgb0,hgb1,hgb2⟩:=HF2.o.begA.ints.at q (by rw[za9,zcf];exact hqj);rw[za9,zcf] at e2;injection e2 with f1 f2 f3
      subst f1 f3;clear f2;have hbv:(ns (begL t.kids a j))[q]'(by rw[za9,zcf];exact hqj)=((a+plTL (t.kids.take q):Nat):Int):=(by simp[ns,begL]);rw[hbv] at hgb2;have hwk:=HFT.o.at q hqt;have hst:=zeu t.kids q hqt;have hsl:=zi2 t.kids (q+1);have hcd:=zqq t.kids q hqt (a+plTL (t.kids.take q)) F;have hcrd:=ye7 t.kids q hqt;have hcr:=HCR.o;have hbd:=HBD.o;rw[hcd] at hcr;simp only[hcrd] at hbd;generalize t.kids[q]=u at *;have hpb:a+plTL (t.kids.take q)+plT u<=k:=ykv;have hforall:∀ w',Kept Q w w'->w'.cell? ⟨g,q*8,none⟩=some (.int .i64 u.op)∧w'.cell? ⟨g,q*8+1,none⟩=some (.int .u64 (word u.set 0))∧w'.cell? ⟨g,q*8+2,none⟩=some (.int .u64 (word u.set 1))∧w'.cell? ⟨g,q*8+3,none⟩=some (.int .u64 (word u.set 2))∧w'.cell? ⟨g,q*8+4,none⟩=some (.int .u64 (word u.set 3))∧w'.cell? ⟨g,q*8+5,none⟩=some (.int .i64 u.lo)∧w'.cell? ⟨g,q*8+6,none⟩=some (.int .i64 u.hi)∧w'.cell? ⟨g,q*8+7,none⟩=some (.slice B m1 m2):=fun w' hb=>by
       have HCk:∀ p v,(zb6 u (.slice B m1 m2))[p]?=some v->w'.cell? ⟨g,q*8+p,none⟩=some v:=fun p v h=>by rw[yhz q 8];exact hb.cell (hcells p v h) hokg
       exact⟨HCk 0 _ rfl,HCk 1 _ rfl,HCk 2 _ rfl,HCk 3 _ rfl,HCk 4 _ rfl,HCk 5 _ rfl,HCk 6 _ rfl,HCk 7 _ rfl⟩
      obtain⟨k0,k1,k2,k3,k4,k5,k6,k7⟩:=hforall wr HF2.o.kept;have HK:=Zh (fun (w':World) (hb:Kept Q w w')=>zn7 (b:=true) hwk (zer htk hb HOK.o) (show a+plTL (t.kids.take q)+plT u<=256 by omega));have hll:=zi7 u (a+plTL (t.kids.take q));have hlin:=zoo u (a+plTL (t.kids.take q));unfold zas zff zeb at HK;simp only[yjt,if_true] at HK;have hb3:a+plTL (t.kids.take (q+1))=a+plTL (t.kids.take q)+plT u:=yjz;have hpt:a+plTL (t.kids.take q)<=256:=yjz;obtain⟨S,hS⟩:∃ S,plTL (t.kids.take q)=S:=⟨_,rfl⟩;rw[hS] at hpt hb3 hlin hll HK hpb hcr hgb2 hst;obtain⟨ps,hps⟩:∃ ps,lstT u (a+S)=ps:=⟨_,rfl⟩;rw[hps] at hlin hll HK hcr;have HST:=Zh hst;have HB3:=Zh hb3;have HLL:=Zh hll;have HLIN:=Zh hlin;have HPB:=Zh hpb;have HCR2:=Zh hcr;have HBD2:=Zh hbd;clear hforall hcells htk hwk hst hsl hcd hcrd hcr hbd hb3 hll hlin hpb HCR HBD hS hps hbv;go_upto_region 14 with fail
      go_still_tail 9,yk2;change wpList _ _ _ _ _ (World.drew _);go_wp2_with (first
       | (go_at_call 46;(refine (HK.o wr.drew HF2.o.kept.drew).mono ?_);rintro e5 w5 ⟨v5,rfl,i5,b5⟩;have hF5:=HF2.o.stays (zd5 b5);have HA5:=Zh (Away.ret (Qj:=Qi) i5 (ygo _) (fun b q=>(HF2.o.D.ge b q).2));have HF5:=Zh hF5;obtain⟨A5,n5,m5,hf5⟩:=i5.form3;subst hf5;clear hF5 i5 b5)
       | fail)
      focus
       go_loopg [10] (j-(q+1)) (fun m i wr=>∃ (p:Nat) (Qj:Nat->Prop) (F:List (List Nat)),i = .int .i64 (p:Int)∧q+1<=p∧p<=j∧m=j-p∧FolIn w C ga gs gf k vl e Q t (.slice (some ⟨g,0,none⟩) j c) (.slice (some ⟨gb,0,none⟩) j cb) (begL t.kids a j) ⟨s1.sets,F⟩ Qj wr∧Away wr (.slice A5 n5 m5) ps Qj∧
        zd8 (t.kids.drop (q+1)) (a+S+plT u) (zdp (t.kids.drop p) ps (a+plTL (t.kids.take p)) F)=TG∧∀ x,(F.getD x []).length+ps.length*plTL (t.kids.drop p)+cr (t.kids.drop (q+1))<=70000)
       case atStart =>
        refine⟨q+1,Qi,F,by go_num,ygo _,by omega,rfl,HF5.o,HA5.o,by rw[HB3.o];exact HCR2.o,fun x=>?_⟩;have h1:=HBD2.o x;have h2:=yhv (plTL (t.kids.drop (q+1))) HLL.o;omega
       case round =>
        obtain⟨p,Qj,Fj,rfl,hqp,hp,hmp,hF3,hA3,hcr3,hbd3⟩:=hrel;have HMP:=Zh hmp;have HF3:=Zh hF3;have HA3:=Zh hA3;have HCR3:=Zh hcr3;have HBD3:=Zh hbd3;obtain⟨c0,c1,c2,c3,c4,c5,c6,c7⟩:=hF3.box.cell;have hz0:w.heap.size<wr.heap.size:=hF3.box.lt;clear hmp hF3 hA3 hcr3 hbd3
        by_cases hpj:p<j
        .have hpt':p<t.kids.length:=(by rw[←HN.o];exact hpj);obtain⟨g',B',m1',m2',e1,hg1',htk,hcells⟩:=kid8 HT.o p (ygn hpt');obtain rfl:g=g':=by simpa using e1
         clear e1;obtain⟨gb',cb'',e2,hgb0,hgb1,hgb2⟩:=HF3.o.begA.ints.at p (by rw[za9,zcf];exact hpj);obtain rfl:gb=gb':=by simp at e2;exact e2.1
         clear e2;have hbv:(ns (begL t.kids a j))[p]'(by rw[za9,zcf];exact hpj)=((a+plTL (t.kids.take p):Nat):Int):=(by simp[ns,begL]);rw[hbv] at hgb2;have hwk:=HFT.o.at p hpt';have hst:=zeu t.kids p hpt';have hsl:=zi2 t.kids (p+1);have hld:=zqf t.kids p hpt' ps (a+plTL (t.kids.take p)) Fj;have hpd:=zw1 t.kids p hpt';have hcr:=HCR3.o;have hbd:=HBD3.o;rw[hld] at hcr;simp only[hpd] at hbd;generalize t.kids[p]=v at *;have hpb:a+plTL (t.kids.take p)+plT v<=k:=ykv;have hforall:∀ w',Kept Q w w'->w'.cell? ⟨g,p*8,none⟩=some (.int .i64 v.op)∧w'.cell? ⟨g,p*8+1,none⟩=some (.int .u64 (word v.set 0))∧w'.cell? ⟨g,p*8+2,none⟩=some (.int .u64 (word v.set 1))∧w'.cell? ⟨g,p*8+3,none⟩=some (.int .u64 (word v.set 2))∧w'.cell? ⟨g,p*8+4,none⟩=some (.int .u64 (word v.set 3))∧w'.cell? ⟨g,p*8+5,none⟩=some (.int .i64 v.lo)∧w'.cell? ⟨g,p*8+6,none⟩=some (.int .i64 v.hi)∧w'.cell? ⟨g,p*8+7,none⟩=some (.slice B' m1' m2'):=fun w' hb=>by
          have HCk:∀ x y,(zb6 v (.slice B' m1' m2'))[x]?=some y->w'.cell? ⟨g,p*8+x,none⟩=some y:=fun x y h=>by rw[yhz p 8];exact hb.cell (hcells x y h) hokg
          exact⟨HCk 0 _ rfl,HCk 1 _ rfl,HCk 2 _ rfl,HCk 3 _ rfl,HCk 4 _ rfl,HCk 5 _ rfl,HCk 6 _ rfl,HCk 7 _ rfl⟩
         have HCA:=Zh hforall;obtain⟨k0,k1,k2,k3,k4,k5,k6,k7⟩:=hforall wr HF3.o.kept;have HK2:=Zh (fun (w':World) (hb:Kept Q w w')=>zn7 (b:=false) hwk (zer htk hb HOK.o) (show a+plTL (t.kids.take p)+plT v<=256 by omega));have HKE:=Zh (fun (w':World) (hb:Kept Q w w')=>zqp (w:=w') hwk (zer htk hb HOK.o));have hfl:=zih v (a+plTL (t.kids.take p));unfold zas zff zeb at HK2;unfold zas at HKE;simp only[yjt,yi0,if_false] at HK2;have hb4:a+plTL (t.kids.take (p+1))=a+plTL (t.kids.take p)+plT v:=yjz;have hpt2:a+plTL (t.kids.take p)<=256:=yjz;obtain⟨S',hS'⟩:∃ S',plTL (t.kids.take p)=S':=⟨_,rfl⟩;rw[hS'] at hpt2 hb4 hfl HK2 hcr hgb2;obtain⟨ys,hys⟩:∃ ys,fstT v (a+S')=ys:=⟨_,rfl⟩;rw[hys] at hfl HK2 hcr;have HB4:=Zh hb4;have HFL2:=Zh hfl;have HCR4:=Zh hcr;have HBD4:=Zh hbd;clear hforall hcells htk hwk hst hsl hld hpd hcr hbd hb4 hfl hpb HCR3 HBD3 hS' hys hbv;go_upto_region 18 with fail
         go_still_tail 9,yk2;change wpList _ _ _ _ _ (World.drew _);go_wp2_with (first
          | (go_at_call 46;(refine (HK2.o wr.drew HF3.o.kept.drew).mono ?_);rintro e6 w6 ⟨v6,rfl,i6,b6⟩;have hF6:=HF3.o.stays (zd5 b6);have hA6:=HA3.o.stays (zd5 b6);have HY6:=Zh (Away.ret (Qj:=Qj) i6 (ygo _) (fun b q=>(HF3.o.D.ge b q).2));have HF6:=Zh hF6;have HA6:=Zh hA6;obtain⟨A6,n6,m6,hf6⟩:=i6.form3;subst hf6;obtain⟨AL,cL,hAL⟩:=HA6.o.ints.form;rw[za9] at hAL;injection hAL with g1 g2 g3;subst g1 g2 g3;clear hF6 i6 b6 hA6)
          | fail)
         focus
          go_loopg [12] ps.length (fun m i wr=>∃ (z:Nat) (Qz:Nat->Prop) (F:List (List Nat)),i = .int .i64 (z:Int)∧z<=ps.length∧m=ps.length-z∧FolIn w C ga gs gf k vl e Q t (.slice (some ⟨g,0,none⟩) j c) (.slice (some ⟨gb,0,none⟩) j cb) (begL t.kids a j) ⟨s1.sets,F⟩ Qz wr∧Away wr (.slice A5 ps.length m5) ps Qz∧Away wr (.slice A6 n6 m6) ys Qz∧
           zap F (ps.drop z) ys=zap Fj ps ys∧∀ x,(F.getD x []).length+(ps.length-z)*ys.length+(ps.length*plTL (t.kids.drop (p+1))+cr (t.kids.drop (q+1)))<=70000)
          case atStart =>
           refine⟨0,Qj,Fj,by go_num,ygy _,by omega,HF6.o,HA6.o,HY6.o,by simp,fun x=>?_⟩;have h1:=HBD4.o x;have h2:=Nat.mul_le_mul_left ps.length HFL2.o;rw[Nat.mul_add] at h1;rw[Nat.sub_zero];omega
          case round =>
           obtain⟨z,Qz,Fz,rfl,hz,hmz,hFz,hAz,hYz,hcz,hbz⟩:=hrel;have HMZ:=Zh hmz;have HFZ:=Zh hFz;have HAZ:=Zh hAz;have HYZ:=Zh hYz;have HCZ:=Zh hcz;have HBZ:=Zh hbz;clear hmz hFz hAz hYz hcz hbz
           by_cases hzL:z<ps.length
           .obtain⟨gl,cl',e3,hgl0,hgl1,hgl2⟩:=HAZ.o.ints.at z (by rw[za9];exact hzL);rw[za9] at e3;injection e3 with f1 f2 f3
            subst f1 f3;clear f2;have hxk:=(HLIN.o _ (yhb hzL)).2;have hdz:=yhc hzL;have hce:(ns ps)[z]'(by rw[za9];exact hzL)=((ps[z]'hzL:Nat):Int):=(by simp[ns]);rw[hce] at hgl2;have hpb:=HPB.o;obtain⟨x,hx⟩:∃ x,ps[z]'hzL=x:=⟨_,rfl⟩;rw[hx] at hxk hdz hgl2;have hxk':x<k:=yjz;obtain⟨vp,cgf,fgf,hlist,hvp,hclose⟩:=HFZ.o.D.open x hxk';have cga:=HFZ.o.D.cell.2;have hbx:=HBZ.o;have HZL:=Zh hzL;have hzb:z<256:=(by have:=HLL.o;omega);have hLz:ps.length-z=ps.length-(z+1)+1:=yjz;rw[hLz,yiq] at hbx;have hbx2:=hbx x;have x0:(0:Int)<=(x:Int):=yjz;have x1:(x:Int)<(k:Int):=yjz;have z0:(0:Int)<=(z:Int):=yjz;obtain⟨L,hL⟩:∃ L,ps.length=L:=⟨_,rfl⟩;have z1:(z:Int)<(ps.length:Int):=yjz;have hsum:(ns (Fz.getD x [])).length+(ns ys).length<=100000:=ylj;have hCw:C<=wr.heap.size:=ygw HC.o HFZ.o.kept.size;have HLIST:=Zh hlist;have HCL:=Zh hclose;have HVP:=Zh hvp;have HDZ:=Zh hdz;have HBX:=Zh hbx;have hglQ:=HAZ.o.out gl rfl;have hgal:=(HFZ.o.D.ge _ HFZ.o.D.aQ).2;have hgfl:=(HFZ.o.D.ge _ HFZ.o.D.fQ).2;clear hlist hclose hvp hdz hbx hce hxk hx hL;obtain⟨v4,w4,hr,i4,g4,o4⟩:=zrf (w:=wr.drew) (B:=C) 44 HLIST.o HYZ.o.ints hsum hCw;obtain⟨A4,n4,c4,hf4⟩:=i4.form3;subst hf4;obtain⟨a1,a2,a3⟩:=zhv hr;have cga4:w4.cell? ⟨ga,3,none⟩=some (.slice (some ⟨gf,0,none⟩) k k):=(yhs (g4.block ga hgal (fun e=>(HVP.o ga e.symm).2.2.1 rfl))).trans cga;have cgf4:w4.cell? ⟨gf,x,none⟩=some vp:=(yhs (g4.block gf hgfl (fun e=>(HVP.o gf e.symm).2.1 rfl))).trans cgf;have fgf4:w4.frozen? ⟨gf,x,none⟩=false:=(yji (g4.block gf hgfl (fun e=>(HVP.o gf e.symm).2.1 rfl))).trans fgf;have cl4:w4.cell? ⟨gl,z,none⟩=some (.int .i64 (x:Int)):=(yhs (g4.block gl hgl1 (fun e=>hglQ (HVP.o gl e.symm).1))).trans hgl2;have I4:=Zh i4;have G4:=Zh g4;have O4:=Zh o4;clear hr i4 g4 o4;go_upto_region 22 with fail
            go_region
            all_goals
             go_wp2;go_roundg (ps.length-(z+1))
             case measure=>have:=HMZ.o;omega
             case rel =>
              have hg:wr.grownBy w4 vp.ownBlock:=⟨G4.o.os,G4.o.tape,G4.o.output,G4.o.size,G4.o.block⟩;have hnew:=HCL.o ys w4 _ (by rw[zef];exact I4.o) hg O4.o;have hk4:=((Kept.refl Qz wr).grown hg fun b e => .inl (HVP.o b e).1).setCell (a:=⟨gf,x,none⟩) (.inl HFZ.o.D.fQ) (.slice A4 n4 c4);have hq4:∀ b,Qz b∨(Value.slice A4 n4 c4).ownBlock=some b->Qz b∨wr.heap.size<=b:=by
               rintro b (e|e)
               .exact .inl e
               .rcases O4.o with e2|e2
                .exact .inl (HVP.o b (e2.symm.trans e)).1
                .rw[e] at e2;injection e2 with e2
                 exact .inr (Nat.le_of_eq e2.symm)
              have hgr4:=zou Fz x ys;refine⟨z+1,_,zcm Fz x ys,by go_num,HZL.o,rfl,HFZ.o.call hnew hk4 hq4,HAZ.o.off hk4 hq4,HYZ.o.off hk4 hq4,?_,fun y=>?_⟩
              .have h:=HCZ.o;rw[HDZ.o,zap] at h;exact h
              .have h1:=hgr4 y;have h2:=HBX.o y;omega
           .have hzz:z=ps.length:=yjz;subst hzz;have hFz:Fz=zap Fj ps ys:=(by have h:=HCZ.o;rwa [yii,zap] at h);have hbz:∀ x,(Fz.getD x []).length+(ps.length*plTL (t.kids.drop (p+1))+cr (t.kids.drop (q+1)))<=70000:=fun x=>by
             have:=HBZ.o x;omega
            have HFE:=Zh hFz;have HBE:=Zh hbz;obtain⟨c0,c1,c2,c3,c4,c5,c6,c7⟩:=HFZ.o.box.cell;have hz0:w.heap.size<wr.heap.size:=HFZ.o.box.lt;obtain⟨k0,k1,k2,k3,k4,k5,k6,k7⟩:=HCA.o wr HFZ.o.kept;obtain⟨ev,hev⟩:∃ ev,zau v=ev:=⟨_,rfl⟩;rw[hev] at HKE HCR4;clear hFz hbz hev HCZ HBZ;cases ev
            all_goals
             go_wp2_with (first
              | (go_at_call 43;(with_reducible refine (HKE.o _ HFZ.o.kept).mono ?_);rintro e8 w8 ⟨rfl,b8⟩;have HF8:=Zh (HFZ.o.stays b8);have HA8:=Zh (HAZ.o.stays b8);clear b8)
              | fail)
            .go_roundg (j-(q+1))
             case measure=>have:=HMQ.o;omega
             case rel =>
              refine⟨q+1,Qz,Fz,by go_num,by omega,rfl,HF8.o,?_,fun x=>by have:=HBE.o x;omega⟩;have h:=HCR4.o;simp only[yi0,if_false] at h;rw[←HFE.o] at h;rw[HB3.o];exact h
            .go_roundg (j-(p+1))
             case measure=>have:=HMP.o;omega
             case rel =>
              refine⟨p+1,Qz,Fz,by go_num,by omega,by omega,rfl,HF8.o,HA8.o,?_,fun x=>by have:=HBE.o x;omega⟩;have h:=HCR4.o;simp only[if_true] at h;rw[←HFE.o] at h;rw[HB4.o];exact h
        .have hpj':p=j:=yjz;subst hpj';have hdn:t.kids.drop p=[]:=(by rw[HN.o];exact yii);have hcr:=HCR3.o;have hbd:=HBD3.o;rw[hdn] at hcr;simp only[zdp] at hcr;have HCR5:=Zh hcr;have HBD5:=Zh hbd;clear hcr hbd hdn;go_wp2;go_roundg (p-(q+1))
         case measure=>have:=HMQ.o;omega
         case rel=>exact⟨q+1,Qj,Fj,by go_num,by omega,rfl,HF3.o,by rw[HB3.o];exact HCR5.o,fun x=>by have:=HBD5.o x;omega⟩
     .have hqj':q=j:=yjz;subst hqj';have hdn:t.kids.drop q=[]:=(by rw[HN.o];exact yii);have hcr:=HCR.o;rw[hdn] at hcr;simp only[zd8] at hcr;have HCR5:=Zh hcr;clear hcr hdn;go_wp2;refine⟨rfl,.tuple #[],by simp[results,Try.results44],rfl,Qi,?_,HF2.o.kept,fun b h=>(HF2.o.q b h).imp id fun h=>by omega⟩;rw[HFL.o,←HCR5.o];exact HF2.o.D
theorem zuf:∀ N,zz5 N:=by
 intro N;induction N with
 | zero=>intro t w ok kv a C ga gs gf k vl e s Q h;obtain⟨op,p,lo,hi,l⟩:=t;simp at h
 | succ N ih =>
  intro t w ok kv a C ga gs gf k vl e s Q hN hft ht hok ha hk hD hC hl
  by_cases h1:t.op=1
  .exact zue ha hk hD hC h1
  .exact ybj ih hN hft ht hok ha hk hD hC hl h1
theorem ybi {t:T} {w:World} {ok:Nat->Prop} {kv:Value} {a C ga gs gf k:Nat} {vl:Value} {e:Bool} {s:Lay} {Q:Nat->Prop} (hft:FT t) (ht:Tree w ok t kv) (hok:∀ b,ok b->¬ Q b) (ha:a+plT t<=k) (hk:k<=256)
 (hD:NfaD w C ga gs gf k vl e s Q) (hC:C<=w.heap.size) (hl:∀ q,(s.follow.getD q []).length+plT t*plT t<=70000):
 Calls Try.prog 44 #[.pointer (some ⟨ga,0,none⟩),zas t kv,.int .i64 (a:Int)] w (zm9 w C ga gs gf k vl e (folL t a s) Q):=
 zuf _ t w ok kv a C ga gs gf k vl e s Q (ygo _) hft ht hok ha hk hD hC hl
end
end Go.Proofs.Ytipfgpfplakhiaa
