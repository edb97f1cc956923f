import Derived.Test.YtipfgpfplakhiaaDoorTw24
import Derived.Test.YtipfgpfplakhiaaDoorTw21
import Derived.Test.YtipfgpfplakhiaaDoorTw17
import Derived.Test.YtipfgpfplakhiaaDoorTw23
import Derived.Laws.StructEq
set_option linter.unusedVariables false
set_option linter.unusedSimpArgs false
set_option maxRecDepth 20000
set_option maxHeartbeats 4000000
namespace Go.Proofs.YtipfgpfplakhiaaDoor
open Go Go.RowKit
section
attribute [local go_sem ↓] Go.wp_at_zero Go.wp_at_succ
def yec (w:World) (P:Prop) (e:Ending) (w':World):Prop:=∃ b:Bool,e = .returned (.bool b)∧(b=true↔P)∧Below w.heap.size w w'
def Ghost.single (g:Nat) (t:T):Ghost:=⟨fun g' o'=>if g'=g∧o'=0 then some t else none,fun _=>none,fun _=>False⟩
theorem zu4 {w w5:World} {xs:List Int} {A:Option Addr} {t:T} {kn:Value} {g0:Nat} {cur:Array Value} (hB5:Below w.heap.size w w5) (hg0:w5.heap[g0]?=some (.cells cur 56 (0,0))) (hn:NodeAt w5 g0 0 t kn) (ht:Tree w5 (fun _=>True) t kn) (hwf:WF t)
 (hrd:RdB w w.heap.size A xs) (hby:∀ k,k<xs.length->0<=xs.getD k 0∧xs.getD k 0<=255) (hlen:xs.length<=100000) (htab:Tab w):
 Ask (w5.alloc (.cells #[.pointer (some ⟨g0,0,none⟩),.slice none 0 0,.int .i64 0,.slice none 0 0] 101)) w.heap.size xs A (Ghost.single w5.heap.size t):=by
 have hb:Below w5.heap.size w5 (w5.alloc (.cells #[.pointer (some ⟨g0,0,none⟩),.slice none 0 0,.int .i64 0,.slice none 0 0] 101)):=(yf6 _ _).alloc (yez _) _;have hw:=hB5.trans (hb.mono hB5.size);have hnew:=yho w5 (.cells #[.pointer (some ⟨g0,0,none⟩),.slice none 0 0,.int .i64 0,.slice none 0 0] 101);have hcell:∀ (j:Nat) (u:Value),(#[Value.pointer (some ⟨g0,0,none⟩),.slice none 0 0,.int .i64 0,.slice none 0 0]:Array Value)[j]?=some u->(w5.alloc (.cells #[.pointer (some ⟨g0,0,none⟩),.slice none 0 0,.int .i64 0,.slice none 0 0] 101)).cell? ⟨w5.heap.size,j,none⟩=some u:=fun j u e=>by
  rw[yhk];exact e
 have hg0l:=za0 hg0;refine⟨⟨⟨fun g o t' e=>?_,fun gf t' e=>by cases e⟩,fun g e=>e.elim⟩,hrd.below hw,hby,hlen,htab.below hw htab.1,htab.1,hw.size⟩;unfold Ghost.single at e;simp only at e
 by_cases hgo:g=w5.heap.size∧o=0
 .rw[if_pos hgo] at e;injection e with e
  obtain⟨rfl,rfl⟩:=hgo;subst e;refine⟨hB5.size,⟨by omega,⟨_,hnew⟩,hwf,⟨g0,0,kn,hcell 0 _ rfl,hn.block (hb.block g0 hg0l),ht.mono fun b _ hlt _=>⟨hb.block b hlt,trivial⟩,cur,(hb.block g0 hg0l).trans hg0⟩,.inl (hcell 1 _ rfl),⟨0,hcell 2 _ rfl,by omega⟩,.inl (hcell 3 _ rfl)⟩⟩
 .rw[if_neg hgo] at e;cases e
theorem zwf {w:World} {c:Nat} {xs:List Int} {A:Option Addr} {t:T} {k:Value} {ok:Nat->Prop} (hwf:WF t) (ht:Tree w ok t k) (hrd:RdB w w.heap.size A xs) (hby:∀ k,k<xs.length->0<=xs.getD k 0∧xs.getD k 0<=255) (hlen:xs.length<=100000) (htab:Tab w):
 Calls Tryd.prog 14 #[zcu t k,.slice A xs.length c] w (yec w (E xs t 0 xs.length)):=by
 obtain⟨A',n',c',rfl⟩:=ht.form;have hel:E xs t 0 xs.length->LenU false t<=xs.length∧xs.length<=LenU true t:=fun hE=>by
  have:=yew hwf 0 xs.length (yf8 _) hE;omega
 have b8:=Box8.new w t (.slice A' n' c');have hB1:Below w.heap.size w (w.alloc (.cells #[.int .i64 t.op,.int .u64 (word t.set 0),.int .u64 (word t.set 1),.int .u64 (word t.set 2),.int .u64 (word t.set 3),.int .i64 t.lo,.int .i64 t.hi,.slice A' n' c'] 56)):=(yf6 _ _).alloc (yez _) _;have hblk:=yho w (.cells #[.int .i64 t.op,.int .u64 (word t.set 0),.int .u64 (word t.set 1),.int .u64 (word t.set 2),.int .u64 (word t.set 3),.int .i64 t.lo,.int .i64 t.hi,.slice A' n' c'] 56);have hsp:=yde (w.alloc (.cells #[.int .i64 t.op,.int .u64 (word t.set 0),.int .u64 (word t.set 1),.int .u64 (word t.set 2),.int .u64 (word t.set 3),.int .i64 t.lo,.int .i64 t.hi,.slice A' n' c'] 56)) (xs.length+1) yie yie w.heap.size 0 hwf (ht.alloc _) b8.nodeAt;rw[show ((xs.length+1:Nat):Int)=(xs.length:Int)+1 by omega] at hsp;have ht1:Tree (w.alloc (.cells #[.int .i64 t.op,.int .u64 (word t.set 0),.int .u64 (word t.set 1),.int .u64 (word t.set 2),.int .u64 (word t.set 3),.int .i64 t.lo,.int .i64 t.hi,.slice A' n' c'] 56)) (fun _=>True) t (.slice A' n' c'):=(ht.alloc _).mono fun b _ _ _=>⟨rfl,trivial⟩
 have hnode:=b8.nodeAt;have hs1:(w.alloc (.cells #[.int .i64 t.op,.int .u64 (word t.set 0),.int .u64 (word t.set 1),.int .u64 (word t.set 2),.int .u64 (word t.set 3),.int .i64 t.lo,.int .i64 t.hi,.slice A' n' c'] 56)).heap.size=w.heap.size+1:=yii;unfold zkb at hsp;have HSP:=Zh hsp;have HEL:=Zh hel;have HB1:=Zh hB1;have HBLK:=Zh hblk;have HT1:=Zh ht1;have HND:=Zh hnode;have HRD:=Zh hrd;have HBY:=Zh hby;have HTB:=Zh htab;have HWF:=Zh hwf;have HS1:=Zh hs1;generalize hl0:LenU false t=l0 at *;generalize hl1:LenU true t=l1 at *;have HL:=Zh (fun _:Unit=>And.intro hl0 hl1);unfold zcu;clear hsp hel hB1 hblk ht1 hnode hrd hby htab hwf ht b8 hs1 hl0 hl1
 by_cases h1:xs.length<l0
 .have hm0:((min l0 (xs.length+1):Nat):Int)=(xs.length:Int)+1:=yie;have hi1:(xs.length:Int)<(xs.length:Int)+1:=yie;rw[hm0] at HSP;go_enter Tryd.func14,Tryd.ntmps14;go_wp2_with (go_at_call 29;(with_reducible refine HSP.o.mono ?_);rintro e w5 ⟨rfl,hb5⟩;have HB5:=Zh hb5;clear hb5);go_ret;exact⟨false,rfl,⟨fun h=>(by cases h),fun h=>by have:=HEL.o h;omega⟩,HB1.o.trans (HB5.o.mono HB1.o.size)⟩
 .have hm0:min l0 (xs.length+1)=l0:=yie;rw[hm0] at HSP;have hi1:¬ ((xs.length:Int)<(l0:Int)):=by omega
  by_cases h2:l1<xs.length
  .have hm1:min l1 (xs.length+1)=l1:=yie;rw[hm1] at HSP;have hi2:(l1:Int)<(xs.length:Int):=yie;clear hm0 hm1;go_enter Tryd.func14,Tryd.ntmps14;go_wp2_with (go_at_call 29;(with_reducible refine HSP.o.mono ?_);rintro e w5 ⟨rfl,hb5⟩;have HB5:=Zh hb5;clear hb5);go_ret;exact⟨false,rfl,⟨fun h=>(by cases h),fun h=>by have:=HEL.o h;omega⟩,HB1.o.trans (HB5.o.mono HB1.o.size)⟩
  .obtain⟨d,hd⟩:∃ d:Nat,d=min l1 (xs.length+1):=⟨_,rfl⟩;rw[←hd] at HSP;have hi2:¬ ((d:Int)<(xs.length:Int)):=yie;have hon:∀ W,Calls Tryd.prog 31 #[.int .i64 0,.int .i64 xs.length] W (zf2 W (xs.length / 64+1) (fun x=>x==0)):=fun W=>zve W 0 xs.length yie (yf8 _)
   unfold zf2 at hon;have HON:=Zh hon;have hpe:=ybf t HWF.o;unfold zne RetEndsP at hpe;have HPE:=Zh hpe;have hph:=fun W v q (h:Pl W 0 v (xs.length / 64+1) q)=>ybc W 0 (xs.length / 64+1) xs.length v q h yie yie
   have HPH:=Zh hph;clear hm0 hd hon hpe hph;go_enter Tryd.func14,Tryd.ntmps14;go_wp2_with (first
    | (go_at_call 29;(with_reducible refine HSP.o.mono ?_);rintro e w5 ⟨rfl,hb5⟩;have HB5:=Zh hb5;clear hb5;have HASK:=Zh (zu4 (w:=w) (w5:=w5) (HB1.o.trans (HB5.o.mono HB1.o.size)) ((HB5.o.block w.heap.size (by rw[HS1.o];omega)).trans HBLK.o) (HND.o.block (HB5.o.block w.heap.size (by rw[HS1.o];omega))) (HT1.o.mono fun b _ hlt _=>⟨HB5.o.block b hlt,trivial⟩) HWF.o HRD.o HBY.o hlen HTB.o))
    | (go_at_call 31;(with_reducible refine (HON.o _).mono ?_);rintro e2 w7 ⟨v2,rfl,hv2,hb7⟩;have HV2:=Zh hv2;have HB7:=Zh hb7;have HA7:=Zh (HASK.o.stays hb7);have HI7:=Zh (show InW w7 xs v2 (fun x=>x==0) from⟨hv2.lower (yf8 _),fun x hx=>by have:x=0:=(by simpa using hx);omega⟩);clear hv2 hb7)
    | (go_at_call 30;(with_reducible refine (HPE.o _ _ _ _ _ _ _ _ _ _ HA7.o (by simp[Ghost.single]) HI7.o).mono ?_);rintro e3 w8 ⟨v3,q3,Γ3,rfl,hi3,hx3,hv3,hq3⟩;have HX3:=Zh hx3;have HV3:=Zh hv3;have HQ3:=Zh hq3;clear hi3 hx3 hv3 hq3)
    | (go_at_call 32;(with_reducible refine (HPH.o _ _ _ HV3.o.pl).mono ?_);rintro e4 w9 ⟨rfl,rfl⟩))
   go_ret;have hb5:=HB1.o.trans (HB5.o.mono HB1.o.size);have hb6:=hb5.alloc hb5.size (.cells #[.pointer (some ⟨w.heap.size,0,none⟩),.slice none 0 0,.int .i64 0,.slice none 0 0] 101);refine⟨q3 xs.length,rfl,?_,(hb6.trans (HB7.o.mono hb6.size)).trans HX3.o.below⟩;rw[HQ3.o xs.length];constructor
   .rintro⟨i,hi,hE⟩;have:i=0:=by simpa using hi
    rwa [this] at hE
   .intro hE;exact⟨0,rfl,hE⟩
end
section
theorem MX.cell {w:World} {B n k:Nat} {gv cv:Nat} {G:Nat->Nat} {L:Nat->Nat->Bool} (h:MX w B (.slice (some ⟨gv,0,none⟩) k cv) n k G L) (i:Nat) (hi:i<k):w.cell? ⟨gv,i,none⟩=some (.slice (some ⟨G i,0,none⟩) n n):=by
 obtain⟨g,c,e,h1⟩:=h.at i hi;injection e with e1 e2 e3
 injection e1 with e1
 injection e1 with e1 _ _
 rw[e1];exact h1
theorem Nxt.cells {w:World} {B:Nat} {O:Nat->Prop} {gn N cn:Nat} {rows:List (List Nat)} (h:Nxt w B O (.slice (some ⟨gn,0,none⟩) N cn) rows) {s:Nat} {r:List Nat} (hr:rows[s]?=some r):
 ∃ Au cu,w.cell? ⟨gn,s,none⟩=some (.slice Au r.length cu)∧∀ (c x:Nat),r[c]?=some x->∃ gu,Au=some ⟨gu,0,none⟩∧w.cell? ⟨gu,c,none⟩=some (.int .i64 (x:Int)):=by
 obtain⟨us,n1,n2,n3,n4⟩:=h.mem;have hl:s<us.length:=(by rw[n1];exact (yf4.1 hr).1);obtain⟨u,hu⟩:∃ u,us[s]?=some u:=⟨_,yey hl⟩;have hi:=n3 s u r hu hr;obtain⟨Au,cu,rfl⟩:=hi.form;have e0:(ns r).length=r.length:=zaj r;refine⟨Au,cu,?_,fun c x hc=>?_⟩
 .have hn:rows.length=N:=by
   rcases n2.2 with ⟨e,_⟩|⟨g,cap,cur,e,_⟩
   .cases e
   .injection e with _ e _;exact e.symm
  have h2:w.ownsRow B 68 1 (.slice (some ⟨gn,0,none⟩) N cn) rows.length us:=n2;rw[e0] at hu;rw[hn] at h2;exact (yf7 h2 s yie).trans hu
 .have hcl:c<r.length:=(yf4.1 hc).1;obtain⟨g,cc,e,_,_,hcell⟩:=hi.at c (by rw[e0];exact hcl);injection e with e1 e2 e3
  refine⟨g,e1,?_⟩;rw[hcell];obtain⟨hh,hv⟩:=yf4.1 hc;simp[ns,hv]
theorem Ots.cells {w:World} {B:Nat} {O:Nat->Prop} {go N co:Nat} {os:List (Nat×Nat)} (h:Ots w B O (.slice (some ⟨go,0,none⟩) N co) os) {s:Nat} {p:Nat×Nat} (hp:os[s]?=some p):
 w.cell? ⟨go,s*2,none⟩=some (.int .u64 (p.1:Int))∧w.cell? ⟨go,s*2+1,none⟩=some (.int .u64 (p.2:Int)):=by
 have hl:s<os.length:=(yf4.1 hp).1;have hr:=h.row;have hn:os.length=N:=by
  rcases hr.2 with ⟨e,_⟩|⟨g,cap,cur,e,_⟩
  .cases e
  .injection e with _ e _;exact e.symm
 rw[hn] at hr hl;exact⟨(yf7 hr (s*2) yie).trans (zen os s p hp).1,(yf7 hr (s*2+1) yie).trans (zen os s p hp).2⟩
theorem ybg (a0 a1 b0 b1:Int) (w:World):(binOp .eql 49 (.agg #[.int .u64 a0,.int .u64 a1]) (.agg #[.int .u64 b0,.int .u64 b1])).run Tryd.prog w = .ok (.bool (a0==b0&&a1==b1)) w:=by
 have p0:∀ (c0 c1:Int) (w:World),(part 47 #[.int .u64 c0,.int .u64 c1] 0).run Tryd.prog w = .ok (.int .u64 c0) w:=fun _ _ _=>by kernel_rfl
 have p1:∀ (c0 c1:Int) (w:World),(part 47 #[.int .u64 c0,.int .u64 c1] 1).run Tryd.prog w = .ok (.int .u64 c1) w:=fun _ _ _=>by kernel_rfl
 have pe:∀ (a b:Int) (w:World),(Op.equalIn 9999 47 (.int .u64 a) (.int .u64 b)).run Tryd.prog w = .ok (a==b) w:=fun a b w=>run_equalIn_int (P:=Tryd.prog) w 9998 47 .u64 .u64 a b Tryd.underlying47
 rw[run_eql_struct,show (10000:Nat)=9999+1 from rfl,run_equalIn_struct w 9999 _ _ _ yih yih];simp only[Program.fieldsOf,Tryd.underlying49];cases h0:(a0==b0) <;> cases h1:(a1==b1) <;> simp[Op.eqFields,p0,p1,pe,h0,h1,go_sem]
structure DA {O:Type} (w1 w:World) (B:Nat) (v:Value) (N C:Nat) (G:Nat->Nat) (δ:Nat->Nat->Nat) (o:Nat->O) (c0:Nat) (more:Bool) (L:Nat->Nat->Bool) (P:Nat->Nat->Prop):Prop where
 mx:MX w B v N N G L
 alk:AlkM δ o N C L
 le:cntM N L<=c0
 lt:more=true->cntM N L<c0
 cl:more=false->∀ s t,s<N->t<N->P s t->zhn δ C L s t
 below:Below w1.heap.size w1 w
section
variable {O:Type} {w1 w w':World} {B:Nat} {v:Value} {N C:Nat} {G:Nat->Nat} {δ:Nat->Nat->Nat} {o:Nat->O} {c0:Nat} {more:Bool} {L:Nat->Nat->Bool} {P P':Nat->Nat->Prop}
theorem DA.to (h:DA w1 w B v N C G δ o c0 more L P) (hp:more=false->∀ s t,s<N->t<N->P' s t->zhn δ C L s t):DA w1 w B v N C G δ o c0 more L P':=⟨h.mx,h.alk,h.le,h.lt,hp,h.below⟩
theorem DA.drewN (h:DA w1 w B v N C G δ o c0 more L P) (n:Nat):DA w1 (w.drewN n) B v N C G δ o c0 more L P:=
 ⟨⟨h.mx.row,h.mx.rows,h.mx.inj⟩,h.alk,h.le,h.lt,h.cl,⟨h.below.os,h.below.tape,h.below.output,h.below.size,h.below.block⟩⟩
theorem DA.drop (h:DA w1 w B v N C G δ o c0 more L P) (hδ:∀ s c,s<N->c<C->δ s c<N) (hB:w1.heap.size<=B) {s t c:Nat} (hs:s<N) (ht:t<N) (hc:c<C) (h1:L s t=true) (hL:L (δ s c) (δ t c)=false):
 DA w1 (w.setCell ⟨G s,t,none⟩ (.bool false)) B v N C G δ o c0 true (upd2 L s t false) P':=by
 have hd:=zzx hs ht h1;have:=h.le;exact⟨h.mx.set hs ht false,h.alk.drop hδ hs ht hc hL,by omega,fun _=>yie,fun e=>yj0,h.below.setCell (p:=⟨G s,t,none⟩) (by have:=(h.mx.rows s hs).in.1;show w1.heap.size<=G s;omega) _⟩
end
end
end Go.Proofs.YtipfgpfplakhiaaDoor
