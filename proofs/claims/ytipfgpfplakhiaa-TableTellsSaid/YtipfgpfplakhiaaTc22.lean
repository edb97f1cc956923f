import Derived.Test.YtipfgpfplakhiaaTc19
set_option linter.unusedVariables false
set_option linter.unusedSimpArgs false
namespace Go.Proofs.Ytipfgpfplakhiaa
open Go Go.RowKit
section
theorem MX.cell {w:World} {B n k:Nat} {gv cv:Nat} {G:Nat->Nat} {L:Nat->Nat->Bool} (h:MX w B (.slice (some ⟨gv,0,none⟩) k cv) n k G L) (i:Nat) (hi:i<k):w.cell? ⟨gv,i,none⟩=some (.slice (some ⟨G i,0,none⟩) n n):=by
 obtain⟨g,c,e,h1⟩:=h.at i hi;injection e with e1 e2 e3
 injection e1 with e1
 injection e1 with e1 _ _
 rw[e1];exact h1
theorem Nxt.cells {w:World} {B:Nat} {O:Nat->Prop} {gn N cn:Nat} {rows:List (List Nat)} (h:Nxt w B O (.slice (some ⟨gn,0,none⟩) N cn) rows) {s:Nat} {r:List Nat} (hr:rows[s]?=some r):
 ∃ Au cu,w.cell? ⟨gn,s,none⟩=some (.slice Au r.length cu)∧∀ (c x:Nat),r[c]?=some x->∃ gu,Au=some ⟨gu,0,none⟩∧w.cell? ⟨gu,c,none⟩=some (.int .i64 (x:Int)):=by
 obtain⟨us,n1,n2,n3,n4⟩:=h.mem;have hl:s<us.length:=(by rw[n1];exact (ygp.1 hr).1);obtain⟨u,hu⟩:∃ u,us[s]?=some u:=⟨_,ygn hl⟩;have hi:=n3 s u r hu hr;obtain⟨Au,cu,rfl⟩:=hi.form;have e0:(ns r).length=r.length:=za9 r;refine⟨Au,cu,?_,fun c x hc=>?_⟩
 .have hn:rows.length=N:=by
   rcases n2.2 with ⟨e,_⟩|⟨g,cap,cur,e,_⟩
   .cases e
   .injection e with _ e _;exact e.symm
  have h2:w.ownsRow B 44 1 (.slice (some ⟨gn,0,none⟩) N cn) rows.length us:=n2;rw[e0] at hu;rw[hn] at h2;exact (ygt h2 s yjz).trans hu
 .have hcl:c<r.length:=(ygp.1 hc).1;obtain⟨g,cc,e,_,_,hcell⟩:=hi.at c (by rw[e0];exact hcl);injection e with e1 e2 e3
  refine⟨g,e1,?_⟩;rw[hcell];obtain⟨hh,hv⟩:=ygp.1 hc;simp[ns,hv]
theorem Ots.cells {w:World} {B:Nat} {O:Nat->Prop} {go N co:Nat} {os:List (Nat×Nat)} (h:Ots w B O (.slice (some ⟨go,0,none⟩) N co) os) {s:Nat} {p:Nat×Nat} (hp:os[s]?=some p):
 w.cell? ⟨go,s*2,none⟩=some (.int .u64 (p.1:Int))∧w.cell? ⟨go,s*2+1,none⟩=some (.int .u64 (p.2:Int)):=by
 have hl:s<os.length:=(ygp.1 hp).1;have hr:=h.row;have hn:os.length=N:=by
  rcases hr.2 with ⟨e,_⟩|⟨g,cap,cur,e,_⟩
  .cases e
  .injection e with _ e _;exact e.symm
 rw[hn] at hr hl;exact⟨(ygt hr (s*2) yjz).trans (zf8 os s p hp).1,(ygt hr (s*2+1) yjz).trans (zf8 os s p hp).2⟩
theorem ydc (a0 a1 b0 b1:Int) (w:World):(binOp .eql 51 (.agg #[.int .u64 a0,.int .u64 a1]) (.agg #[.int .u64 b0,.int .u64 b1])).run Try.prog w = .ok (.bool (a0==b0&&a1==b1)) w:=by
 have p0:∀ (c0 c1:Int) (w:World),(part 49 #[.int .u64 c0,.int .u64 c1] 0).run Try.prog w = .ok (.int .u64 c0) w:=fun _ _ _=>by kernel_rfl
 have p1:∀ (c0 c1:Int) (w:World),(part 49 #[.int .u64 c0,.int .u64 c1] 1).run Try.prog w = .ok (.int .u64 c1) w:=fun _ _ _=>by kernel_rfl
 have pe:∀ (a b:Int) (w:World),(Op.equalIn 9999 49 (.int .u64 a) (.int .u64 b)).run Try.prog w = .ok (a==b) w:=fun a b w=>run_equalIn_int (P:=Try.prog) w 9998 49 .u64 .u64 a b Try.underlying49
 rw[run_eql_struct,show (10000:Nat)=9999+1 from rfl,run_equalIn_struct w 9999 _ _ _ yk2 yk2];simp only[Program.fieldsOf,Try.underlying51];cases h0:(a0==b0) <;> cases h1:(a1==b1) <;> simp[Op.eqFields,p0,p1,pe,h0,h1,go_sem]
structure DA {O:Type} (w1 w:World) (B:Nat) (v:Value) (N C:Nat) (G:Nat->Nat) (δ:Nat->Nat->Nat) (o:Nat->O) (c0:Nat) (more:Bool) (L:Nat->Nat->Bool) (P:Nat->Nat->Prop):Prop where
 mx:MX w B v N N G L
 alk:AlkM δ o N C L
 le:cntM N L<=c0
 lt:more=true->cntM N L<c0
 cl:more=false->∀ s t,s<N->t<N->P s t->zhx δ C L s t
 below:Below w1.heap.size w1 w
section
variable {O:Type} {w1 w w':World} {B:Nat} {v:Value} {N C:Nat} {G:Nat->Nat} {δ:Nat->Nat->Nat} {o:Nat->O} {c0:Nat} {more:Bool} {L:Nat->Nat->Bool} {P P':Nat->Nat->Prop}
theorem DA.to (h:DA w1 w B v N C G δ o c0 more L P) (hp:more=false->∀ s t,s<N->t<N->P' s t->zhx δ C L s t):DA w1 w B v N C G δ o c0 more L P':=⟨h.mx,h.alk,h.le,h.lt,hp,h.below⟩
theorem DA.drewN (h:DA w1 w B v N C G δ o c0 more L P) (n:Nat):DA w1 (w.drewN n) B v N C G δ o c0 more L P:=
 ⟨⟨h.mx.row,h.mx.rows,h.mx.inj⟩,h.alk,h.le,h.lt,h.cl,⟨h.below.os,h.below.tape,h.below.output,h.below.size,h.below.block⟩⟩
theorem DA.drop (h:DA w1 w B v N C G δ o c0 more L P) (hδ:∀ s c,s<N->c<C->δ s c<N) (hB:w1.heap.size<=B) {s t c:Nat} (hs:s<N) (ht:t<N) (hc:c<C) (h1:L s t=true) (hL:L (δ s c) (δ t c)=false):
 DA w1 (w.setCell ⟨G s,t,none⟩ (.bool false)) B v N C G δ o c0 true (upd2 L s t false) P':=by
 have hd:=ybu hs ht h1;have:=h.le;exact⟨h.mx.set hs ht false,h.alk.drop hδ hs ht hc hL,by omega,fun _=>yjz,fun e=>ykt,h.below.setCell (p:=⟨G s,t,none⟩) (by have:=(h.mx.rows s hs).in.1;show w1.heap.size<=G s;omega) _⟩
end
end
end Go.Proofs.Ytipfgpfplakhiaa
