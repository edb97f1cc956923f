import Derived.Test.YtgbdanddbgomhaaGreatDoorMv40
set_option linter.unusedVariables false
set_option linter.unusedSimpArgs false
namespace Go.Proofs.YtgbdanddbgomhaaGreatDoor
open Go Go.RowKit
section
attribute [local go_sem ↓] Go.wp_at_zero Go.wp_at_succ
def RetTrue (w:World) (e:Ending) (w':World):Prop:=e = .returned (.bool true)∧Below w.heap.size w w'
theorem neq4 (a0 a1 a2 a3:Int) (w:World):
   (Op.equalIn 10000 38 (.agg #[.int .u64 a0,.int .u64 a1,.int .u64 a2,.int .u64 a3]) (.agg #[.int .u64 a0,.int .u64 a1,.int .u64 a2,.int .u64 a3])).run Tryz.prog w = .ok true w:=by
 rw[eq4];simp
set_option maxRecDepth 20000 in
set_option maxHeartbeats 2000000 in
theorem same_n:∀ (N:Nat) (t:T) (w:World) (ok ok':Nat->Prop) (k k':Value),SizeOf.sizeOf t<=N->Tree w ok t k->Tree w ok' t k'->
   Calls Tryz.prog 9 #[.agg #[.int .i64 t.op,.int .u64 (word t.set 0),.int .u64 (word t.set 1),.int .u64 (word t.set 2),.int .u64 (word t.set 3),.int .i64 t.lo,.int .i64 t.hi,k],.agg #[.int .i64 t.op,.int .u64 (word t.set 0),.int .u64 (word t.set 1),.int .u64 (word t.set 2),.int .u64 (word t.set 3),.int .i64 t.lo,.int .i64 t.hi,k']] w (RetTrue w):=by
 intro N;induction N with
 | zero=>intro t w ok ok' k k' h;obtain⟨op,p,lo,hi,l⟩:=t;simp at h
 | succ N ih =>
 intro t w ok ok' k k' hN ht ht';have eq4:=neq4;obtain⟨A,n,c,rfl⟩:=ht.form;obtain⟨A',n',c',rfl⟩:=ht'.form;obtain⟨hn,hm⟩:=ht.bound;obtain⟨hn',_⟩:=ht'.bound;rw[←hn] at hn';subst hn';unfold maxLen at hm;have b1:=(Box8.new w t (.slice A n' c)).alloc (.cells #[.int .i64 t.op,.int .u64 (word t.set 0),.int .u64 (word t.set 1),.int .u64 (word t.set 2),.int .u64 (word t.set 3),.int .i64 t.lo,.int .i64 t.hi,.slice A' n' c'] 41);have b2:=Box8.new (w.alloc (.cells #[.int .i64 t.op,.int .u64 (word t.set 0),.int .u64 (word t.set 1),.int .u64 (word t.set 2),.int .u64 (word t.set 3),.int .i64 t.lo,.int .i64 t.hi,.slice A n' c] 41)) t (.slice A' n' c');rw[World.size_alloc] at b2;have hB:Below w.heap.size w ((w.alloc (.cells #[.int .i64 t.op,.int .u64 (word t.set 0),.int .u64 (word t.set 1),.int .u64 (word t.set 2),.int .u64 (word t.set 3),.int .i64 t.lo,.int .i64 t.hi,.slice A n' c] 41)).alloc (.cells #[.int .i64 t.op,.int .u64 (word t.set 0),.int .u64 (word t.set 1),.int .u64 (word t.set 2),.int .u64 (word t.set 3),.int .i64 t.lo,.int .i64 t.hi,.slice A' n' c'] 41)):=((Below.refl _ _).alloc (Nat.le_refl _) _).alloc (by simp) _;have HN:=Zh hn;have HT:=Zh ht;have HT':=Zh ht';have IH:=Zh ih;have HB1:=Zh b1;have HB2:=Zh b2;clear hn ih;go_enter Tryz.func9,Tryz.ntmps9;go_wp2;go_loopg [5] n' (fun m i wr=>∃ j:Nat,i = .int .i64 (j:Int)∧j<=n'∧m=n'-j∧Box8 wr w.heap.size t (.slice A n' c)∧Box8 wr (w.heap.size+1) t (.slice A' n' c')∧Below w.heap.size w wr)
 case atStart=>exact⟨0,rfl,Nat.zero_le _,rfl,HB1.out,HB2.out,hB⟩
 case round =>
   obtain⟨j,rfl,hj,hmj,x1,x2,hW⟩:=hrel;have HM:=Zh hmj;obtain⟨c0,c1,c2,c3,c4,c5,c6,c7⟩:=x1.cell;obtain⟨d0,d1,d2,d3,d4,d5,d6,d7⟩:=x2.cell;clear b1 b2 hmj
   by_cases hlt:j<n'
   . have hlt':j<t.kids.length:=(by rw[←HN.out];exact hlt);obtain⟨g,cap,kk,e1,hg1,htk,hcells⟩:=HT.out.kidAt j hlt';obtain⟨g',cap',kk',e2,hg2,htk',hcells'⟩:=HT'.out.kidAt j hlt';obtain⟨B,m1,m2,rfl⟩:=htk.form;obtain⟨B',m1',m2',rfl⟩:=htk'.form;have a1:A=some ⟨g,0,none⟩:=(by injection e1);have a2:c=cap:=(by injection e1);have a3:A'=some ⟨g',0,none⟩:=(by injection e2);have a4:c'=cap':=(by injection e2);clear e1 e2;subst a1 a2 a3 a4;have hks:=zas t j hlt';generalize t.kids[j]=u at *;have HC:∀ q v,(nodeC u (.slice B m1 m2))[q]?=some v->wr.cell? ⟨g,j*8+q,none⟩=some v:=fun q v h=>by rw[Nat.mul_comm j 8];exact (hW.cell (p:=⟨g,8*j+q,none⟩) hg1).trans (hcells q v h)
     have HC':∀ q v,(nodeC u (.slice B' m1' m2'))[q]?=some v->wr.cell? ⟨g',j*8+q,none⟩=some v:=fun q v h=>by rw[Nat.mul_comm j 8];exact (hW.cell (p:=⟨g',8*j+q,none⟩) hg2).trans (hcells' q v h)
     have k0:wr.cell? ⟨g,j*8,none⟩=_:=HC 0 _ rfl;have k1:=HC 1 _ rfl;have k2:=HC 2 _ rfl;have k3:=HC 3 _ rfl;have k4:=HC 4 _ rfl;have k5:=HC 5 _ rfl;have k6:=HC 6 _ rfl;have k7:=HC 7 _ rfl;have l0:wr.cell? ⟨g',j*8,none⟩=_:=HC' 0 _ rfl;have l1:=HC' 1 _ rfl;have l2:=HC' 2 _ rfl;have l3:=HC' 3 _ rfl;have l4:=HC' 4 _ rfl;have l5:=HC' 5 _ rfl;have l6:=HC' 6 _ rfl;have l7:=HC' 7 _ rfl;have HK:=Zh (fun w' (hb:Below wr.heap.size wr w')=>IH.out u w' ok ok' (.slice B m1 m2) (.slice B' m1' m2') (by omega) (((htk.mono (w':=wr) fun b h1 h2 _=>⟨hW.block b h2,h1⟩)).stays hb) ((htk'.mono (w':=wr) fun b h1 h2 _=>⟨hW.block b h2,h1⟩).stays hb));clear HC HC' hcells hcells' htk htk' hks;have j0:(0:Int)<=(j:Int):=(by omega);have j1:(j:Int)<(n':Int):=(by omega);go_wp2_with fail;go_still_tail 10,(by kernel_rfl);change wpList _ _ _ _ _ wr.drew;go_wp2_with (go_at_call 9;(refine (HK.out wr.drew ((Below.refl _ _).drew)).mono ?_);rintro e w5 ⟨rfl,hb5⟩);have hb6:Below wr.heap.size wr w5:=zaf hb5;go_roundg (n'-(j+1))
     case measure=>have:=HM.out;omega
     case rel=>exact⟨j+1,by go_num,by omega,rfl,x1.stays hb6,x2.stays hb6,gro hW hb6⟩
   . go_wp2;go_ret;exact⟨rfl,hW⟩
theorem same_p (t:T) (w:World) (ok ok':Nat->Prop) (k k':Value) (h:Tree w ok t k) (h':Tree w ok' t k'):
   Calls Tryz.prog 9 #[.agg #[.int .i64 t.op,.int .u64 (word t.set 0),.int .u64 (word t.set 1),.int .u64 (word t.set 2),.int .u64 (word t.set 3),.int .i64 t.lo,.int .i64 t.hi,k],.agg #[.int .i64 t.op,.int .u64 (word t.set 0),.int .u64 (word t.set 1),.int .u64 (word t.set 2),.int .u64 (word t.set 3),.int .i64 t.lo,.int .i64 t.hi,k']] w (RetTrue w):=
 same_n _ t w ok ok' k k' (Nat.le_refl _) h h'
end
end Go.Proofs.YtgbdanddbgomhaaGreatDoor
