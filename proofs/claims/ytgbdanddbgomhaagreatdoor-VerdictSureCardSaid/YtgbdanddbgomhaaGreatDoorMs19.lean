import Derived.Test.YtgbdanddbgomhaaGreatDoorMs17
import Derived.Test.YtgbdanddbgomhaaGreatDoorMs15
set_option linter.unusedVariables false
set_option linter.unusedSimpArgs false
namespace Go.Proofs.YtgbdanddbgomhaaGreatDoor
open Go Go.RowKit
section
attribute [local go_sem ↓] Go.wp_at_zero Go.wp_at_succ
theorem zey (most:Bool) (l:List T) (j:Nat) (h:j<l.length):(LenL most (l.take (j+1))).sum=(LenL most (l.take j)).sum+LenU most (l[j]'h):=by
 rw[List.take_succ_eq_append_getElem h,zak,zak,List.map_append,List.sum_append];simp only[List.map_cons,List.map_nil,List.sum_cons,List.sum_nil,Nat.add_zero]
def fold0 (L:Nat) (l:List T):Nat:=(LenL false l).foldl (best1 false) L
def fold1 (l:List T):Nat:=(LenL true l).foldl (best1 true) 0
theorem zik (L:Nat) (l:List T) (j:Nat) (h:j<l.length):fold0 L (l.take (j+1))=min (fold0 L (l.take j)) (LenU false (l[j]'h)):=by
 unfold fold0;rw[List.take_succ_eq_append_getElem h,zak,zak,List.map_append,List.foldl_append];rfl
theorem zij (l:List T) (j:Nat) (h:j<l.length):fold1 (l.take (j+1))=max (fold1 (l.take j)) (LenU true (l[j]'h)):=by
 unfold fold1;rw[List.take_succ_eq_append_getElem h,zak,zak,List.map_append,List.foldl_append];rfl
theorem zh8 (L:Nat):∀ (l:List Nat) (a:Nat),a<=L->l.foldl (best1 false) a<=L
 | [],a,h=>h
 | b::l,a,h=>zh8 L l _ (by unfold best1;simp <;> omega)
theorem zkc (L:Nat) (l:List T) (h:0<l.length):fold0 L l=min (bestN false (LenL false l)) L:=by
 cases l with
 | nil=>simp at h
 | cons t ts =>
   have key:∀ (l:List Nat) (a:Nat),l.foldl (best1 false) (min L a)=min (l.foldl (best1 false) a) L:=by
     intro l;induction l with
     | nil=>intro a;simp;omega
     | cons b l ih =>
       intro a;simp only[List.foldl_cons];rw[show best1 false (min L a) b=min L (best1 false a b) by unfold best1;simp <;> omega,ih]
   exact key (LenL false ts) (LenU false t)
theorem zkb (l:List T) (h:0<l.length):fold1 l=bestN true (LenL true l):=by
 cases l with
 | nil=>simp at h
 | cons t ts =>
   unfold fold1;simp only[LenL,List.foldl_cons,bestN];simp[best1]
def RetTwo (w:World) (a b:Nat) (e:Ending) (w':World):Prop:=e = .returned (.tuple #[.int .i64 a,.int .i64 b])∧Below w.heap.size w w'
theorem ze4 {a b:Nat} {x y:Int} {w w':World} (h1:x=a) (h2:y=b) (hb:Below w.heap.size w w'):RetTwo w a b (.returned (.tuple #[.int .i64 x,.int .i64 y])) w':=by subst h1 h2;exact⟨rfl,hb⟩
set_option maxRecDepth 20000 in
set_option maxHeartbeats 4000000 in
theorem span_n (L:Nat) (hL1:1<=L) (hL2:L<=1000000):∀ (N:Nat) (t:T) (w:World) (ok:Nat->Prop) (k:Value) (g o:Nat),SizeOf.sizeOf t<=N->WF t->Tree w ok t k->NodeAt w g o t k->
   Calls Tryz.prog 28 #[.pointer (some ⟨g,o,none⟩),.int .i64 L] w (RetTwo w (min (LenU false t) L) (min (LenU true t) L)):=by
 intro N;induction N with
 | zero=>intro t w ok k g o h;obtain⟨op,p,lo,hi,l⟩:=t;simp at h
 | succ N ih =>
 intro t w ok k g o hN hwf ht hna;obtain⟨A,n',c,rfl⟩:=ht.form;obtain⟨hn,hm⟩:=ht.bound;have hlen:=hwf.len;rw[←hn] at hlen;unfold maxLen at hm;have hop:=hwf.op_cases;have HN:=Zh hn;have HT:=Zh ht;have HWF:=Zh hwf;have IH:=Zh ih;have HNA:=Zh hna;have hlu:∀ most,LenU most t=if t.op=1 then 1 else if t.op=2 then (LenL most t.kids).sum else if t.op=3 then bestN most (LenL most t.kids) else if t.op=4 then (if most then t.hi else t.lo).toNat*bestN most (LenL most t.kids) else 0:=by intro most;cases t;rfl
 have c0:w.cell? ⟨g,o,none⟩=_:=hna 0 _ rfl;have c5:=hna 5 _ rfl;have c6:=hna 6 _ rfl;have c7:=hna 7 _ rfl;have hB:=Below.refl w.heap.size w;clear hn ih hwf ht hna;rcases hop with ⟨h,h2,z1,z2⟩|⟨h,h2,h3,z1,z2⟩|⟨h,h2,h3,z1,z2⟩|⟨h,h2,h3,h4,h5,h6⟩
 . have hb1:(t.op==1)=true:=(by simp[h]);have e:∀ most,LenU most t=1:=fun most=>by rw[hlu most,if_pos h]
   rw[e false,e true];clear h h2 z1 z2 e hlu;go_enter Tryz.func28,Tryz.ntmps28;go_wp2;go_ret2;exact ze4 (by omega) (by omega) hB
 . have hb1:(t.op==1)=false:=(by simp[h]);have hb2:(t.op==2)=true:=(by simp[h]);have e:∀ most,LenU most t=(LenL most t.kids).sum:=fun most=>by rw[hlu most,if_neg (by omega),if_pos h]
   rw[e false,e true];clear h h2 z1 z2 e hlu;go_enter Tryz.func28,Tryz.ntmps28;go_wp2;go_loopg [4,5,27] n' (fun m a b i wr=>∃ j:Nat,i = .int .i64 (j:Int)∧j<=n'∧m=n'-j∧a = .int .i64 ((min ((LenL false (t.kids.take j)).sum) L:Nat):Int)∧b = .int .i64 ((min ((LenL true (t.kids.take j)).sum) L:Nat):Int)∧Below w.heap.size w wr)
   case atStart=>exact⟨0,rfl,Nat.zero_le _,rfl,by simp[LenL],by simp[LenL],hB⟩
   case round =>
     obtain⟨j,rfl,hj,hmj,rfl,rfl,hW⟩:=hrel;have HMJ:=Zh hmj;clear hmj c0 c5 c6 c7;have c7:wr.cell? ⟨g,o+7,none⟩=_:=(HNA.out.stays hW) 7 _ rfl
     by_cases hlt:j<n'
     . have hlt':j<t.kids.length:=(by rw[←HN.out];exact hlt);obtain⟨g',B,m1,m2,e1,htk,hnk⟩:=NodeAt.kid HT.out j hlt';subst e1;have hks:=zc8 t j hlt';have hwk:=HWF.out.at j hlt';have hs0:=zey false t.kids j hlt';have hs1:=zey true t.kids j hlt';generalize t.kids[j]=u at *;have HK:=Zh (fun w' (hb:Below wr.heap.size wr w')=>IH.out u w' ok (.slice B m1 m2) g' (j*8) (by omega) hwk ((htk.stays hW).stays hb) ((hnk.stays hW).stays hb));have HS0:=Zh hs0;have HS1:=Zh hs1;clear htk hnk hks hwk hs0 hs1;unfold RetTwo at HK;obtain⟨a0,ha0⟩:∃ a,a=min ((LenL false (t.kids.take j)).sum) L:=⟨_,rfl⟩;obtain⟨a1,ha1⟩:∃ a,a=min ((LenL true (t.kids.take j)).sum) L:=⟨_,rfl⟩;obtain⟨b0,hb0⟩:∃ a,a=min (LenU false u) L:=⟨_,rfl⟩;obtain⟨b1,hb1'⟩:∃ a,a=min (LenU true u) L:=⟨_,rfl⟩;rw[←hb0,←hb1'] at HK;rw[←ha0,←ha1];have la0:a0<=L:=(by omega);have la1:a1<=L:=(by omega);have lb0:b0<=L:=(by omega);have lb1:b1<=L:=(by omega);have HA0:=Zh ha0;have HA1:=Zh ha1;have HB0:=Zh hb0;have HB1:=Zh hb1';clear ha0 ha1 hb0 hb1';go_wp2_with (go_at_call 28;(with_reducible refine (HK.out _ (Below.refl _ _)).mono ?_);rintro e w5 ⟨rfl,hb5⟩)
       all_goals
         go_roundg (n'-(j+1))
         case measure=>have:=HMJ.out;omega
         case rel =>
           have q0:=HA0.out;have q1:=HA1.out;have q2:=HB0.out;have q3:=HB1.out;refine⟨j+1,by go_num,by omega,rfl,?_,?_,gro hW hb5⟩
           . rw[HS0.out];refine congrArg (Value.int .i64) ?_;omega
           . rw[HS1.out];refine congrArg (Value.int .i64) ?_;omega
     . have hjn:j=t.kids.length:=(by rw[←HN.out];omega);have hwhole:t.kids.take j=t.kids:=(by rw[hjn];exact List.take_length);rw[hwhole];go_wp2;go_ret2;exact ze4 rfl rfl hW
 . have hb1:(t.op==1)=false:=(by simp[h]);have hb2:(t.op==2)=false:=(by simp[h]);have hb3:(t.op==3)=true:=(by simp[h]);have e:∀ most,LenU most t=bestN most (LenL most t.kids):=fun most=>by rw[hlu most,if_neg (by omega),if_neg (by omega),if_pos h]
   have hk0:0<t.kids.length:=(by omega);rw[e false,e true,←zkc L t.kids hk0,←zkb t.kids hk0];clear hk0;clear h h2 z1 z2 e hlu;go_enter Tryz.func28,Tryz.ntmps28;go_wp2;go_loopg [4,5,60] n' (fun m a b i wr=>∃ j:Nat,i = .int .i64 (j:Int)∧j<=n'∧m=n'-j∧a = .int .i64 ((fold0 L (t.kids.take j):Nat):Int)∧b = .int .i64 ((min (fold1 (t.kids.take j)) L:Nat):Int)∧Below w.heap.size w wr)
   case atStart=>exact⟨0,rfl,Nat.zero_le _,rfl,by simp[LenL,fold0],by simp[LenL,fold1],hB⟩
   case round =>
     obtain⟨j,rfl,hj,hmj,rfl,rfl,hW⟩:=hrel;have HMJ:=Zh hmj;clear hmj c0 c5 c6 c7;have c7:wr.cell? ⟨g,o+7,none⟩=_:=(HNA.out.stays hW) 7 _ rfl
     by_cases hlt:j<n'
     . have hlt':j<t.kids.length:=(by rw[←HN.out];exact hlt);obtain⟨g',B,m1,m2,e1,htk,hnk⟩:=NodeAt.kid HT.out j hlt';subst e1;have hks:=zc8 t j hlt';have hwk:=HWF.out.at j hlt';have hs0:=zik L t.kids j hlt';have hs1:=zij t.kids j hlt';generalize t.kids[j]=u at *;have HK:=Zh (fun w' (hb:Below wr.heap.size wr w')=>IH.out u w' ok (.slice B m1 m2) g' (j*8) (by omega) hwk ((htk.stays hW).stays hb) ((hnk.stays hW).stays hb));have HS0:=Zh hs0;have HS1:=Zh hs1;clear htk hnk hks hwk hs0 hs1;unfold RetTwo at HK;obtain⟨a0,ha0⟩:∃ a,a=fold0 L (t.kids.take j):=⟨_,rfl⟩;obtain⟨a1,ha1⟩:∃ a,a=min (fold1 (t.kids.take j)) L:=⟨_,rfl⟩;obtain⟨b0,hb0⟩:∃ a,a=min (LenU false u) L:=⟨_,rfl⟩;obtain⟨b1,hb1'⟩:∃ a,a=min (LenU true u) L:=⟨_,rfl⟩;rw[←hb0,←hb1'] at HK;rw[←ha0,←ha1];have la0:a0<=L:=(by rw[ha0];exact zh8 L _ L (Nat.le_refl _));have la1:a1<=L:=(by omega);have lb0:b0<=L:=(by omega);have lb1:b1<=L:=(by omega);have HA0:=Zh ha0;have HA1:=Zh ha1;have HB0:=Zh hb0;have HB1:=Zh hb1';clear ha0 ha1 hb0 hb1';go_wp2_with (go_at_call 28;(with_reducible refine (HK.out _ (Below.refl _ _)).mono ?_);rintro e w5 ⟨rfl,hb5⟩)
       all_goals
         go_roundg (n'-(j+1))
         case measure=>have:=HMJ.out;omega
         case rel =>
           have q0:=HA0.out;have q1:=HA1.out;have q2:=HB0.out;have q3:=HB1.out;refine⟨j+1,by go_num,by omega,rfl,?_,?_,gro hW hb5⟩
           . rw[HS0.out];refine congrArg (Value.int .i64) ?_;omega
           . rw[HS1.out];refine congrArg (Value.int .i64) ?_;omega
     . have hjn:j=t.kids.length:=(by rw[←HN.out];omega);have hwhole:t.kids.take j=t.kids:=(by rw[hjn];exact List.take_length);rw[hwhole];go_wp2;go_ret2;exact ze4 rfl rfl hW
 . have hb1:(t.op==1)=false:=(by simp[h]);have hb2:(t.op==2)=false:=(by simp[h]);have hb3:(t.op==3)=false:=(by simp[h]);have hb4:(t.op==4)=true:=(by simp[h]);have h0:0<t.kids.length:=(by omega);have hn3:(0:Int)<(n':Int):=(by rw[HN.out];omega);have hone:∀ most,bestN most (LenL most t.kids)=LenU most (t.kids[0]'h0):=by
     intro most;obtain⟨u,hu⟩:=List.length_eq_one_iff.1 h2;simp[hu,LenL,bestN]
   have e:∀ most,LenU most t=(if most then t.hi else t.lo).toNat*LenU most (t.kids[0]'h0):=fun most=>by rw[hlu most,if_neg (by omega),if_neg (by omega),if_neg (by omega),if_pos h,hone]
   rw[e false,e true];obtain⟨g',B,m1,m2,e1,htk,hnk⟩:=NodeAt.kid HT.out 0 h0;subst e1;have hks:=zc8 t 0 h0;have hwk:=HWF.out.at 0 h0;generalize t.kids[0]=u at *;have HK:=Zh (fun w' (hb:Below w.heap.size w w')=>IH.out u w' ok (.slice B m1 m2) g' (0*8) (by omega) hwk (htk.stays hb) (hnk.stays hb));rw[Nat.zero_mul] at HK;unfold RetTwo at HK;obtain⟨lo,hlo⟩:∃ x:Nat,t.lo=x:=⟨t.lo.toNat,by omega⟩;obtain⟨hi,hhi⟩:∃ x:Nat,t.hi=x:=⟨t.hi.toNat,by omega⟩;have hloV:lo<=32:=(by omega);have hhiV:hi<=32:=(by omega);have e0:min ((if false=true then t.hi else t.lo).toNat*LenU false u) L=min (lo*min (LenU false u) L) L:=(by rw[zgb];simp[hlo]);have e1:min ((if true=true then t.hi else t.lo).toNat*LenU true u) L=min (hi*min (LenU true u) L) L:=(by rw[zgb];simp[hhi]);rw[e0,e1];generalize hb0:min (LenU false u) L=b0 at *;generalize hb1':min (LenU true u) L=b1 at *;have lb0:b0<=L:=(by omega);have lb1:b1<=L:=(by omega);have pr0:lo*b0<=32*1000000:=Nat.mul_le_mul hloV (by omega);have pr1:hi*b1<=32*1000000:=Nat.mul_le_mul hhiV (by omega);have f0:(lo:Int)*(b0:Int)=((lo*b0:Nat):Int):=(by simp);have f1:(hi:Int)*(b1:Int)=((hi*b1:Nat):Int):=(by simp);rw[hlo] at c5;rw[hhi] at c6;have i0:(0:Int)<=(lo:Int)*(b0:Int):=(by rw[f0];omega);have i1:(lo:Int)*(b0:Int)<=9223372036854775807:=(by rw[f0];omega);have i2:(0:Int)<=(hi:Int)*(b1:Int):=(by rw[f1];omega);have i3:(hi:Int)*(b1:Int)<=9223372036854775807:=(by rw[f1];omega);have F0:=Zh f0;have F1:=Zh f1;clear h hlu hone e e0 e1 htk hnk hks hwk h2 h3 h4 h5 h6 hlo hhi hb0 hb1' f0 f1 h0 pr0 pr1;generalize hP0:lo*b0=P0 at *;generalize hP1:hi*b1=P1 at *;clear hP0 hP1;go_enter Tryz.func28,Tryz.ntmps28;go_wp2_with (go_at_call 28;(with_reducible refine (HK.out _ (Below.refl _ _)).mono ?_);rintro e w5 ⟨rfl,hb5⟩;have d5:=za2 c5 hb5;have d6:=za2 c6 hb5)
   by_cases q0:(lo:Int)*(b0:Int)<=(L:Int)
   all_goals
     by_cases q1:(hi:Int)*(b1:Int)<=(L:Int)
     all_goals
       go_region
       all_goals
         go_wp2;go_ret2;have g0:=F0.out;have g1:=F1.out;exact ze4 (by omega) (by omega) (hb5.drew)
theorem zjl {t:T} {k:Value} {ok:Nat->Prop} (w:World) (L:Nat) (hL1:1<=L) (hL2:L<=1000000) (g o:Nat) (hwf:WF t) (ht:Tree w ok t k) (hn:NodeAt w g o t k):
   Calls Tryz.prog 28 #[.pointer (some ⟨g,o,none⟩),.int .i64 L] w (RetTwo w (min (LenU false t) L) (min (LenU true t) L)):=
 span_n L hL1 hL2 _ t w ok k g o (Nat.le_refl _) hwf ht hn
end
section
attribute [local go_sem ↓] Go.wp_at_zero Go.wp_at_succ
structure Ghost where
 F:Nat->Nat->Option T
 G:Nat->Option T
 M:Nat->Prop
section
variable (w:World) (B:Nat) (xs:List Int) (Γ:Ghost)
structure PartOk (g o:Nat) (t:T):Prop where
 four:o % 4=0
 block:∃ cur,w.heap[g]?=some (.cells cur 80 (0,0))
 wf:WF t
 node:∃ gn on kn,w.cell? ⟨g,o,none⟩=some (.pointer (some ⟨gn,on,none⟩))∧NodeAt w gn on t kn∧Tree w (fun _=>True) t kn∧∃ cur,w.heap[gn]?=some (.cells cur 41 (0,0))
 kids:w.cell? ⟨g,o+1,none⟩=some (.slice none 0 0)∨∃ gk,w.cell? ⟨g,o+1,none⟩=some (.slice (some ⟨gk,0,none⟩) t.kids.length t.kids.length)∧∀ (i:Nat) (hi:i<t.kids.length),Γ.F gk (i*4)=some (t.kids[i]'hi)
 asked:∃ a:Nat,w.cell? ⟨g,o+2,none⟩=some (.int .i64 a)∧a<=xs.length+1
 starts:w.cell? ⟨g,o+3,none⟩=some (.slice none 0 0)∨∃ gf,w.cell? ⟨g,o+3,none⟩=some (.slice (some ⟨gf,0,none⟩) (xs.length+1) (xs.length+1))∧Γ.G gf=some t
structure FromOk (gf:Nat) (t:T):Prop where
 block:∃ cur,w.heap[gf]?=some (.cells cur 82 (0,0))
 cells:∀ i,i<=xs.length->∃ v,w.cell? ⟨gf,i,none⟩=some v∧(v = .slice none 0 0∨∃ q:Nat->Bool,Pl w B v (xs.length / 64+1) q∧(∀ g,v.ownBlock=some g->Γ.M g)∧∀ j,q j=true↔E xs t i j)
structure Inv:Prop where
 part:∀ g o t,Γ.F g o=some t->B<=g∧PartOk w xs Γ g o t
 starts:∀ gf t,Γ.G gf=some t->B<=gf∧FromOk w B xs Γ gf t
end
def Still (w:World) (b:Nat):Prop:=b<w.heap.size∧(∀ cur,w.heap[b]?≠some (.cells cur 80 (0,0)))∧∀ cur,w.heap[b]?≠some (.cells cur 82 (0,0))
theorem zai {w:World} {b:Nat} {cur:Array Value} {ty:TypeId} (h:w.heap[b]?=some (.cells cur ty (0,0))) (h1:ty≠80) (h2:ty≠82):Still w b:=
 ⟨za0 h,fun c e=>by rw[h] at e;injection e with e;injection e with _ e _;exact h1 e,fun c e=>by rw[h] at e;injection e with e;injection e with _ e _;exact h2 e⟩
structure Ext (B:Nat) (w w':World) (Γ Γ':Ghost):Prop where
 below:Below B w w'
 F:∀ g o t,Γ.F g o=some t->Γ'.F g o=some t
 G:∀ g t,Γ.G g=some t->Γ'.G g=some t
 M:∀ g,Γ.M g->Γ'.M g
 new:∀ g,Γ'.M g->Γ.M g∨w.heap.size<=g
 still:∀ b,Still w b->w'.heap[b]?=w.heap[b]?
 stay:∀ g o t,Γ.F g o=some t->∀ j,j=1∨j=3->∀ v,w.cell? ⟨g,o+j,none⟩=some v->v ≠ .slice none 0 0->w'.cell? ⟨g,o+j,none⟩=some v
 box:∀ (b:Nat) (cur:Array Value),w.heap[b]?=some (.cells cur 82 (0,0))->(∀ t,Γ.G b≠some t)->w'.heap[b]?=w.heap[b]?
 newG:∀ g t,Γ'.G g=some t->Γ.G g=some t∨w.heap.size<=g
theorem Ext.refl (B:Nat) (w:World) (Γ:Ghost):Ext B w w Γ Γ:=⟨Below.refl _ _,fun _ _ _ h=>h,fun _ _ h=>h,fun _ h=>h,fun _ h => .inl h,fun _ _=>rfl,fun _ _ _ _ _ _ _ h _=>h,fun _ _ _ _=>rfl,fun _ _ e => .inl e⟩
theorem Still.ext {B:Nat} {w w':World} {Γ Γ':Ghost} {b:Nat} (h:Ext B w w' Γ Γ') (hs:Still w b):Still w' b:=by
 have e:=h.still b hs;exact⟨Nat.lt_of_lt_of_le hs.1 h.below.size,fun c=>by rw[e];exact hs.2.1 c,fun c=>by rw[e];exact hs.2.2 c⟩
theorem Ext.trans {B:Nat} {w w' w'':World} {Γ Γ' Γ'':Ghost} (h:Ext B w w' Γ Γ') (k:Ext B w' w'' Γ' Γ''):Ext B w w'' Γ Γ'':=
 ⟨h.below.trans k.below,fun g o t e=>k.F g o t (h.F g o t e),fun g t e=>k.G g t (h.G g t e),fun g e=>k.M g (h.M g e),fun g e=>by
   rcases k.new g e with e|e
   . exact h.new g e
   . exact .inr (Nat.le_trans h.below.size e),fun b hs=>(k.still b (hs.ext h)).trans (h.still b hs),fun g o t e j hj v hv hn=>k.stay g o t (h.F g o t e) j hj v (h.stay g o t e j hj v hv hn) hn,fun b cur e hG=>by
   have e1:=h.box b cur e hG;refine (k.box b cur (e1.trans e) fun t e2=>?_).trans e1;rcases h.newG b t e2 with e2|e2
   . exact hG t e2
   . have:=za0 e;omega,fun g t e=>by
   rcases k.newG g t e with e|e
   . exact h.newG g t e
   . exact .inr (Nat.le_trans h.below.size e)⟩
theorem Tree.ext {B:Nat} {w w':World} {Γ Γ':Ghost} {t:T} {k:Value} (ht:Tree w (fun _=>True) t k) (h:Ext B w w' Γ Γ'):Tree w' (fun _=>True) t k:=
 ht.mono fun b _ _ ⟨cur,e⟩=>⟨h.still b (zai e (by decide) (by decide)),trivial⟩
theorem Pl.ext {B C m:Nat} {w w':World} {Γ Γ':Ghost} {v:Value} {q:Nat->Bool} (hp:Pl w C v m q) (h:Ext B w w' Γ Γ'):Pl w' C v m q:=by
 refine⟨hp.1,?_⟩;rcases hp.2 with hn|⟨g,cap,cur,rfl,hb,hg,rest⟩
 . exact .inl hn
 . exact .inr ⟨g,cap,cur,rfl,hb,(h.still g (zai hg (by decide) (by decide))).trans hg,rest⟩
section
variable {w w':World} {B:Nat} {xs:List Int} {Γ Γ':Ghost} {g o:Nat} {t:T}
theorem zb4 {k:Value} (ht:Tree w (fun _=>True) t k) (hs:∀ b,Still w b->w'.heap[b]?=w.heap[b]?):Tree w' (fun _=>True) t k:=
 ht.mono fun b _ _ ⟨cur,e⟩=>⟨hs b (zai e (by decide) (by decide)),trivial⟩
theorem zc2 {C m:Nat} {v:Value} {q:Nat->Bool} (hp:Pl w C v m q) (hs:∀ b,Still w b->w'.heap[b]?=w.heap[b]?):Pl w' C v m q:=by
 refine⟨hp.1,?_⟩;rcases hp.2 with hn|⟨g,cap,cur,rfl,hb,hg,rest⟩
 . exact .inl hn
 . exact .inr ⟨g,cap,cur,rfl,hb,(hs g (zai hg (by decide) (by decide))).trans hg,rest⟩
theorem PartOk.kept (h:PartOk w xs Γ g o t) (hs:∀ b,Still w b->w'.heap[b]?=w.heap[b]?) (hF:∀ g o t,Γ.F g o=some t->Γ'.F g o=some t) (hG:∀ g t,Γ.G g=some t->Γ'.G g=some t)
   (hb:∃ cur,w'.heap[g]?=some (.cells cur 80 (0,0))) (hc:∀ j,j<4->w'.cell? ⟨g,o+j,none⟩=w.cell? ⟨g,o+j,none⟩):PartOk w' xs Γ' g o t:=by
 obtain⟨gn,on,kn,h1,h2,h3,cur,h4⟩:=h.node;have e:=hs gn (zai h4 (by decide) (by decide));refine⟨h.four,hb,h.wf,⟨gn,on,kn,(hc 0 (by omega)).trans h1,h2.block e,zb4 h3 hs,cur,e.trans h4⟩,?_,?_,?_⟩
 . rcases h.kids with k|⟨gk,k1,k2⟩
   . exact .inl ((hc 1 (by omega)).trans k)
   . exact .inr ⟨gk,(hc 1 (by omega)).trans k1,fun i hi=>hF _ _ _ (k2 i hi)⟩
 . obtain⟨a,a1,a2⟩:=h.asked;exact⟨a,(hc 2 (by omega)).trans a1,a2⟩
 . rcases h.starts with k|⟨gf,k1,k2⟩
   . exact .inl ((hc 3 (by omega)).trans k)
   . exact .inr ⟨gf,(hc 3 (by omega)).trans k1,hG _ _ k2⟩
theorem FromOk.kept (h:FromOk w B xs Γ g t) (hs:∀ b,Still w b->w'.heap[b]?=w.heap[b]?) (hM:∀ g,Γ.M g->Γ'.M g)
   (hb:∃ cur,w'.heap[g]?=some (.cells cur 82 (0,0))) (hc:∀ i,i<=xs.length->w'.cell? ⟨g,i,none⟩=w.cell? ⟨g,i,none⟩):FromOk w' B xs Γ' g t:=by
 refine⟨hb,fun i hi=>?_⟩;obtain⟨v,h1,h2⟩:=h.cells i hi;refine⟨v,(hc i hi).trans h1,?_⟩;rcases h2 with h2|⟨q,h3,h4,h5⟩
 . exact .inl h2
 . exact .inr ⟨q,zc2 h3 hs,fun g e=>hM g (h4 g e),h5⟩
theorem Inv.stays (h:Inv w B xs Γ) (hb:Below w.heap.size w w'):Inv w' B xs Γ:=by
 have hs:∀ b,Still w b->w'.heap[b]?=w.heap[b]?:=fun b hb'=>hb.block b hb'.1
 refine⟨fun g o t e=>?_,fun gf t e=>?_⟩
 . obtain⟨h1,h2⟩:=h.part g o t e;obtain⟨cur,hc⟩:=h2.block;have hg:=za0 hc;exact⟨h1,h2.kept hs (fun _ _ _ h=>h) (fun _ _ h=>h) ⟨cur,(hb.block g hg).trans hc⟩ fun j _=>hb.cell (p:=⟨g,o+j,none⟩) hg⟩
 . obtain⟨h1,h2⟩:=h.starts gf t e;obtain⟨cur,hc⟩:=h2.block;have hg:=za0 hc;exact⟨h1,h2.kept hs (fun _ h=>h) ⟨cur,(hb.block gf hg).trans hc⟩ fun i _=>hb.cell (p:=⟨gf,i,none⟩) hg⟩
theorem Ext.stays (Γ:Ghost) (hb:Below w.heap.size w w') (hB:B<=w.heap.size):Ext B w w' Γ Γ:=
 ⟨hb.mono hB,fun _ _ _ h=>h,fun _ _ h=>h,fun _ h=>h,fun _ h => .inl h,fun b hs=>hb.block b hs.1,fun g o t _ j _ v hv _=>za2 hv hb,fun b cur e _=>hb.block b (za0 e),fun _ _ e => .inl e⟩
theorem zgz {g' o' j k:Nat} (h:o % 4=0) (h':o' % 4=0) (hj:j<4) (hk:k<4) (e:(⟨g,o+j,none⟩:Addr)=⟨g',o'+k,none⟩):g=g'∧o=o'∧j=k:=by
 injection e with e1 e2
 omega
theorem zaf {b c:Nat} {cur cur':Array Value} {ty ty':TypeId} (h:w.heap[b]?=some (.cells cur ty (0,0))) (h':w.heap[c]?=some (.cells cur' ty' (0,0))) (hne:ty≠ty'):b≠c:=by
 intro e;subst e;rw[h] at h';injection h' with h'
 injection h' with _ e _
 exact hne e
theorem zaz {b i:Nat} {cur:Array Value} {ty:TypeId} (h:w.heap[b]?=some (.cells cur ty (0,0))) (p:Addr) (v:Value):∃ cur',(w.setCell p v).heap[b]?=some (.cells cur' ty (0,0)):=by
 by_cases e:b=p.block
 . subst e;exact⟨_,by simp[World.setCell,Array.getElem?_modify,h];rfl⟩
 . exact⟨cur,(Below.heap_setCell w p v b e).trans h⟩
theorem za8 {a b:Addr} {v:Value} (h:a≠b):(w.setCell a v).cell? b=w.cell? b:=by
 rw[World.cell?_setCell_other];exact h
theorem zc1 (h:Inv w B xs Γ) (e:Γ.F g o=some t) (j:Nat) (v:Value) (b:Nat) (hs:Still w b):(w.setCell ⟨g,j,none⟩ v).heap[b]?=w.heap[b]?:=by
 obtain⟨cur,hc⟩:=(h.part g o t e).2.block;exact Below.heap_setCell w _ v b (fun e'=>hs.2.1 cur (by rw[e'];exact hc))
theorem zgs {gf:Nat} (h:Inv w B xs Γ) (e:Γ.G gf=some t) (j:Nat) (v:Value) (b:Nat) (hs:Still w b):(w.setCell ⟨gf,j,none⟩ v).heap[b]?=w.heap[b]?:=by
 obtain⟨cur,hc⟩:=(h.starts gf t e).2.block;exact Below.heap_setCell w _ v b (fun e'=>hs.2.2 cur (by rw[e'];exact hc))
theorem zi8 {g' o' j:Nat} {t':T} (h:Inv w B xs Γ) (e:Γ.F g o=some t) (e':Γ.F g' o'=some t') (hne:¬ (g'=g∧o'=o)) (hj:j<4) (v:Value) (hF:∀ g o t,Γ.F g o=some t->Γ'.F g o=some t) (hG:∀ g t,Γ.G g=some t->Γ'.G g=some t):
   PartOk (w.setCell ⟨g,o+j,none⟩ v) xs Γ' g' o' t':=by
 have k:=(h.part g o t e).2;have k':=(h.part g' o' t' e').2;obtain⟨cur,hc⟩:=k'.block;refine k'.kept (zc1 h e _ v) hF hG (zaz (i:=0) hc _ v) fun i hi=>za8 fun ea=>hne ?_
 have:=zgz k.four k'.four hj hi ea;exact⟨this.1.symm,this.2.1.symm⟩
theorem zi9 {gf j:Nat} {t':T} (h:Inv w B xs Γ) (e:Γ.F g o=some t) (e':Γ.G gf=some t') (v:Value) (hM:∀ g,Γ.M g->Γ'.M g):FromOk (w.setCell ⟨g,j,none⟩ v) B xs Γ' gf t':=by
 have k:=(h.part g o t e).2;have k':=(h.starts gf t' e').2;obtain⟨cur,hc⟩:=k.block;obtain⟨cur',hc'⟩:=k'.block;have hne:=zaf hc hc' (by decide);exact k'.kept (zc1 h e _ v) hM (zaz (i:=0) hc' _ v) fun i hi=>za8 fun ea=>hne (by injection ea)
theorem Inv.ask (h:Inv w B xs Γ) (e:Γ.F g o=some t) (a:Nat) (ha:a<=xs.length+1):Inv (w.setCell ⟨g,o+2,none⟩ (.int .i64 a)) B xs Γ∧Ext B w (w.setCell ⟨g,o+2,none⟩ (.int .i64 a)) Γ Γ:=by
 have k:=(h.part g o t e).2;have kB:=(h.part g o t e).1;have hid:∀ g o t,Γ.F g o=some t->Γ.F g o=some t:=fun _ _ _ h=>h
 have hid2:∀ g t,Γ.G g=some t->Γ.G g=some t:=fun _ _ h=>h
 refine⟨⟨fun g' o' t' e'=>?_,fun gf t' e'=>⟨(h.starts gf t' e').1,zi9 h e e' _ fun _ h=>h⟩⟩,?_⟩
 . refine⟨(h.part g' o' t' e').1,?_⟩
   by_cases hne:g'=g∧o'=o
   . obtain⟨rfl,rfl⟩:=hne;rw[e] at e';injection e' with e'
     subst e';obtain⟨cur,hc⟩:=k.block;have hs:=zc1 h e (o'+2) (.int .i64 a);have hcell:∀ j,j<4->j≠2->(w.setCell ⟨g',o'+2,none⟩ (.int .i64 a)).cell? ⟨g',o'+j,none⟩=w.cell? ⟨g',o'+j,none⟩:=fun j hj hj2=>za8 fun ea=>by injection ea;omega
     obtain⟨gn,on,kn,h1,h2,h3,cur2,h4⟩:=k.node;have en:=hs gn (zai h4 (by decide) (by decide));obtain⟨a0,h5,_⟩:=k.asked;refine⟨k.four,zaz (i:=0) hc _ _,k.wf,⟨gn,on,kn,(hcell 0 (by omega) (by omega)).trans h1,h2.block en,zb4 h3 hs,cur2,en.trans h4⟩,?_,⟨a,World.cell?_setCell_same _ _ _ h5,ha⟩,?_⟩
     . rcases k.kids with k1|⟨gk,k1,k2⟩
       . exact .inl ((hcell 1 (by omega) (by omega)).trans k1)
       . exact .inr ⟨gk,(hcell 1 (by omega) (by omega)).trans k1,k2⟩
     . rcases k.starts with k1|⟨gf,k1,k2⟩
       . exact .inl ((hcell 3 (by omega) (by omega)).trans k1)
       . exact .inr ⟨gf,(hcell 3 (by omega) (by omega)).trans k1,k2⟩
   . exact zi8 h e e' hne (by omega) _ hid hid2
 . refine⟨(Below.refl _ _).setCell (p:=⟨g,o+2,none⟩) kB _,hid,hid2,fun _ h=>h,fun _ h => .inl h,zc1 h e _ _,fun g' o' t' e' j hj v hv hn=>?_,fun b cur eb _=>Below.heap_setCell w _ _ b (zaf eb k.block.choose_spec (by decide)),fun _ _ e => .inl e⟩;rw[za8]
   . exact hv
   . intro ea;have:=zgz k.four (h.part g' o' t' e').2.four (by omega) (show j<4 by omega) ea;omega
def Ghost.row (Γ:Ghost) (gk:Nat) (t:T):Ghost:={Γ with F:=fun g o=>if g=gk then (if o % 4=0 then t.kids[o / 4]? else none) else Γ.F g o}
theorem zjq (Γ:Ghost) (gk i:Nat) (t:T) (hi:i<t.kids.length):(Γ.row gk t).F gk (i*4)=some (t.kids[i]'hi):=by
 simp[Ghost.row,hi]
theorem Inv.old (h:Inv w B xs Γ) (e:Γ.F g o=some t):g<w.heap.size:=by
 obtain⟨cur,hc⟩:=(h.part g o t e).2.block;exact za0 hc
theorem Inv.layKids (h:Inv w B xs Γ) (e:Γ.F g o=some t) (gk:Nat) (hgk:w.heap.size<=gk) (hB:B<=w.heap.size)
   (hblk:∀ b,b<w.heap.size->b≠g->w'.heap[b]?=w.heap[b]?) (hg:∃ cur,w'.heap[g]?=some (.cells cur 80 (0,0)))
   (hc:∀ j,j≠o+1->w'.cell? ⟨g,j,none⟩=w.cell? ⟨g,j,none⟩) (hc1:w'.cell? ⟨g,o+1,none⟩=some (.slice (some ⟨gk,0,none⟩) t.kids.length t.kids.length))
   (hold:w.cell? ⟨g,o+1,none⟩=some (.slice none 0 0)) (hk:∀ (i:Nat) (hi:i<t.kids.length),PartOk w' xs Γ gk (i*4) (t.kids[i]'hi)) (hb:Below B w w'):
   Inv w' B xs (Γ.row gk t)∧Ext B w w' Γ (Γ.row gk t):=by
 have k:=(h.part g o t e).2;obtain⟨curg,hcg⟩:=k.block;have hF:∀ g o t',Γ.F g o=some t'->(Γ.row gk t).F g o=some t':=fun g' o' t' e'=>by
   have:=h.old e';unfold Ghost.row;simp only;rw[if_neg (by omega)];exact e'
 have hs:∀ b,Still w b->w'.heap[b]?=w.heap[b]?:=fun b hb'=>hblk b hb'.1 (fun e'=>hb'.2.1 curg (by rw[e'];exact hcg))
 have hcells:∀ g' o' t',Γ.F g' o'=some t'->¬ (g'=g∧o'=o)->∀ j,j<4->w'.cell? ⟨g',o'+j,none⟩=w.cell? ⟨g',o'+j,none⟩:=fun g' o' t' e' hne j hj=>by
   by_cases hgg:g'=g
   . subst hgg;refine hc _ ?_;have h1:=(h.part g' o' t' e').2.four;have h2:=k.four;intro e2;exact hne ⟨rfl,by omega⟩
   . exact World.cell?_of_block (w:=w) (a:=⟨g',o'+j,none⟩) (hblk g' (h.old e') hgg)
 refine⟨⟨fun g' o' t' e'=>?_,fun gf t' e'=>?_⟩,⟨hb,hF,fun _ _ h=>h,fun _ h=>h,fun _ h => .inl h,hs,fun g' o' t' e' j hj v hv hn=>?_,fun b cur eb _=>hblk b (za0 eb) (zaf eb hcg (by decide)),fun _ _ e => .inl e⟩⟩
 . by_cases hgk':g'=gk
   . subst hgk';unfold Ghost.row at e';simp only[if_true] at e'
     by_cases h4:o' % 4=0
     . rw[if_pos h4] at e';obtain⟨hi,e2⟩:=List.getElem?_eq_some_iff.1 e';have hp:=hk (o' / 4) hi;rw[e2,show o' / 4*4=o' by omega] at hp;obtain⟨cur,hcur⟩:=hp.block;exact⟨by omega,hp.kept (fun _ _=>rfl) hF (fun _ _ h=>h) ⟨cur,hcur⟩ fun _ _=>rfl⟩
     . rw[if_neg h4] at e';cases e'
   . have e2:Γ.F g' o'=some t':=by
       unfold Ghost.row at e';simp only at e'
       rwa [if_neg hgk'] at e'
     refine⟨(h.part g' o' t' e2).1,?_⟩;have hp:=(h.part g' o' t' e2).2
     by_cases hne:g'=g∧o'=o
     . obtain⟨rfl,rfl⟩:=hne;rw[e] at e2;injection e2 with e2
       subst e2;obtain⟨gn,on,kn,h1,h2,h3,cur2,h4⟩:=k.node;have en:=hs gn (zai h4 (by decide) (by decide));obtain⟨a,a1,a2⟩:=k.asked;refine⟨k.four,hg,k.wf,⟨gn,on,kn,(hc _ (by omega)).trans h1,h2.block en,zb4 h3 hs,cur2,en.trans h4⟩,.inr ⟨gk,hc1,fun i hi=>zjq Γ gk i t hi⟩,⟨a,(hc _ (by omega)).trans a1,a2⟩,?_⟩;rcases k.starts with k1|⟨gf,k1,k2⟩
       . exact .inl ((hc _ (by omega)).trans k1)
       . exact .inr ⟨gf,(hc _ (by omega)).trans k1,k2⟩
     . refine hp.kept hs hF (fun _ _ h=>h) ?_ (hcells g' o' t' e2 hne);obtain⟨cur,hcur⟩:=hp.block
       by_cases hgg:g'=g
       . rw[hgg];exact hg
       . exact⟨cur,(hblk g' (h.old e2) hgg).trans hcur⟩
 . have hp:=h.starts gf t' e';obtain⟨cur,hcur⟩:=hp.2.block;have hne:=zaf hcur hcg (by decide);have heq:=hblk gf (za0 hcur) hne;exact⟨hp.1,hp.2.kept hs (fun _ h=>h) ⟨cur,heq.trans hcur⟩ fun i _=>World.cell?_of_block (w:=w) (a:=⟨gf,i,none⟩) heq⟩
 . by_cases hne:g'=g∧o'=o
   . obtain⟨rfl,rfl⟩:=hne;rcases hj with rfl|rfl
     . rw[hold] at hv;injection hv with hv
       exact absurd hv.symm hn
     . exact (hc _ (by omega)).trans hv
   . exact (hcells g' o' t' e' hne j (by omega)).trans hv
end
end
section
attribute [local go_sem ↓] Go.wp_at_zero Go.wp_at_succ
set_option maxHeartbeats 1000000 in
theorem zmz {t:T} {k:Value} {ok:Nat->Prop} (w:World) (hwf:WF t) (ht:Tree w ok t k):Calls Tryz.prog 12 #[nodeP t k] w (RetInt w (lenN false t)):=by
 obtain⟨A,n',c,rfl⟩:=ht.form;have hk:=(zjl (w.alloc (.cells #[.int .i64 t.op,.int .u64 (word t.set 0),.int .u64 (word t.set 1),.int .u64 (word t.set 2),.int .u64 (word t.set 3),.int .i64 t.lo,.int .i64 t.hi,.slice A n' c] 41)) 1000 (by omega) (by omega) w.heap.size 0 hwf (ht.alloc _) (Box8.new w t (.slice A n' c)).nodeAt);rw[show ((1000:Nat):Int)=1000 from rfl] at hk;have hK:=Zh hk;clear hk;rw[zee false hwf];unfold RetTwo at hK;unfold nodeP;clear ht hwf;go_enter Tryz.func12,Tryz.ntmps12;go_wp2_with (go_at_call 28;(with_reducible refine hK.out.mono ?_);rintro e w5 ⟨rfl,hb5⟩);go_ret;exact⟨rfl,gro1 (Below.refl _ _) hb5⟩
set_option maxHeartbeats 1000000 in
theorem zf9 {t:T} {k:Value} {ok:Nat->Prop} (w:World) (hwf:WF t) (ht:Tree w ok t k):Calls Tryz.prog 11 #[nodeP t k] w (RetInt w (lenN true t)):=by
 obtain⟨A,n',c,rfl⟩:=ht.form;have hk:=(zjl (w.alloc (.cells #[.int .i64 t.op,.int .u64 (word t.set 0),.int .u64 (word t.set 1),.int .u64 (word t.set 2),.int .u64 (word t.set 3),.int .i64 t.lo,.int .i64 t.hi,.slice A n' c] 41)) 1000 (by omega) (by omega) w.heap.size 0 hwf (ht.alloc _) (Box8.new w t (.slice A n' c)).nodeAt);rw[show ((1000:Nat):Int)=1000 from rfl] at hk;have hK:=Zh hk;clear hk;rw[zee true hwf];unfold RetTwo at hK;unfold nodeP;clear ht hwf;go_enter Tryz.func11,Tryz.ntmps11;go_wp2_with (go_at_call 28;(with_reducible refine hK.out.mono ?_);rintro e w5 ⟨rfl,hb5⟩);go_ret;exact⟨rfl,gro1 (Below.refl _ _) hb5⟩
end
end Go.Proofs.YtgbdanddbgomhaaGreatDoor
