import Derived.Test.YtgbdanddbgomhaaGreatDoorMv38
set_option linter.unusedVariables false
set_option linter.unusedSimpArgs false
namespace Go.Proofs.YtgbdanddbgomhaaGreatDoor
open Go Go.RowKit
section
attribute [local go_sem ↓] Go.wp_at_zero Go.wp_at_succ
theorem zp8 {g:Nat} {s:ByteArray} {deep:Option (Nat->R T)} {n:Int} (hs:s.size<=1000) (hn:0<=n∧n<=20) (hd:Deep g s deep n) (hfw:∀ f,deep=some f->∀ p,p<=s.size->Fwd s p (f p)):∀ w st',Rdr w g s st'->st'.opn=n->st'.pos<=s.size->
   Calls Tryz.prog 71 #[.pointer (some ⟨g,0,none⟩)] w (RetNode w g s (cPart s deep (n==0) st'.pos) st'):=by
 intro w st' h1 h2 h3;subst h2;exact part_p w g s st' h1 hs h3 hn deep hd hfw
set_option maxRecDepth 20000 in
set_option maxHeartbeats 4000000 in
theorem zhl (w:World) (g:Nat) (s:ByteArray) (st:St) (h:Rdr w g s st) (hs:s.size<=1000) (hpos:st.pos<=s.size) (hopn:0<=st.opn∧st.opn<=20) (deep:Option (Nat->R T)) (hd:Deep g s deep st.opn) (hfw:∀ f,deep=some f->∀ p,p<=s.size->Fwd s p (f p)):
   Calls Tryz.prog 46 #[.pointer (some ⟨g,0,none⟩)] w (RetNode w g s (cPat s deep (st.opn==0) st.pos) st):=by
 have mid:=Mid.start h;have HA:=Zh (zp8 hs hopn hd hfw);have HF:=Zh (zeo s deep hfw (st.opn==0));have hgw:=h.lt;have hgb:g≠w.heap.size:=(by omega);have hgb':w.heap.size≠g:=(by omega);generalize hw0:w.alloc (.cells #[.int .i64 0,.int .u64 0,.int .u64 0,.int .u64 0,.int .u64 0,.int .i64 0,.int .i64 0,.slice none 0 0] 41)=w0 at mid;have HW:=Zh hw0;clear hw0 hd hfw;go_enter Tryz.func46,Tryz.ntmps46;go_wp2_with fail;rw[HW.out];clear HW;go_wp2_with (go_at_call 71;(with_reducible refine (HA.out _ _ mid.rdr rfl hpos).mono ?_);rintro e w1 ⟨t1,k1,st1,rfl,ht1,r1,o1,hr1⟩;obtain⟨A,tn,tc,rfl⟩:=ht1.form;unfold nodeV;have mid1:=mid.next o1 r1;have hw1:=mid1.new);have hrow:=Row.new w1 (w.heap.size+1) t1 (.slice A tn tc) hw1 (ht1.weak fun b hb _=>by have:=mid.new;omega);have hgo:=Zh (Going.start (step:=patStep s deep (st.opn==0)) (f:=fun t=>[t]) hr1);generalize hm0:(if st1.bad=0 then s.size+1 else 0)=m0 at hgo;have hm1:m0<=s.size+1:=by rw[←hm0];split <;> omega
 have mid2:=mid1.alloc (.cells #[.int .i64 t1.op,.int .u64 (word t1.set 0),.int .u64 (word t1.set 1),.int .u64 (word t1.set 2),.int .u64 (word t1.set 3),.int .i64 t1.lo,.int .i64 t1.hi,(.slice A tn tc)] 41);generalize w1.alloc (.cells #[.int .i64 t1.op,.int .u64 (word t1.set 0),.int .u64 (word t1.set 1),.int .u64 (word t1.set 2),.int .u64 (word t1.set 3),.int .i64 t1.lo,.int .i64 t1.hi,(.slice A tn tc)] 41)=w2 at *;clear hm0 mid mid1 r1 o1 hr1 ht1;go_loopg [3] m0 (fun m v wr=>∃ l st2,Mid w g s st2 wr∧Row wr (w.heap.size+1) v l∧0<l.length∧l.length+m<=s.size+2∧Going s (thenR (cPart s deep (st.opn==0) st.pos) fun b p=>loopR (patStep s deep (st.opn==0)) (s.size+1) [b] p) (patStep s deep (st.opn==0)) st m l st2)
 case atStart=>exact⟨[t1],st1,mid2,hrow,by simp,by simp;omega,hgo.out⟩
 case round =>
   clear mid2 hrow hgo hm1;obtain⟨l,st2,mid,hrow,hl0,hlm,hgo⟩:=hrel;have hp2:=hgo.pos;have ho2:=hgo.opn
   by_cases h124:st2.peek s=124
   . have hb2:=(zaj s st2 (by omega)).1;have hlt:=(zaj s st2 (by omega)).2;have hst:patStep s deep (st.opn==0) l st2.pos=some (thenR (cPart s deep (st.opn==0) (st2.pos+1)) fun t p => .ok (l++[t],p)):=by
       unfold patStep;rw[if_pos ((zak s st2 hb2 124).1 h124)]
     have HST:=Zh hst;have HGO:=Zh hgo;have HO2:=Zh ho2;have HB2:=Zh hb2;have e1:(st2.peek s==124)=true:=(by simpa using h124);have hll:l.length<=100000:=(by omega);have hBw:w.heap.size+1<=wr.heap.size:=mid.new;have hp3:st2.pos+1<=s.size:=(by omega);obtain⟨l0,l1,l2,l3,l4⟩:=mid.rdr.cell;obtain⟨f0,f1,f2,f3,f4⟩:=mid.rdr.frozen;clear hst hgo ho2 hb2 h124;go_wp2_with (first
       | (go_at_call 72;(with_reducible refine (zae _ g s st2 (by first | with_reducible exact mid.rdr | with_reducible exact mid.rdr.drewN _) hs).mono ?_);rintro e w3 ⟨rfl,n,rfl⟩)
       | (go_at_call 71;refine (HA.out _ _ ((mid.drewN n).setPos (st2.pos+1)).rdr HO2.out hp3).mono ?_;rintro e w4 ⟨t,k,st4,rfl,ht4,r4,o4,hr4⟩;obtain⟨A,tn,tc,rfl⟩:=ht4.form;unfold nodeV;have mid4:=((mid.drewN n).setPos (st2.pos+1)).next o4 r4;have row4:=((hrow.drewN n).far (g:=g) (by omega) (i:=1) (.int .i64 ((st2.pos+1:Nat):Int))).only o4 ((mid.drewN n).setPos (st2.pos+1)).rdr;have ht5:=zde ((hrow.drewN n).far (g:=g) (by omega) (i:=1) (.int .i64 ((st2.pos+1:Nat):Int))) (by simpa [World.setCell] using hBw) ht4;have hw4:w.heap.size+1<=w4.heap.size:=mid4.new)
       | (at_builtin;refine zbd (by rfl) _ _ (by rfl) (by rfl) (row4.alloc _) (by simp;omega) hll t (.slice A tn tc) (ht5.alloc _) ⟨w4.heap.size,0,none⟩ 1 (by rfl) (zcb w4 t (.slice A tn tc)) ?_;intro v6 w6 row6 o6 hB6;have mid6:=(mid4.alloc _).row o6 (fun b hb=>by have:=(row4.lt b hb).1;omega)))
     have hre:Rel s (thenR (cPart s deep (st.opn==0) (st2.pos+1)) fun t p => .ok (l++[t],p)) st2 (l++[t]) st4:=(hr4.from (st:=st2) rfl rfl rfl).then (fun hz=>⟨rfl,rfl,rfl,hr4.pos⟩) fun _ hz=>Rel.mk0 rfl hr4.pos (fun h=>absurd hz h) fun _ => .inl ⟨hz,rfl⟩
     have HG:=HGO.out.on HB2.out HST.out hre (HF.out l st2.pos _ HST.out);go_roundg (if st4.bad=0 then gk-1 else 0)
     case measure=>exact HG.1
     case rel=>exact⟨l++[t],st4,mid6,row6,by simp,by have:=HG.1;simp;omega,HG.2⟩
   . have hre:=hgo.stop fun hb=>by
       unfold patStep;rw[if_neg fun h=>h124 ((zak s st2 hb 124).2 h)]
     have HRE:Hid (Rel s (cPat s deep (st.opn==0) st.pos) st (T.many 3 l) st2):=by
       show Rel s (cPat s deep (st.opn==0) st.pos) st (T.many 3 l) st2
       exact hre.then (fun hz=>⟨rfl,rfl,rfl,hp2⟩) fun _ hz=>Rel.mk0 rfl hp2 (fun h=>absurd hz h) fun _ => .inl ⟨hz,rfl⟩
     have e1:(st2.peek s==124)=false:=(by simpa using h124);clear hre hgo h124;obtain⟨l0,l1,l2,l3,l4⟩:=mid.rdr.cell;go_wp2_with (first
       | (go_at_call 72;(with_reducible refine (zae _ g s st2 (by first | with_reducible exact mid.rdr | with_reducible exact mid.rdr.drewN _) hs).mono ?_);rintro e w3 ⟨rfl,n,rfl⟩)
       | (go_at_call 73;(with_reducible refine (zjo _ _ _ _ _ (hrow.drewN _) hl0).mono ?_);rintro e w4 ⟨k,rfl,ht4,hb4⟩;obtain⟨A,tn,tc,rfl⟩:=ht4.form;unfold nodeV;have mid4:=(mid.drewN _).below hb4;obtain⟨m0,m1,m2,m3,m4,m5,m6,m7⟩:=mid4.box.cell;obtain⟨y0,y1,y2,y3,y4,y5,y6,y7⟩:=mid4.box.frozen))
     refine bodyPost_ret (v:=nodeV (T.many 3 l) (.slice A tn tc)) ?_ rfl (mid4.ret (ht4.weak fun b hb _=>hb) HRE.out);simp[nodeV,T.zero,T.op,T.set,T.lo,T.hi,za6,results,Tryz.results46,go_sem,m0,m1,m2,m3,m4,m5,m6,m7]
theorem pat_p:∀ (d:Nat),d<=20->∀ (w:World) (g:Nat) (s:ByteArray) (st:St),Rdr w g s st->s.size<=1000->st.pos<=s.size->st.opn=20-(d:Int)->
   Calls Tryz.prog 46 #[.pointer (some ⟨g,0,none⟩)] w (RetNode w g s (pat s d (st.opn==0) st.pos) st)
 | 0,_,w,g,s,st,h,hs,hpos,ho=>zhl w g s st h hs hpos (by omega) none (.inl ⟨rfl,by omega⟩) (fun f h=>by cases h)
 | d+1,hd,w,g,s,st,h,hs,hpos,ho=>by
   refine zhl w g s st h hs hpos (by omega) (some (pat s d false)) (.inr ⟨_,rfl,by omega,by omega,fun w' st' h1 h2 h3=>?_⟩) (fun f h p _=>by cases h;exact zgl s d false p);have e:(st'.opn==0)=false:=(by simp;omega);rw[←e];exact pat_p d (by omega) w' g s st' h1 hs h3 (by omega)
theorem Rdr.new (w:World) (s:ByteArray):Rdr (w.alloc (.cells #[.string s,.int .i64 0,.int .i64 0,.int .i64 0,.int .i64 0] 103)) w.heap.size s ⟨0,0,0,0⟩:=heap_alloc_new w _
theorem zod {w w0 w2:World} {o:Obj} (h:Below w.heap.size w w0) (o2:(w0.alloc o).grownBy w2 (some w0.heap.size)):Below w.heap.size w w2:=
 (h.alloc h.size o).grown o2 (Nat.le_trans h.size (by simp)) (fun j e=>by injection e with e;rw[←e];exact h.size)
def put80 (w:World) (g:Nat):World:=
 (((((((w.setCell ⟨g,0,none⟩ (.int .i64 0)).setCell ⟨g,1,none⟩ (.int .u64 0)).setCell ⟨g,2,none⟩ (.int .u64 0)).setCell ⟨g,3,none⟩ (.int .u64 0)).setCell ⟨g,4,none⟩ (.int .u64 0)).setCell ⟨g,5,none⟩ (.int .i64 0)).setCell ⟨g,6,none⟩ (.int .i64 0)).setCell ⟨g,7,none⟩ (.slice none 0 0)
theorem zb6 (w:World) (g:Nat):put80 w g=put8 w g T.zero (.slice none 0 0):=by
 simp only[put80,put8,T.zero,T.op,T.set,T.lo,T.hi,za6]
def RetParse (w:World) (s:ByteArray) (e:Ending) (w':World):Prop:=
 ∃ t k bad at_,e = .returned (.tuple #[nodeV t k,.int .i64 bad,.int .i64 at_])∧Tree w' (fun b=>w.heap.size<=b) t k∧Below w.heap.size w w'∧
   (match parse s with
     | .ok t'=>t=t'∧bad=0∧at_=0
     | .error (c,a)=>t=T.zero∧k = .slice none 0 0∧bad=c∧at_=a∧c≠0)
set_option maxRecDepth 20000 in
set_option maxHeartbeats 2000000 in
theorem zp0 (w:World) (s:ByteArray) (hs:s.size<=9223372036854775807):Calls Tryz.prog 22 #[.string s] w (RetParse w s):=by
 by_cases hl:200<s.size
 . have e:parse s = .error (4,0):=(by unfold parse;rw[if_pos hl]);have HE:=Zh e;clear e;go_enter Tryz.func22,Tryz.ntmps22;go_wp2;refine bodyPost_ret (v := .tuple #[nodeV T.zero (.slice none 0 0),.int .i64 4,.int .i64 0]) ?_ rfl ⟨T.zero,_,4,0,rfl,.nil _ rfl,(Below.refl _ _).alloc (Nat.le_refl _) _,?_⟩
   . simp[nodeV,T.zero,T.op,T.set,T.lo,T.hi,za6,results,Tryz.results22,go_sem]
   . rw[HE.out];simp
 . have HP:Hid (∀ w g st,Rdr w g s st->st=(⟨0,0,0,0⟩:St)->Calls Tryz.prog 46 #[.pointer (some ⟨g,0,none⟩)] w (RetNode w g s (pat s 20 true 0) ⟨0,0,0,0⟩)):=by
     intro w g st h1 h2;subst h2;exact pat_p 20 (by omega) w g s ⟨0,0,0,0⟩ h1 (by omega) (by simp) (by simp)
   go_enter Tryz.func22,Tryz.ntmps22;go_upto_region 3 with fail
   have b0:=Box8.new0 w;have hB0:Below w.heap.size w (w.alloc (.cells #[.int .i64 0,.int .u64 0,.int .u64 0,.int .u64 0,.int .u64 0,.int .i64 0,.int .i64 0,.slice none 0 0] 41)):=(Below.refl _ _).alloc (Nat.le_refl _) _;generalize w.alloc (.cells #[.int .i64 0,.int .u64 0,.int .u64 0,.int .u64 0,.int .u64 0,.int .i64 0,.int .i64 0,.slice none 0 0] 41)=w0 at *;have hw0:=b0.lt;go_wp2_with (go_at_call 46;refine (HP.out _ w0.heap.size _ (Rdr.new w0 s) rfl).mono ?_;rintro e w2 ⟨t,k,st2,rfl,ht,r2,o2,hr⟩;obtain⟨A,tn,tc,rfl⟩:=ht.form;unfold nodeV;have b2:=(b0.alloc _).grown o2 (by simp;omega);have hB2:=zod hB0 o2;obtain⟨m0,m1,m2,m3,m4,m5,m6,m7⟩:=b2.cell;obtain⟨y0,y1,y2,y3,y4,y5,y6,y7⟩:=b2.frozen;obtain⟨k0,k1,k2,k3,k4⟩:=r2.cell;have hg2:=r2.lt;have hw2:=b2.lt;have hx1:w.heap.size≠w2.heap.size:=(by omega);have hx2:w0.heap.size≠w2.heap.size:=(by omega);have HR:=Zh hr;clear hr)
   . have hb:st2.bad≠0:=(by simpa using ‹(st2.bad != 0)=true›);have hp:parse s = .error (st2.bad,st2.spot):=by
       unfold parse;rw[if_neg hl];rcases HR.out.cases rfl with ⟨h1,_⟩|⟨_,h2⟩
       . exact absurd h1 hb
       . rw[h2]
     have HPP:=Zh hp;have HB:=Zh hb;clear hp hb;go_region
     all_goals
       go_wp2;have bF:=(b2.put (t':=T.zero) (k' := .slice none 0 0) T.zero (.slice none 0 0)).alloc (.cells #[.int .i64 t.op,.int .u64 (word t.set 0),.int .u64 (word t.set 1),.int .u64 (word t.set 2),.int .u64 (word t.set 3),.int .i64 t.lo,.int .i64 t.hi,.slice A tn tc] 41);have hF:=(zah hB2 (Nat.le_refl _) T.zero (.slice none 0 0)).alloc (by rw[zd4];omega) (.cells #[.int .i64 t.op,.int .u64 (word t.set 0),.int .u64 (word t.set 1),.int .u64 (word t.set 2),.int .u64 (word t.set 3),.int .i64 t.lo,.int .i64 t.hi,.slice A tn tc] 41);rw[←zb6] at bF hF;change bodyPost _ _ _ _ _ (World.drew ((put80 w2 w.heap.size).alloc (.cells #[.int .i64 t.op,.int .u64 (word t.set 0),.int .u64 (word t.set 1),.int .u64 (word t.set 2),.int .u64 (word t.set 3),.int .i64 t.lo,.int .i64 t.hi,.slice A tn tc] 41)));generalize (put80 w2 w.heap.size).alloc (.cells #[.int .i64 t.op,.int .u64 (word t.set 0),.int .u64 (word t.set 1),.int .u64 (word t.set 2),.int .u64 (word t.set 3),.int .i64 t.lo,.int .i64 t.hi,.slice A tn tc] 41)=wF at *;obtain⟨F0,F1,F2,F3,F4,F5,F6,F7⟩:=bF.cell;replace hF:=hF.drew;refine bodyPost_ret (v := .tuple #[nodeV T.zero (.slice none 0 0),.int .i64 st2.bad,.int .i64 st2.spot]) ?_ rfl ⟨T.zero,_,st2.bad,st2.spot,rfl,.nil _ rfl,hF,?_⟩
       . simp[nodeV,results,Tryz.results22,go_sem,F0,F1,F2,F3,F4,F5,F6,F7]
       . rw[HPP.out];exact⟨rfl,rfl,rfl,rfl,HB.out⟩
   . have hb:st2.bad=0:=(by simpa using ‹(st2.bad != 0)=false›);have hp:parse s = .ok t:=by
       unfold parse;rw[if_neg hl];rcases HR.out.cases rfl with ⟨_,h2⟩|⟨h1,_⟩
       . rw[h2]
       . exact absurd hb h1
     have bF:=(b2.put (t':=t) (k' := .slice A tn tc) t (.slice A tn tc)).alloc (.cells #[.int .i64 t.op,.int .u64 (word t.set 0),.int .u64 (word t.set 1),.int .u64 (word t.set 2),.int .u64 (word t.set 3),.int .i64 t.lo,.int .i64 t.hi,.slice A tn tc] 41);have tF:=(((ht.weak (ok':=fun b=>w.heap.size<=b∧b≠w.heap.size) fun b hb _=>by simp at hb;omega).put8 (g':=w.heap.size) (t':=t) (k' := .slice A tn tc) fun b hb=>hb.2).alloc (.cells #[.int .i64 t.op,.int .u64 (word t.set 0),.int .u64 (word t.set 1),.int .u64 (word t.set 2),.int .u64 (word t.set 3),.int .i64 t.lo,.int .i64 t.hi,.slice A tn tc] 41)).weak (ok':=fun b=>w.heap.size<=b) fun b hb _=>hb.1
     have hF:=(zah hB2 (Nat.le_refl _) t (.slice A tn tc)).alloc (by rw[zd4];omega) (.cells #[.int .i64 t.op,.int .u64 (word t.set 0),.int .u64 (word t.set 1),.int .u64 (word t.set 2),.int .u64 (word t.set 3),.int .i64 t.lo,.int .i64 t.hi,.slice A tn tc] 41);change bodyPost _ _ _ _ _ ((put8 w2 w.heap.size t (.slice A tn tc)).alloc (.cells #[.int .i64 t.op,.int .u64 (word t.set 0),.int .u64 (word t.set 1),.int .u64 (word t.set 2),.int .u64 (word t.set 3),.int .i64 t.lo,.int .i64 t.hi,.slice A tn tc] 41));generalize (put8 w2 w.heap.size t (.slice A tn tc)).alloc (.cells #[.int .i64 t.op,.int .u64 (word t.set 0),.int .u64 (word t.set 1),.int .u64 (word t.set 2),.int .u64 (word t.set 3),.int .i64 t.lo,.int .i64 t.hi,.slice A tn tc] 41)=wF at *;obtain⟨F0,F1,F2,F3,F4,F5,F6,F7⟩:=bF.cell;refine bodyPost_ret (v := .tuple #[nodeV t (.slice A tn tc),.int .i64 0,.int .i64 0]) ?_ rfl ⟨t,_,0,0,rfl,tF,hF,?_⟩
     . simp[nodeV,results,Tryz.results22,go_sem,F0,F1,F2,F3,F4,F5,F6,F7]
     . rw[hp];exact⟨rfl,rfl,rfl⟩
end
end Go.Proofs.YtgbdanddbgomhaaGreatDoor
