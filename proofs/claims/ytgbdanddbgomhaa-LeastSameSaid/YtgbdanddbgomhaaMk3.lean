import Derived.Test.YtgbdanddbgomhaaMk2
import Derived.Deep.Cut
set_option linter.unusedVariables false
set_option linter.unusedSimpArgs false
namespace Go.Proofs.Ytgbdanddbgomhaa
open Go Go.RowKit
section
attribute [local go_sem ↓] Go.wp_at_zero Go.wp_at_succ
def seenB (f:Nat->List Bool) (b c:Nat):Bool:=(List.range c).any fun x=>f x==f b
theorem zos (f:Nat->List Bool) (b c:Nat):seenB f b (c+1)=(seenB f b c||(f c==f b)):=by
 unfold seenB;rw[List.range_succ,List.any_append];simp
theorem zqq (f:Nat->List Bool) (b:Nat):seenB f b b = !isFst f b:=by
 unfold seenB isFst;rw[List.not_all_eq_any_not]
 congr 1
 funext x
 by_cases h:f x=f b <;> simp[h]
def foundI (f:Nat->List Bool) (b c:Nat):Int:=if seenB f b c then (numK f b:Nat) else -1
def sameB (l:List (Nat->Bool)) (b c i:Nat):Bool:=keyL (l.take i) b==keyL (l.take i) c
theorem zou (l:List (Nat->Bool)) (b c i:Nat) (h:i<l.length):sameB l b c (i+1)=(sameB l b c i&&((l[i]'h) b==(l[i]'h) c)):=by
 unfold sameB;rw[Bool.eq_iff_iff,beq_iff_eq,zsh l i h,Bool.and_eq_true,beq_iff_eq,beq_iff_eq]
set_option maxRecDepth 20000 in
set_option maxHeartbeats 4000000 in
theorem zox (w:World) (A:Option Addr) (c:Nat) (l:List (Nat->Bool)) (hr:RdS w w.heap.size A l) (hlen:l.length<=9223372036854775807):
   Calls Try.prog 30 #[.slice A l.length c] w (RetCls w l):=by
 have hz1:∀ w:World,Sem.run Try.prog (zeroValue 34) w = .ok (.agg (arrV 256 fun _=>0)) w:=fun _=>by kernel_rfl
 have b2:=(BoxN.new w 34 256 fun _=>0).alloc (.cells (arrV 256 fun _=>0) 34);have b4:=(BoxN.new (w.alloc (.cells (arrV 256 fun _=>0) 34)) 34 256 fun _=>0);have hB:Below w.heap.size w ((w.alloc (.cells (arrV 256 fun _=>0) 34)).alloc (.cells (arrV 256 fun _=>0) 34)):=((Below.refl _ _).alloc (Nat.le_refl _) _).alloc (by simp) _;simp only[World.size_alloc] at b4;have HB2:=Zh b2;have HB4:=Zh b4;have HBB:=Zh hB;have HR:=Zh hr;clear b2 b4 hB hr;obtain⟨f,hf⟩:∃ f,keyL l=f:=⟨_,rfl⟩;generalize hL:l.length=L at *;have HL:=Zh hL;have HF:=Zh hf;clear hL hf;go_enter Try.func30,Try.ntmps30;go_wp2;clear hz1;go_loopg [5,6] 256 (fun m n i wr=>∃ b:Nat,i = .int .i64 (b:Int)∧b<=256∧m=256-b∧n = .int .i64 (cntK f b:Nat)∧BoxN wr w.heap.size 34 256 (fun _=>0)∧BoxN wr (w.heap.size+1) 34 256 (fun i=>if i<b then numK f i else 0)∧Below w.heap.size w wr)
 case atStart=>exact⟨0,rfl,Nat.zero_le _,rfl,rfl,HB2.out,HB4.out.congr fun j hj=>by simp,HBB.out⟩
 case round =>
   obtain⟨b,rfl,hb,hmb,rfl,bR,bO,hW⟩:=hrel;have HMB:=Zh hmb;clear hmb
   by_cases hlt:b<256
   . generalize hcn:cntK f b=cn at *;have HCN:=Zh hcn;clear hcn;have HBR:=Zh bR;have HBO:=Zh bO;have HW:=Zh hW;clear bR bO hW;go_wp2;rw[show decide ((b:Int)<256)=true from decide_eq_true (by omega)];go_loopg [7,8] (b+1) (fun m n i wr=>∃ c:Nat,i = .int .i64 (c:Int)∧c<=b∧m=b+1-c∧n = .int .i64 (foundI f b c)∧BoxN wr w.heap.size 34 256 (fun _=>0)∧BoxN wr (w.heap.size+1) 34 256 (fun i=>if i<b then numK f i else 0)∧Below w.heap.size w wr)
     case atStart=>exact⟨0,rfl,Nat.zero_le _,rfl,rfl,HBR.out,HBO.out,HW.out⟩
     case round =>
       obtain⟨c,rfl,hc,hmc,rfl,bR,bO,hW⟩:=hrel;have HMC:=Zh hmc;clear hmc;cases hsn:seenB f b c
       . have hfi:foundI f b c = -1:=(by unfold foundI;rw[hsn];rfl);rw[hfi]
         by_cases hcb:c<b
         . have HBR2:=Zh bR;have HBO2:=Zh bO;have HW2:=Zh hW;clear bR bO hW;go_wp2;go_loopg [9,10] L (fun m s i wr=>∃ k:Nat,i = .int .i64 (k:Int)∧k<=L∧m=L-k∧s = .bool (sameB l b c k)∧BoxN wr w.heap.size 34 256 (fun _=>0)∧BoxN wr (w.heap.size+1) 34 256 (fun i=>if i<b then numK f i else 0)∧Below w.heap.size w wr)
           case atStart=>exact⟨0,rfl,Nat.zero_le _,rfl,by simp[sameB,keyL],HBR2.out,HBO2.out,HW2.out⟩
           case round =>
             obtain⟨k,rfl,hk,hmk,rfl,bR,bO,hW⟩:=hrel;have HMK:=Zh hmk;clear hmk
             by_cases hkl:k<L
             . have hkl':k<l.length:=(by rw[HL.out];exact hkl);obtain⟨g,off,rfl,hbB,hcl⟩:=HR.out k hkl';have hst:=zou l b c k hkl';generalize l[k]'hkl'=p at *;have c0:=(hW.cell (p:=⟨g,off+k*4+0,none⟩) hbB).trans (hcl 0 (by omega));have c1:=(hW.cell (p:=⟨g,off+k*4+1,none⟩) hbB).trans (hcl 1 (by omega));have c2:=(hW.cell (p:=⟨g,off+k*4+2,none⟩) hbB).trans (hcl 2 (by omega));have c3:=(hW.cell (p:=⟨g,off+k*4+3,none⟩) hbB).trans (hcl 3 (by omega));have k0:(0:Int)<=(k:Int):=(by omega);have k1:(k:Int)<(L:Int):=(by omega);clear hcl;rw[Nat.add_zero] at c0;generalize sameB l b c k=s at *;obtain⟨pb,hpb⟩:∃ pb,p b=pb:=⟨_,rfl⟩;obtain⟨pc,hpc⟩:∃ pc,p c=pc:=⟨_,rfl⟩;rw[hpb,hpc] at hst;have HST:=Zh hst;clear hst;cases s <;> cases pb <;> cases pc
               all_goals
                 go_wp2_with (first
                   | (go_at_call 55;(with_reducible refine (zfn p (b:Int) _ (by omega) (by omega)).mono ?_);rintro e w1 ⟨rfl,hb1⟩;rw[Int.toNat_natCast,hpb];have d0:=za5 c0 hb1;have d1:=za5 c1 hb1;have d2:=za5 c2 hb1;have d3:=za5 c3 hb1)
                   | (go_at_call 55;(with_reducible refine (zfn p (c:Int) _ (by omega) (by omega)).mono ?_);rintro e w2 ⟨rfl,hb2⟩;rw[Int.toNat_natCast,hpc]))
                 go_roundg (L-(k+1))
                 case measure=>have:=HMK.out;omega
                 case rel=>exact⟨k+1,by go_num,by omega,rfl,by rw[HST.out];rfl,(bR.stays hb1).stays hb2,(bO.stays hb1).stays hb2,gro (gro hW hb1) hb2⟩
             . have hkl2:k=l.length:=(by rw[HL.out];omega);have hsame:sameB l b c k=(f c==f b):=by
                 unfold sameB;rw[hkl2,List.take_length,HF.out];exact Bool.beq_comm
               rw[hsame];have hss:=zos f b c;rw[hsn,Bool.false_or] at hss;have HSS:=Zh hss;clear hss hsame;cases hfc:f c==f b
               . go_wp2;go_roundg (b+1-(c+1))
                 case measure=>have:=HMC.out;omega
                 case rel=>exact⟨c+1,by go_num,by omega,rfl,by unfold foundI;rw[HSS.out,hfc];rfl,bR,bO,hW⟩
               . have hcell:=bO.cell c (by omega);rw[if_pos hcb] at hcell;have hnn:numK f c=numK f b:=(zce f c b).2 (by simpa using hfc);rw[hnn] at hcell;go_wp2;go_roundg (b+1-(c+1))
                 case measure=>have:=HMC.out;omega
                 case rel=>exact⟨c+1,by go_num,by omega,rfl,by unfold foundI;rw[HSS.out,hfc];rfl,bR,bO,hW⟩
         . have hcb2:c=b:=(by omega);subst hcb2;have hfs:isFst f c=true:=(by have:=zqq f c;rw[hsn] at this;simpa using this.symm);have hcell:=bO.cell c hlt;have hfro:=bO.frozen c;have hnn:numK f c=cn:=(by rw[zej f hfs];exact HCN.out);have hle:cn<=256:=(by have:=zd6 f c;have:=HCN.out;omega);have hst:cntK f (c+1)=cn+1:=(by simp[cntK,hfs,HCN.out]);have HST:=Zh (And.intro hnn hst);have HTO:Hid (∀ i,(if i=c then cn else if i<c then numK f i else 0)=if i<c+1 then numK f i else 0):=fun i=>by
             by_cases e:i=c
             . subst e;simp[hnn]
             . by_cases e2:i<c
               . have:i<c+1:=by omega
                 simp[e,e2,this]
               . have:¬ i<c+1:=by omega
                 simp[e,e2,this]
           clear hnn hst;go_wp2;go_roundg (256-(c+1))
           case measure=>have:=HMB.out;omega
           case rel =>
             exact⟨c+1,by go_num,by omega,rfl,by rw[HST.out.2];go_num,bR.far (by simp) _,(bO.set c cn hlt).congr fun i _=>HTO.out i,hW.setCell (by simp) _⟩
       . have hfi:foundI f b c=(numK f b:Nat):=(by unfold foundI;rw[hsn];rfl);have hfs:isFst f b=false:=by
           have hx:∃ x,x<c∧f x=f b:=(by unfold seenB at hsn;simpa using hsn);obtain⟨x,hx,e⟩:=hx;exact (zgg f b).2 ⟨x,by omega,e⟩
         have hcell:=bO.cell b hlt;have hfro:=bO.frozen b;have hst:cntK f (b+1)=cn:=(by simp[cntK,hfs,HCN.out]);have hle:=zrm f b;have hle2:=zd6 f b;rw[hfi];have HTO:Hid (∀ i,(if i=b then numK f b else if i<b then numK f i else 0)=if i<b+1 then numK f i else 0):=fun i=>by
           by_cases e:i=b
           . subst e;simp
           . by_cases e2:i<b
             . have:i<b+1:=by omega
               simp[e,e2,this]
             . have:¬ i<b+1:=by omega
               simp[e,e2,this]
         have HST:=Zh hst;clear hst hfi;generalize numK f b=nu at *;have hnn:((nu:Int)<0)=False:=by simp
         by_cases hcb:c<b
         all_goals
           go_wp2;go_roundg (256-(b+1))
           case measure=>have:=HMB.out;omega
           case rel=>exact⟨b+1,by go_num,by omega,rfl,by rw[HST.out],bR.far (by simp) _,(bO.set b nu hlt).congr fun i _=>HTO.out i,hW.setCell (by simp) _⟩
   . have hb6:b=256:=(by omega);subst hb6;have bG:=bO.congr (G:=numK f) fun i hi=>by simp[hi]
     go_wp2_with (first | (refine zb4 (g:=w.heap.size+1) (F:=numK f) rfl bG ?_;go_simp) | (refine zbd (g:=w.heap.size) (F:=fun _=>0) (G:=numK f) rfl rfl bR ?_;go_simp));have hz3:=bR.lt;have e:=HF.out;subst e;exact bodyPost_ret (v := .tuple #[.agg (arrV 256 (numK (keyL l))),.int .i64 (cntK (keyL l) 256:Nat)]) (ze2 Try.results30 rfl rfl (bR.put (numK (keyL l)))) rfl ⟨rfl,zah hW (by omega) _⟩
end
set_option maxRecDepth 20000 in
theorem zpu (F:Nat->Nat) (n:Int) (A:Option Addr) (m c:Nat) (B:Option Addr) (k d:Nat) (w:World):(Instr.build 38 #[(0,.agg (arrV 256 F)),(1,.int .i64 n),(2,.slice A m c),(3,.slice B k d)]).run Try.prog w = .ok (.agg (machC F n (.slice A m c) (.slice B k d))) w:=by
 refine run_build w _ _ _ ?_
 kernel_rfl
theorem zir {w:World} {ops:Array Oper} {rest:List Oper} {o:Oper} {a:Act} {Q:Exit->Act->World->Prop} {F:Nat->Nat} {n:Int} {A:Option Addr} {m c:Nat} {B:Option Addr} {k d:Nat} (hgd:o.guard=none) (x0 x1 x2 x3:Operand) (ho:o.op = .build 38 #[(0,x0),(1,x1),(2,x2),(3,x3)])
   (h0:a.eval x0 = .agg (arrV 256 F)) (h1:a.eval x1 = .int .i64 n) (h2:a.eval x2 = .slice A m c) (h3:a.eval x3 = .slice B k d)
   (hk:wpList Try.prog ops Q rest (a.put o.dst (.agg (machC F n (.slice A m c) (.slice B k d)))) w):wpList Try.prog ops Q (o::rest) a w:=by
 refine wpList_plain hgd fun _ hK=>?_
 unfold Oper.wp execOp;have e:(#[(0,x0),(1,x1),(2,x2),(3,x3)]:Array (Nat×Operand)).map (fun (i,x)=>(i,a.eval x))=#[(0,.agg (arrV 256 F)),(1,.int .i64 n),(2,.slice A m c),(3,.slice B k d)]:=(by simp[h0,h1,h2,h3]);simp only[ho,e,Sem.run_bind,Sem.run_pure,Result.andThen_ok,zpu];exact hK _ _ hk
theorem zcy {w:World} {g:Nat} {t:TypeId} {F:Nat->Nat} {n:Int} {vN vO:Value} {fn:Func} {tmps:Array Value} {x:Nat} (hr:fn.results=#[.cell x t]) (hx:tmps.getD x undef = .pointer (some ⟨g,0,none⟩)) {d:TypeDesc} (hu:Try.prog.underlying t=some d) (hd:d.isRow=true) (hs:(Try.prog.info? t).map (·.size)=some 259)
   (h:BoxM w g t F n vN vO):(results fn tmps).run Try.prog w = .ok (.agg (machC F n vN vO)) w:=by
 have e:(#[ResultVar.cell x t]:Array ResultVar)=[ResultVar.cell x t].toArray:=rfl;rw[Array.getD_eq_getD_getElem?] at hx;unfold results;rw[hr,e];simp[Sem.run_bind,hx,zk4 hu hd hs h,asAddr]
set_option maxRecDepth 20000 in
set_option maxHeartbeats 2000000 in
theorem zx2 (w:World) (F:Nat->Nat) (n:Int) (A:Option Addr) (m c:Nat) (B:Option Addr) (k d:Nat):Calls Try.prog 13 #[.agg (machC F n (.slice A m c) (.slice B k d))] w fun e w'=>e = .returned (.agg (machC F n (.slice A m c) (.slice B k d)))∧Below w.heap.size w w':=by
 have hz43:∀ w:World,Sem.run Try.prog (zeroValue 38) w = .ok (.agg (machC (fun _=>0) 0 (.slice none 0 0) (.slice none 0 0))) w:=fun _=>by kernel_rfl
 obtain⟨w1,hw1⟩:∃ w1,w.alloc (.cells (machC F n (.slice A m c) (.slice B k d)) 41)=w1:=⟨_,rfl⟩;have hb1:Below w.heap.size w w1:=(by rw[←hw1];exact (Below.refl _ _).alloc (Nat.le_refl _) _);have hx1:BoxM w1 w.heap.size 41 F n (.slice A m c) (.slice B k d):=(by rw[←hw1];exact BoxM.new w _ _ _ _ _);have hs1:w1.heap.size=w.heap.size+1:=(by rw[←hw1];simp);have HW1:=Zh hw1;clear hw1;go_enter Try.func13,Try.ntmps13;go_upto_region 1 with fail
 rw[HW1.out];have hx2:=hx1.stays (show Below w1.heap.size w1 (w1.alloc (.cells (machC (fun _=>0) 0 (.slice none 0 0) (.slice none 0 0)) 38)) from (Below.refl _ _).alloc (Nat.le_refl _) _);have hy2:=BoxM.new w1 38 (fun _=>0) 0 (.slice none 0 0) (.slice none 0 0);have hb2:Below w1.heap.size w1 (w1.alloc (.cells (machC (fun _=>0) 0 (.slice none 0 0) (.slice none 0 0)) 38)):=(Below.refl _ _).alloc (Nat.le_refl _) _;generalize w1.alloc (.cells (machC (fun _=>0) 0 (.slice none 0 0) (.slice none 0 0)) 38)=w2 at *;have c1:=hx2.num;have c2:=hx2.nxt;have c3:=hx2.out;rw[hs1] at hy2;have HX2:=Zh hx2;have HY2:=Zh hy2;have HB2:=Zh (gro hb1 hb2);clear hx1 hx2 hy2 hb1 hb2 hs1 hz43;go_wp2_with (first
   | (refine zb7 (by rfl) _ (by rfl) (by rfl) HX2.out ?_;go_simp)
   | (refine zir (by rfl) _ _ _ _ (by rfl) (by rfl) (by rfl) (by rfl) (by rfl) ?_;go_simp)
   | (refine zam (by rfl) _ _ (by rfl) (by rfl) (by rfl) Try.sizeMR rfl rfl HY2.out ?_;intro hbx;have HBX1:=Zh hbx;clear hbx;go_simp)
   | fail)
 exact bodyPost_ret (v := .agg (machC F n (.slice A m c) (.slice B k d))) (zcy Try.results13 rfl Try.underlying38 rfl Try.sizeMR HBX1.out) rfl ⟨rfl,zah HB2.out (Nat.le_succ _) _⟩
end Go.Proofs.Ytgbdanddbgomhaa
