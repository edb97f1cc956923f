import Derived.Test.YtgbdanddbgomhaaDoorMw2
import Derived.Deep.DrawnRows
set_option linter.unusedVariables false
set_option linter.unusedSimpArgs false
namespace Go.Proofs.YtgbdanddbgomhaaDoor
open Go Go.RowKit
section
attribute [local go_sem ↓] Go.wp_at_zero Go.wp_at_succ
set_option maxHeartbeats 400000 in
theorem zvp (p:Nat->Bool) (b:Int) (w:World) (hb:0<=b) (hb':b<=255):
   Calls Tryd.prog 43 #[.agg #[.int .u64 (word p 0),.int .u64 (word p 1),.int .u64 (word p 2),.int .u64 (word p 3)],.int .u8 b] w fun e w'=>e = .returned (.bool (p b.toNat))∧Below w.heap.size w w':=by
 have hv:=zl5 p b hb hb';have H:=zi8 p b hb hb';rw[←H];clear H;go_enter Tryd.func43,Tryd.ntmps43;go_wp2;go_ret;exact⟨rfl,(Below.refl _ _).alloc (Nat.le_refl _) _⟩
end
section
attribute [local go_sem ↓] Go.wp_at_zero Go.wp_at_succ
def metA (f g:Nat->List Bool) (p:Nat->Bool) (j:Nat) (i:Nat):Nat:=if i<256 then metK f g p j false i else metK f g p j true (i-256)
theorem zva (f g:Nat->List Bool) (p:Nat->Bool) (j c:Nat) (b:Bool) (hc:c<256):metA f g p j (if b then 256+c else c)=metK f g p j b c:=by
 cases b
 . simp[metA,hc]
 . have h:¬ 256+c<256:=(by omega);simp[metA,h]
theorem zqf {f g:Nat->List Bool} {p:Nat->Bool} (h:PartsBy f g p) (j:Nat) (hc:numK f j<256) (i:Nat):
   (if i=(if p j then 256+numK f j else numK f j) then numK g j+1 else metA f g p j i)=metA f g p (j+1) i:=by
 unfold metA;rw[zj9 h,zj9 h];cases hp:p j
 . by_cases hi2:i<256
   . by_cases e:i=numK f j <;> simp[hi2,e,hc]
   . have:¬ i=numK f j:=by omega
     simp[hi2,this]
 . by_cases hi2:i<256
   . have:¬ i=256+numK f j:=by omega
     simp[hi2,this]
   . by_cases e:i=256+numK f j
     . subst e;simp[hi2]
     . have:¬ i-256=numK f j:=by omega
       simp[hi2,e,this]
set_option maxRecDepth 20000 in
set_option maxHeartbeats 2000000 in
theorem zuy (f g:Nat->List Bool) (p:Nat->Bool) (w:World) (hpg:PartsBy f g p):
   Calls Tryd.prog 80 #[.agg (arrV 256 (numK f)),.agg #[.int .u64 (word p 0),.int .u64 (word p 1),.int .u64 (word p 2),.int .u64 (word p 3)]] w
     fun e w'=>e = .returned (.tuple #[.agg (arrV 256 (numK g)),.int .i64 (cntK g 256:Nat)])∧Below w.heap.size w w':=by
 have hz1:∀ w:World,Sem.run Tryd.prog (zeroValue 57) w = .ok (.agg (arrV 256 fun _=>0)) w:=fun _=>by kernel_rfl
 have hz2:∀ w:World,Sem.run Tryd.prog (zeroValue 183) w = .ok (.agg (arrV 512 fun _=>0)) w:=fun _=>by kernel_rfl
 have hz:=(BoxN.new w 57 256 (numK f));have b2:BoxN ((((w.alloc (.cells (arrV 256 (numK f)) 57)).alloc (.cells #[.int .u64 (word p 0),.int .u64 (word p 1),.int .u64 (word p 2),.int .u64 (word p 3)] 26)).alloc (.cells (arrV 256 fun _=>0) 57)).alloc (.cells (arrV 512 fun _=>0) 183)) w.heap.size 57 256 (numK f):=((hz.alloc _).alloc _).alloc _;have b3:=((Box4.new (w.alloc (.cells (arrV 256 (numK f)) 57)) p).alloc (.cells (arrV 256 fun _=>0) 57)).alloc (.cells (arrV 512 fun _=>0) 183);have b4:=(BoxN.new ((w.alloc (.cells (arrV 256 (numK f)) 57)).alloc (.cells #[.int .u64 (word p 0),.int .u64 (word p 1),.int .u64 (word p 2),.int .u64 (word p 3)] 26)) 57 256 fun _=>0).alloc (.cells (arrV 512 fun _=>0) 183);have b6:=BoxN.new (((w.alloc (.cells (arrV 256 (numK f)) 57)).alloc (.cells #[.int .u64 (word p 0),.int .u64 (word p 1),.int .u64 (word p 2),.int .u64 (word p 3)] 26)).alloc (.cells (arrV 256 fun _=>0) 57)) 183 512 fun _=>0
 have hB:Below w.heap.size w ((((w.alloc (.cells (arrV 256 (numK f)) 57)).alloc (.cells #[.int .u64 (word p 0),.int .u64 (word p 1),.int .u64 (word p 2),.int .u64 (word p 3)] 26)).alloc (.cells (arrV 256 fun _=>0) 57)).alloc (.cells (arrV 512 fun _=>0) 183)):=((((Below.refl _ _).alloc (Nat.le_refl _) _).alloc (by simp) _).alloc (by simp;omega) _).alloc (by simp;omega) _;simp only[World.size_alloc] at b3 b4 b6;have HPG:=Zh hpg;have HB2:=Zh b2;have HB3:=Zh b3;have HB4:=Zh b4;have HB6:=Zh b6;have HBB:=Zh hB;clear hpg b2 b3 b4 b6 hB hz;go_enter Tryd.func80,Tryd.ntmps80;go_wp2_with (refine zb0 (g:=w.heap.size) (F:=numK f) rfl HB2.out ?_;go_simp);generalize ((((w.alloc (.cells (arrV 256 (numK f)) 57)).alloc (.cells #[.int .u64 (word p 0),.int .u64 (word p 1),.int .u64 (word p 2),.int .u64 (word p 3)] 26)).alloc (.cells (arrV 256 fun _=>0) 57)).alloc (.cells (arrV 512 fun _=>0) 183))=wA at *;clear hz1 hz2;go_loopg [7,12] 256 (fun m n i wr=>∃ j:Nat,i = .int .i64 (j:Int)∧j<=256∧m=256-j∧n = .int .i64 (cntK g j:Nat)∧BoxN wr w.heap.size 57 256 (fun i=>if i<j then numK g i else numK f i)∧Box4 wr (w.heap.size+1) p∧BoxN wr (w.heap.size+1+1) 57 256 (fun _=>0)∧BoxN wr (w.heap.size+1+1+1) 183 512 (metA f g p j)∧Below w.heap.size w wr)
 case atStart=>exact⟨0,rfl,Nat.zero_le _,rfl,rfl,HB2.out.congr fun j hj=>by simp,HB3.out,HB4.out,HB6.out.congr fun j hj=>by simp[metA,zqd],HBB.out⟩
 case round =>
   obtain⟨j,rfl,hj,hmj,rfl,bF,bS,bR,bP,hW⟩:=hrel;have HMJ:=Zh hmj;clear hmj;obtain⟨s0,s1,s2,s3⟩:=bS.cell;have hsz:=bP.lt
   by_cases hlt:j<256
   . have hix:∀ w:World,(Instr.index 57 (.agg (arrV 256 (numK f))) (.int .i64 (j:Int))).run Tryd.prog w = .ok (.int .i64 (numK f j:Nat)) w:=fun w=>zmd w j hlt
     have hc:numK f j<256:=Nat.lt_of_lt_of_le (zbj f hlt) (zfx f 256);have hle:=Nat.le_trans (zfx g j) hj;have hle2:=Nat.lt_of_lt_of_le (zbj g hlt) (zfx g 256);have hmh:=zqe HPG.out j;have HNEW:=Zh (zqf HPG.out j hc);have HF:Hid (isFst g j=true->numK g j=cntK g j∧cntK g (j+1)=cntK g j+1):=fun h=>⟨zlu g h,by simp[cntK,h]⟩
     have HG:Hid (isFst g j=false->cntK g (j+1)=cntK g j):=fun h=>by simp[cntK,h]
     obtain⟨pj,hpj⟩:∃ pj,p j=pj:=⟨_,rfl⟩;rw[hpj] at hmh HNEW;rw[←zva f g p j _ pj hc] at hmh;obtain⟨off,hoff⟩:∃ off:Nat,(if pj then 256+numK f j else numK f j)=off:=⟨_,rfl⟩;rw[hoff] at hmh HNEW;have ho2:off<512:=by rw[←hoff];split <;> omega
     have hcl:wr.cell? ⟨w.heap.size+1+1+1,off,none⟩=some (.int .i64 (metA f g p j off:Nat)):=bP.cell off ho2;have hwr:wr.cell? ⟨w.heap.size,j,none⟩=some (.int .i64 ((if j<j then numK g j else numK f j:Nat):Int)):=bF.cell j hlt;rw[if_neg (Nat.lt_irrefl j)] at hwr;rw[hmh] at hcl;have HOLD:Hid (isFst g j=false->∀ i,i<512->metA f g p j i=metA f g p (j+1) i):=fun hf i hi=>by
       rw[←HNEW.out i];split
       . rename_i e;subst e;rw[hmh,hf];rfl
       . rfl
     have HTO:Hid (∀ i,(if i=j then numK g j else if i<j then numK g i else numK f i)=if i<j+1 then numK g i else numK f i):=fun i=>by
       by_cases e:i=j
       . subst e;simp
       . by_cases e2:i<j
         . have:i<j+1:=by omega
           simp[e,e2,this]
         . have:¬ i<j+1:=by omega
           simp[e,e2,this]
     clear hmh;generalize numK f j=c at *;generalize cntK g j=cn at *;generalize numK g j=nu at *;cases hfs:isFst g j
     . rw[hfs] at hcl;simp only[Bool.false_eq_true,if_false] at hcl;cases pj
       all_goals
         simp only[Bool.false_eq_true,if_false,if_true] at hoff;subst hoff;go_wp2_with (go_at_call 43;(with_reducible refine (zvp p (j:Int) _ (by omega) (by omega)).mono ?_);rintro e w1 ⟨rfl,hb1⟩;rw[Int.toNat_natCast,hpj];have hd1:=za2 hcl hb1;have hd2:=za2 hwr hb1;have g1:=(bP.stays hb1).frozen c;have g2:=(bP.stays hb1).frozen (256+c);have g3:=(bF.stays hb1).frozen j);go_roundg (256-(j+1))
         case measure=>have:=HMJ.out;omega
         case rel =>
           exact⟨j+1,by go_num,by omega,rfl,by rw[HG.out hfs],((bF.stays hb1).set j nu hlt).congr (fun i _=>HTO.out i),(bS.stays hb1).far (by simp) _,(bR.stays hb1).far (by simp;omega) _,((bP.stays hb1).far (by simp;omega) _).congr (HOLD.out hfs),(gro hW hb1).setCell (by simp) _⟩
     . rw[hfs] at hcl;simp only[if_true] at hcl;obtain⟨he1,he2⟩:=HF.out hfs;subst he1;cases pj
       all_goals
         simp only[Bool.false_eq_true,if_false,if_true] at hoff;subst hoff;go_wp2_with (go_at_call 43;(with_reducible refine (zvp p (j:Int) _ (by omega) (by omega)).mono ?_);rintro e w1 ⟨rfl,hb1⟩;rw[Int.toNat_natCast,hpj];have hd1:=za2 hcl hb1;have hd2:=za2 hwr hb1;have g1:=(bP.stays hb1).frozen c;have g2:=(bP.stays hb1).frozen (256+c);have g3:=(bF.stays hb1).frozen j);go_roundg (256-(j+1))
         case measure=>have:=HMJ.out;omega
         case rel =>
           exact⟨j+1,by go_num,by omega,rfl,by rw[he2];rfl,(((bF.stays hb1).far (by simp;omega) _).set j nu hlt).congr (fun i _=>HTO.out i),((bS.stays hb1).far (by simp) _).far (by simp) _,((bR.stays hb1).far (by simp) _).far (by simp;omega) _,(((bP.stays hb1).set _ (nu+1) ho2).far (by simp;omega) _).congr (fun i _=>HNEW.out i),((gro hW hb1).setCell (by simp;omega) _).setCell (by simp) _⟩
   . have hj6:j=256:=(by omega);subst hj6;have bG:=bF.congr (G:=numK g) fun i hi=>by simp[hi]
     go_wp2_with (first | (refine zb0 (g:=w.heap.size) (F:=numK g) rfl bG ?_;go_simp) | (refine zbm (g:=w.heap.size+1+1) (F:=fun _=>0) (G:=numK g) rfl rfl bR ?_;go_simp));have hz3:=bR.lt;exact bodyPost_ret (v := .tuple #[.agg (arrV 256 (numK g)),.int .i64 (cntK g 256:Nat)]) (zf8 Tryd.results80 rfl rfl (bR.put (numK g))) rfl ⟨rfl,below_setRow hW (by omega) _⟩
end
section
attribute [local go_sem ↓] Go.wp_at_zero Go.wp_at_succ
theorem zlt (b:Nat):numK (keyL []) b=0:=by
 have h:numK (keyL []) b=numK (keyL []) 0:=(zcn _ _ _).2 rfl;have:=zv7 (keyL []) 0;have e:cntK (keyL []) 0=0:=rfl;omega
theorem zez:∀ n,cntK (keyL []) (n+1)=1
 | 0=>rfl
 | n+1=>by rw[zjr,zez n,zlt];rfl
theorem znj (l:List (Nat->Bool)) (j:Nat) (h:j<l.length):PartsBy (keyL (l.take j)) (keyL (l.take (j+1))) (l[j]'h):=fun a b=>zvm l j h a b
def RdS (w:World) (B:Nat) (A:Option Addr) (l:List (Nat->Bool)):Prop:=
 ∀ k (h:k<l.length),∃ b off,A=some ⟨b,off,none⟩∧b<B∧∀ q,q<4->w.cell? ⟨b,off+k*4+q,none⟩=some (.int .u64 (word (l[k]'h) q))
section
variable {w w':World} {B B':Nat} {A:Option Addr} {l:List (Nat->Bool)}
end
def RetCls (w:World) (l:List (Nat->Bool)) (e:Ending) (w':World):Prop:=
 e = .returned (.tuple #[.agg (arrV 256 (numK (keyL l))),.int .i64 (cntK (keyL l) 256:Nat)])∧Below w.heap.size w w'
set_option maxRecDepth 20000 in
set_option maxHeartbeats 2000000 in
theorem zrp (w:World) (A:Option Addr) (c:Nat) (l:List (Nat->Bool)) (hr:RdS w w.heap.size A l) (hlen:l.length<=9223372036854775807):
   Calls Tryd.prog 46 #[.slice A l.length c] w (RetCls w l):=by
 have hz1:∀ w:World,Sem.run Tryd.prog (zeroValue 57) w = .ok (.agg (arrV 256 fun _=>0)) w:=fun _=>by kernel_rfl
 have b2:=(BoxN.new w 57 256 fun _=>0).alloc (.cells (arrV 256 fun _=>0) 57);have b4:=(BoxN.new (w.alloc (.cells (arrV 256 fun _=>0) 57)) 57 256 fun _=>0);have hB:Below w.heap.size w ((w.alloc (.cells (arrV 256 fun _=>0) 57)).alloc (.cells (arrV 256 fun _=>0) 57)):=((Below.refl _ _).alloc (Nat.le_refl _) _).alloc (by simp) _;simp only[World.size_alloc] at b4;have HB2:=Zh b2;have HB4:=Zh b4;have HBB:=Zh hB;have HR:=Zh hr;clear b2 b4 hB hr;generalize hL:l.length=L at *;have HL:=Zh hL;clear hL;go_enter Tryd.func46,Tryd.ntmps46;go_wp2;clear hz1;go_loopg [5,10] L (fun m n i wr=>∃ j:Nat,i = .int .i64 (j:Int)∧j<=L∧m=L-j∧n = .int .i64 (cntK (keyL (l.take j)) 256:Nat)∧BoxN wr w.heap.size 57 256 (fun _=>0)∧BoxN wr (w.heap.size+1) 57 256 (numK (keyL (l.take j)))∧Below w.heap.size w wr)
 case atStart=>exact⟨0,rfl,Nat.zero_le _,rfl,by rw[List.take_zero,zez 255];rfl,HB2.out,HB4.out.congr fun j hj=>by rw[List.take_zero,zlt],HBB.out⟩
 case round =>
   obtain⟨j,rfl,hj,hmj,rfl,bR,bC,hW⟩:=hrel;have HMJ:=Zh hmj;clear hmj;have hsz:=bC.lt
   by_cases hlt:j<L
   . have hlt':j<l.length:=(by rw[HL.out];exact hlt);obtain⟨b,off,rfl,hbB,hc⟩:=HR.out j hlt';have hp:=znj l j hlt';generalize l[j]'hlt'=p at *;have HP:=Zh hp;clear hp;have c0:=(hW.cell (p:=⟨b,off+j*4+0,none⟩) hbB).trans (hc 0 (by omega));have c1:=(hW.cell (p:=⟨b,off+j*4+1,none⟩) hbB).trans (hc 1 (by omega));have c2:=(hW.cell (p:=⟨b,off+j*4+2,none⟩) hbB).trans (hc 2 (by omega));have c3:=(hW.cell (p:=⟨b,off+j*4+3,none⟩) hbB).trans (hc 3 (by omega));have k0:(0:Int)<=(j:Int):=(by omega);have k1:(j:Int)<(L:Int):=(by omega);clear hc;rw[Nat.add_zero] at c0;go_wp2_with (first
       | (refine zb0 (g:=w.heap.size+1) (F:=numK (keyL (l.take j))) rfl (bC.alloc _) ?_;go_simp)
       | (go_at_call 80;(with_reducible refine (zuy _ _ p _ HP.out).mono ?_);rintro e w1 ⟨rfl,hb1⟩;have hC1:=(bC.alloc _).stays hb1)
       | (refine zbm (g:=w.heap.size+1) (F:=numK (keyL (l.take j))) (G:=numK (keyL (l.take (j+1)))) rfl rfl hC1 ?_;go_simp))
     go_roundg (L-(j+1))
     case measure=>have:=HMJ.out;omega
     case rel=>exact⟨j+1,by go_num,by omega,rfl,rfl,((bR.alloc _).stays hb1).row (by omega) _,hC1.put _,below_setRow (gro1 hW hb1) (by omega) _⟩
   . have hj:j=l.length:=(by rw[HL.out];omega);rw[hj,List.take_length] at bC ⊢;go_wp2_with (first | (refine zb0 (g:=w.heap.size+1) (F:=numK (keyL l)) rfl bC ?_;go_simp) | (refine zbm (g:=w.heap.size) (F:=fun _=>0) (G:=numK (keyL l)) rfl rfl bR ?_;go_simp));have hz3:=bR.lt;exact bodyPost_ret (v := .tuple #[.agg (arrV 256 (numK (keyL l))),.int .i64 (cntK (keyL l) 256:Nat)]) (zf8 Tryd.results46 rfl rfl (bR.put (numK (keyL l)))) rfl ⟨rfl,below_setRow hW (by omega) _⟩
end
section
def machC (F:Nat->Nat) (n:Int) (vN vO:Value):Array Value:=arrV 256 F++#[.int .i64 n,vN,vO]
theorem zau (F:Nat->Nat) (n:Int) (vN vO:Value):(machC F n vN vO).size=259:=by simp[machC,zaq]
theorem zbg (F:Nat->Nat) (n:Int) (vN vO:Value) (j:Nat) (h:j<256):(machC F n vN vO)[j]?=some (.int .i64 (F j:Int)):=by
 unfold machC;rw[Array.getElem?_append_left (by rw[zaq];exact h),ze1 256 F j h]
theorem za6 (F:Nat->Nat) (n:Int) (vN vO:Value) (j:Nat):(machC F n vN vO)[256+j]?=(#[.int .i64 n,vN,vO]:Array Value)[j]?:=by
 unfold machC;rw[Array.getElem?_append_right (by rw[zaq];omega),zaq,Nat.add_sub_cancel_left]
theorem zql {F:Nat->Nat} {n:Int} {vN vO:Value} (h1:vN.oneCell'=true) (h2:vO.oneCell'=true):(machC F n vN vO).all (·.oneCell')=true:=by
 rw[Array.all_eq_true_iff_forall_mem];intro v hv;unfold machC at hv;rw[Array.mem_append] at hv;rcases hv with hv|hv
 . exact zig 256 F v (by simpa using hv)
 . simp at hv;rcases hv with rfl|rfl|rfl
   . rfl
   . exact h1
   . exact h2
def BoxM (w:World) (g:Nat) (t:TypeId) (F:Nat->Nat) (n:Int) (vN vO:Value):Prop:=w.heap[g]?=some (.cells (machC F n vN vO) t (0,0))
theorem zdu (b:Nat) (t:TypeId):∀ (vs:List Value) (o:Nat) (w:World) (cur:Array Value),w.heap[b]?=some (.cells cur t (0,0))->∃ cur',(w.setCells b o vs).heap[b]?=some (.cells cur' t (0,0))∧cur'.size=cur.size∧∀ j,j<cur.size->cur'[j]?=if o<=j∧j<o+vs.length then vs[j-o]? else cur[j]?
 | [],o,w,cur,h=>⟨cur,h,rfl,fun j hj=>by rw[if_neg (by simp)]⟩
 | v::vs,o,w,cur,h=>by
   have h1:=heap_setCell_same w b o cur t v h;obtain⟨cur',h2,h3,h4⟩:=zdu b t vs (o+1) (w.setCell ⟨b,o,none⟩ v) _ h1;refine⟨cur',h2,by rw[h3];simp,fun j hj=>?_⟩;rw[h4 j (by simpa using hj)]
   by_cases e:j=o
   . subst e;rw[if_neg (by omega),if_pos (by simp),Nat.sub_self];simp[hj]
   . by_cases e2:o+1<=j∧j<o+1+vs.length
     . rw[if_pos e2,if_pos (by simp;omega)];obtain⟨k,rfl⟩:∃ k,j=o+1+k:=⟨j-(o+1),by omega⟩;rw[show o+1+k-(o+1)=k by omega,show o+1+k-o=k+1 by omega];rfl
     . rw[if_neg e2,if_neg (by simp;omega),Array.getElem?_setIfInBounds_ne (fun e'=>e e'.symm)]
theorem zd9 (b:Nat):∀ (vs:List Value) (o:Nat) (w:World) (k:Nat),k≠b->(w.setCells b o vs).heap[k]?=w.heap[k]?
 | [],o,w,k,h=>rfl
 | v::vs,o,w,k,h=>(zd9 b vs (o+1) _ k h).trans (Below.heap_setCell w ⟨b,o,none⟩ v k h)
theorem zcd (b:Nat):∀ (vs:List Value) (o:Nat) (w:World),(w.setCells b o vs).os=w.os∧(w.setCells b o vs).tape=w.tape∧(w.setCells b o vs).output=w.output∧(w.setCells b o vs).heap.size=w.heap.size
 | [],o,w=>⟨rfl,rfl,rfl,rfl⟩
 | v::vs,o,w=>by
   obtain⟨h1,h2,h3,h4⟩:=zcd b vs (o+1) (w.setCell ⟨b,o,none⟩ v);exact⟨h1,h2,h3,by rw[show w.setCells b o (v::vs)=(w.setCell ⟨b,o,none⟩ v).setCells b (o+1) vs from rfl,h4];simp[World.setCell]⟩
theorem zi4 {Q:Nat->Prop} {w w':World} (h:Kept Q w w') {b:Nat} (hb:Q b∨w.heap.size<=b) (vs:List Value) (o:Nat):Kept Q w (w'.setCells b o vs):=by
 obtain⟨h1,h2,h3,h4⟩:=zcd b vs o w';refine⟨h1.trans h.os,h2.trans h.tape,h3.trans h.output,by rw[h4];exact h.size,fun k hk hn=>?_⟩;rw[zd9 b vs o w' k fun e=>by subst e;exact hb.elim hn fun x=>by omega];exact h.block k hk hn
section
variable {w w':World} {g B:Nat} {t:TypeId} {F G:Nat->Nat} {n m:Int} {vN vO v:Value}
theorem BoxM.lt (h:BoxM w g t F n vN vO):g<w.heap.size:=za0 h
theorem BoxM.stays (h:BoxM w g t F n vN vO) (hb:Below w.heap.size w w'):BoxM w' g t F n vN vO:=(hb.block g h.lt).trans h
theorem BoxM.kept {Q:Nat->Prop} (h:BoxM w g t F n vN vO) (hk:Kept Q w w') (hq:¬ Q g):BoxM w' g t F n vN vO:=(hk.block g h.lt hq).trans h
theorem BoxM.new (w:World) (t:TypeId) (F:Nat->Nat) (n:Int) (vN vO:Value):BoxM (w.alloc (.cells (machC F n vN vO) t)) w.heap.size t F n vN vO:=heap_alloc_new w _
theorem BoxM.cls (h:BoxM w g t F n vN vO) (j:Nat) (hj:j<256):w.cell? ⟨g,j,none⟩=some (.int .i64 (F j:Int)):=by rw[cell_of_row w g j _ t (0,0) h];exact zbg F n vN vO j hj
theorem BoxM.num (h:BoxM w g t F n vN vO):w.cell? ⟨g,256,none⟩=some (.int .i64 n):=by rw[cell_of_row w g 256 _ t (0,0) h];exact za6 F n vN vO 0
theorem BoxM.nxt (h:BoxM w g t F n vN vO):w.cell? ⟨g,257,none⟩=some vN:=by rw[cell_of_row w g 257 _ t (0,0) h];exact za6 F n vN vO 1
theorem BoxM.out (h:BoxM w g t F n vN vO):w.cell? ⟨g,258,none⟩=some vO:=by rw[cell_of_row w g 258 _ t (0,0) h];exact za6 F n vN vO 2
theorem BoxM.frozen (h:BoxM w g t F n vN vO) (j:Nat):w.frozen? ⟨g,j,none⟩=false:=by
 unfold BoxM at h;simp[World.frozen?,h]
theorem BoxM.there (h:BoxM w g t F n vN vO) (o k:Nat) (hk:o+k<=259):w.there g o k:=fun j hj=>by
 refine⟨?_,h.frozen _⟩;rw[cell_of_row w g (o+j) _ t (0,0) h,Array.getElem?_eq_getElem (by rw[zau];omega)];rfl
theorem BoxM.whole (h:BoxM w g t F n vN vO):w.rangeAt g 0 (machC F n vN vO).toList:=fun j v hv=>by
 rw[Nat.zero_add,cell_of_row w g j _ t (0,0) h]
 simpa using hv
theorem BoxM.range (h:BoxM w g t F n vN vO):w.rangeAt g 0 (arrV 256 F).toList:=fun j v hv=>by
 have hj:j<256:=(by have:=(List.getElem?_eq_some_iff.1 hv).1;simpa [zaq] using this);rw[Nat.zero_add,h.cls j hj,←hv,Array.getElem?_toList,ze1 256 F j hj]
theorem zm1 {cur:Array Value} (hs:cur.size=259) (h:∀ j,j<259->cur[j]?=(machC F n vN vO)[j]?):cur=machC F n vN vO:=by
 apply Array.ext_getElem?;intro j
 by_cases e:j<259
 . exact h j e
 . rw[Array.getElem?_eq_none (by omega),Array.getElem?_eq_none (by rw[zau];omega)]
theorem zd3 {j:Nat} (h:j<259):j<256∨j=256∨j=257∨j=258:=by omega
theorem BoxM.laid (h:BoxM w g t F n vN vO) (G:Nat->Nat):BoxM (w.setCells g 0 (arrV 256 G).toList) g t G n vN vO:=by
 obtain⟨cur',h1,h2,h3⟩:=zdu g t (arrV 256 G).toList 0 w _ h;rw[zau] at h2 h3;have:cur'=machC G n vN vO:=zm1 h2 fun j hj=>by
   rw[h3 j hj];rcases zd3 hj with e|rfl|rfl|rfl
   . rw[if_pos (by simp[zaq];exact e),Nat.sub_zero,Array.getElem?_toList,ze1 256 G j e,zbg G n vN vO j e]
   . rw[if_neg (by simp[zaq])];exact (za6 F n vN vO 0).trans (za6 G n vN vO 0).symm
   . rw[if_neg (by simp[zaq])];exact (za6 F n vN vO 1).trans (za6 G n vN vO 1).symm
   . rw[if_neg (by simp[zaq])];exact (za6 F n vN vO 2).trans (za6 G n vN vO 2).symm
 subst this;exact h1
theorem BoxM.one (h:BoxM w g t F n vN vO) (j:Nat) (v:Value) {n':Int} {vN' vO':Value} (hc:∀ i,i<259->(if i=j then some v else (machC F n vN vO)[i]?)=(machC F n' vN' vO')[i]?) (hj:j<259):BoxM (w.setCell ⟨g,j,none⟩ v) g t F n' vN' vO':=by
 have h1:=heap_setCell_same w g j _ t v h;have:(machC F n vN vO).setIfInBounds j v=machC F n' vN' vO':=zm1 (by simp[zau]) fun i hi=>by
   rw[←hc i hi]
   by_cases e:i=j
   . subst e;rw[if_pos rfl,Array.getElem?_setIfInBounds_self];simp[zau,hi]
   . rw[if_neg e,Array.getElem?_setIfInBounds_ne (fun e'=>e e'.symm)]
 rw[this] at h1;exact h1
theorem BoxM.setNum (h:BoxM w g t F n vN vO) (m:Int):BoxM (w.setCell ⟨g,256,none⟩ (.int .i64 m)) g t F m vN vO:=h.one 256 _ (fun i hi=>by
 rcases zd3 hi with e|rfl|rfl|rfl
 . rw[if_neg (by omega),zbg _ _ _ _ i e,zbg _ _ _ _ i e]
 . rw[if_pos rfl];exact (za6 F m vN vO 0).symm
 . rw[if_neg (by omega)];exact (za6 F n vN vO 1).trans (za6 F m vN vO 1).symm
 . rw[if_neg (by omega)];exact (za6 F n vN vO 2).trans (za6 F m vN vO 2).symm) (by omega)
theorem BoxM.setNxt (h:BoxM w g t F n vN vO) (v:Value):BoxM (w.setCell ⟨g,257,none⟩ v) g t F n v vO:=h.one 257 _ (fun i hi=>by
 rcases zd3 hi with e|rfl|rfl|rfl
 . rw[if_neg (by omega),zbg _ _ _ _ i e,zbg _ _ _ _ i e]
 . rw[if_neg (by omega)];exact (za6 F n vN vO 0).trans (za6 F n v vO 0).symm
 . rw[if_pos rfl];exact (za6 F n v vO 1).symm
 . rw[if_neg (by omega)];exact (za6 F n vN vO 2).trans (za6 F n v vO 2).symm) (by omega)
theorem BoxM.setOut (h:BoxM w g t F n vN vO) (v:Value):BoxM (w.setCell ⟨g,258,none⟩ v) g t F n vN v:=h.one 258 _ (fun i hi=>by
 rcases zd3 hi with e|rfl|rfl|rfl
 . rw[if_neg (by omega),zbg _ _ _ _ i e,zbg _ _ _ _ i e]
 . rw[if_neg (by omega)];exact (za6 F n vN vO 0).trans (za6 F n vN v 0).symm
 . rw[if_neg (by omega)];exact (za6 F n vN vO 1).trans (za6 F n vN v 1).symm
 . rw[if_pos rfl];exact (za6 F n vN v 2).symm) (by omega)
end
end
section
theorem Tryd.undArr:Tryd.prog.underlying 57=some (.array 256 3):=by kernel_rfl
theorem Tryd.sizeArr:(Tryd.prog.info? 57).map (·.size)=some 256:=by kernel_rfl
theorem Tryd.sizeMM:(Tryd.prog.info? 60).map (·.size)=some 259:=by kernel_rfl
section
variable {w:World} {ops:Array Oper} {rest:List Oper} {o:Oper} {a:Act} {Q:Exit->Act->World->Prop} {g:Nat} {t:TypeId} {F G:Nat->Nat} {n m:Int} {vN vO uN uO:Value}
theorem zik (hgd:o.guard=none) (x:Operand) (ho:o.op = .load 57 x) (hx:a.eval x = .pointer (some ⟨g,0,none⟩)) (h:BoxM w g t F n vN vO) (hk:wpList Tryd.prog ops Q rest (a.put o.dst (.agg (arrV 256 F))) w):wpList Tryd.prog ops Q (o::rest) a w:=
 wpList_load_mid hgd 57 x ho g 0 hx (arrV 256 F).toList _ h.range Tryd.undArr rfl (by rw[Tryd.sizeArr];simp[zaq]) (by simpa using hk)
theorem zhi (hgd:o.guard=none) (x y:Operand) (ho:o.op = .store 57 x y) (hx:a.eval x = .pointer (some ⟨g,0,none⟩)) (hy:a.eval y = .agg (arrV 256 G)) (h:BoxM w g t F n vN vO)
   (hk:BoxM (w.setCells g 0 (arrV 256 G).toList) g t G n vN vO->wpList Tryd.prog ops Q rest (a.put o.dst undef) (w.setCells g 0 (arrV 256 G).toList)):wpList Tryd.prog ops Q (o::rest) a w:=
 wpList_store_mid hgd 57 x y ho g 0 (arrV 256 G) hx hy (h.there 0 _ (by rw[zaq];omega)) (by rw[Tryd.sizeArr];simp[zaq]) (by rw[Array.all_eq_true_iff_forall_mem];intro v hv;exact zig 256 G v (by simpa using hv)) (hk (h.laid G))
theorem zk8 (hgd:o.guard=none) (x y:Operand) (ho:o.op = .store 57 x y) (hx:a.eval x = .pointer (some ⟨g,0,none⟩)) (hy:a.eval y = .agg (arrV 256 G)) (h:BoxM w g t F n vN vO)
   (hk:∀ w',BoxM w' g t G n vN vO->Kept (fun b=>b=g) w w'->w'.heap.size=w.heap.size->wpList Tryd.prog ops Q rest (a.put o.dst undef) w'):wpList Tryd.prog ops Q (o::rest) a w:=
 zhi hgd x y ho hx hy h fun hb=>hk _ hb (zi4 (Kept.refl (fun b=>b=g) w) (.inl rfl) _ _) (zcd g _ 0 w).2.2.2
theorem zp9 {d:TypeDesc} (hu:Tryd.prog.underlying t=some d) (hd:d.isRow=true) (hs:(Tryd.prog.info? t).map (·.size)=some 259) (h:BoxM w g t F n vN vO):(loadVar t ⟨g,0,none⟩).run Tryd.prog w = .ok (.agg (machC F n vN vO)) w:=by
 have:=run_loadVar_mid (P:=Tryd.prog) w g 0 t (machC F n vN vO).toList d h.whole hu hd (by rw[hs];simp[zau])
 simpa using this
theorem zej (hgd:o.guard=none) (x:Operand) (ho:o.op = .load t x) (hx:a.eval x = .pointer (some ⟨g,0,none⟩)) {d:TypeDesc} (hu:Tryd.prog.underlying t=some d) (hd:d.isRow=true) (hs:(Tryd.prog.info? t).map (·.size)=some 259) (h:BoxM w g t F n vN vO) (hk:wpList Tryd.prog ops Q rest (a.put o.dst (.agg (machC F n vN vO))) w):wpList Tryd.prog ops Q (o::rest) a w:=
 wpList_load_mid hgd t x ho g 0 hx (machC F n vN vO).toList _ h.whole hu hd (by rw[hs];simp[zau]) (by simpa using hk)
theorem zu8 (h:BoxM w g t F n vN vO) (G:Nat->Nat) (m:Int) (uN uO:Value):BoxM (w.setRow g (machC G m uN uO)) g t G m uN uO:=setRow_heap w g _ _ t (0,0) h
theorem zal (hgd:o.guard=none) (x y:Operand) (ho:o.op = .store t x y) (hx:a.eval x = .pointer (some ⟨g,0,none⟩)) (hy:a.eval y = .agg (machC G m uN uO)) (hs:(Tryd.prog.info? t).map (·.size)=some 259) (h1:uN.oneCell'=true) (h2:uO.oneCell'=true) (h:BoxM w g t F n vN vO)
   (hk:BoxM (w.setRow g (machC G m uN uO)) g t G m uN uO->wpList Tryd.prog ops Q rest (a.put o.dst undef) (w.setRow g (machC G m uN uO))):wpList Tryd.prog ops Q (o::rest) a w:=by
 refine wpList_plain hgd fun _ hK=>?_
 have hst:(storeVar t ⟨g,0,none⟩ (.agg (machC G m uN uO))).run Tryd.prog w = .ok () (w.setRow g (machC G m uN uO)):=run_storeVar_row w g t t _ _ h (by rw[hs];simp[zau]) (by simp[zau]) (zql h1 h2);unfold Oper.wp execOp;simp only[ho,hx,hy,Instr.storeAt,Instr.sureAddr,Sem.run_bind,Sem.run_pure,Result.andThen_ok,hst];exact hK _ _ (hk (zu8 h G m uN uO))
theorem zck {fn:Func} {tmps:Array Value} {x y:Nat} {v:Value} (hr:fn.results=#[.cell x t,.tmp y]) (hx:tmps.getD x undef = .pointer (some ⟨g,0,none⟩)) (hy:tmps.getD y undef=v) {d:TypeDesc} (hu:Tryd.prog.underlying t=some d) (hd:d.isRow=true) (hs:(Tryd.prog.info? t).map (·.size)=some 259)
   (h:BoxM w g t F n vN vO):(results fn tmps).run Tryd.prog w = .ok (.tuple #[.agg (machC F n vN vO),v]) w:=by
 have e:(#[ResultVar.cell x t,.tmp y]:Array ResultVar)=[ResultVar.cell x t,.tmp y].toArray:=rfl;rw[Array.getD_eq_getD_getElem?] at hx hy;unfold results;rw[hr,e];simp[Sem.run_bind,hx,hy,zp9 hu hd hs h,asAddr]
end
theorem zko {Q:Nat->Prop} {w w':World} (h:Kept Q w w') {g:Nat} (hg:Q g∨w.heap.size<=g) (A:Array Value):Kept Q w (w'.setRow g A):=
 ⟨h.os,h.tape,h.output,by rw[setRow_size];exact h.size,fun k hk hn=>(setRow_other w' g k A fun e=>by subst e;exact hg.elim hn fun x=>by omega).trans (h.block k hk hn)⟩
end
end Go.Proofs.YtgbdanddbgomhaaDoor
