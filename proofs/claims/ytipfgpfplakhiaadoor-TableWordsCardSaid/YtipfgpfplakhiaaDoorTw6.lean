import Derived.Test.YtipfgpfplakhiaaDoorTw4
set_option linter.unusedVariables false
set_option linter.unusedSimpArgs false
set_option maxRecDepth 20000
set_option maxHeartbeats 4000000
namespace Go.Proofs.YtipfgpfplakhiaaDoor
open Go Go.RowKit
section
attribute [local go_sem ↓] Go.wp_at_zero Go.wp_at_succ
theorem Tryd.infoSetM:(Tryd.prog.info? 53).map (fun i=>(i.zero,i.size,i.bytes))=some (some (.agg #[.int .u64 0,.int .u64 0,.int .u64 0,.int .u64 0]),4,32):=by kernel_rfl
theorem zsy (z:Nat):(madeCells (Value.agg #[.int .u64 0,.int .u64 0,.int .u64 0,.int .u64 0]).cells (z*4)).toList=zcj (List.replicate z za9):=by
 apply ygi;intro j
 by_cases hj:j<z*4
 .have hd:j=j / 4*4+j % 4:=yie;have hlt:j / 4<(List.replicate z za9).length:=(by rw[ygw];omega);have h1:=zf4 (List.replicate z za9) (j / 4) (j % 4) hlt yie;rw[←hd] at h1;rw[h1,List.getElem_replicate,zak];have h4:j % 4=0∨j % 4=1∨j % 4=2∨j % 4=3:=yie;simp only[madeCells,Value.cells,Array.toList_map,Array.toList_range,yfs,yhe hj,Option.map_some];have hs:(#[Value.int .u64 0,.int .u64 0,.int .u64 0,.int .u64 0]:Array Value).size=4:=rfl;rcases h4 with h|h|h|h <;> simp[h]
 .rw[yfj (by simp[madeCells];omega),yfj (by rw[zus,ygw];omega)]
theorem zkn:∀ (S:List (Nat->Bool)) (p:Nat) (q:Nat->Bool),p<S.length->
 ((((zcj S).set (p*4) (.int .u64 (word q 0))).set (p*4+1) (.int .u64 (word q 1))).set (p*4+2) (.int .u64 (word q 2))).set (p*4+3) (.int .u64 (word q 3))=zcj (S.set p q)
 | [],p,q,h=>by simp at h
 | x::S,0,q,h=>by simp[zcj]
 | x::S,p+1,q,h=>by
  have ih:=zkn S p q yit;have e:∀ k,(p+1)*4+k=p*4+k+1+1+1+1:=fun k=>by omega
  have e0:(p+1)*4=p*4+1+1+1+1:=yie;have hc:zcj (x::S) = .int .u64 (word x 0) :: .int .u64 (word x 1) :: .int .u64 (word x 2) :: .int .u64 (word x 3)::zcj S:=(by simp[zcj]);have hc2:zcj ((x::S).set (p+1) q) = .int .u64 (word x 0) :: .int .u64 (word x 1) :: .int .u64 (word x 2) :: .int .u64 (word x 3)::zcj (S.set p q):=(by simp[zcj]);rw[hc,hc2,e0,show p*4+1+1+1+1+1=p*4+1+1+1+1+1 from rfl,←ih];simp only[List.set_cons_succ]
theorem zuq {α:Type} (l:List α) (k P:Nat) (z x:α) (hl:l.length=P) (hk:k<P) (hx:l[k]?=some x):(l.take k++List.replicate (P-k) z).set k x=l.take (k+1)++List.replicate (P-(k+1)) z:=by
 have hs:l.take (k+1)=l.take k++[x]:=by
  rw[List.take_add_one,hx];rfl
 have hr:List.replicate (P-k) z=z::List.replicate (P-(k+1)) z:=by
  rw[show P-k=(P-(k+1))+1 by omega,List.replicate_succ]
 rw[hs,hr,List.set_append_right _ _ (by rw[yg8];omega),yg8,show k-min k l.length=0 by omega,yfl];rfl
def SetRow (w:World) (C g:Nat) (L:List (Nat->Bool)):Prop:=w.ownsRow C 53 4 (.slice (some ⟨g,0,none⟩) L.length L.length) L.length (zcj L)
section
variable {w w':World} {C g:Nat} {L:List (Nat->Bool)} {Q:Nat->Prop}
theorem SetRow.frozen (h:SetRow w C g L) (j:Nat):w.frozen? ⟨g,j,none⟩=false:=yfw h j
theorem SetRow.cell (h:SetRow w C g L) (k q:Nat) (hk:k<L.length) (hq:q<4):∃ x,w.cell? ⟨g,k*4+q,none⟩=some x:=by
 rw[yf7 h (k*4+q) yie];exact⟨_,zf4 L k q hk hq⟩
theorem SetRow.in (h:SetRow w C g L):C<=g∧g<w.heap.size:=yf5 h g rfl
theorem SetRow.set (h:SetRow w C g L) (p:Nat) (hp:p<L.length) (q:Nat->Bool):SetRow ((((w.setCell ⟨g,p*4,none⟩ (.int .u64 (word q 0))).setCell ⟨g,p*4+1,none⟩ (.int .u64 (word q 1))).setCell ⟨g,p*4+2,none⟩ (.int .u64 (word q 2))).setCell ⟨g,p*4+3,none⟩ (.int .u64 (word q 3))) C g (L.set p q):=by
 have s1:=(yg1 h (p*4) (.int .u64 (word q 0))).1;have s2:=(yg1 s1 (p*4+1) (.int .u64 (word q 1))).1;have s3:=(yg1 s2 (p*4+2) (.int .u64 (word q 2))).1;have s4:=(yg1 s3 (p*4+3) (.int .u64 (word q 3))).1;rw[zkn _ _ _ hp] at s4;unfold SetRow;rw[List.length_set];exact s4
theorem SetRow.rd (h:SetRow w C g L):RdS w w.heap.size (some ⟨g,0,none⟩) L:=fun k hk=>by
 refine⟨g,0,rfl,h.in.2,fun q hq=>?_⟩;rw[yg5,yf7 h (k*4+q) yie];exact zf4 L k q hk hq
end
theorem ybp {w:World} {gr:Nat} {R:RSt} (hR:RulesIn w gr R) (hP:R.places.length<=100000):
 Calls Tryd.prog 21 #[.pointer (some ⟨gr,0,none⟩)] w fun e w'=>∃ g,e = .returned (.slice (some ⟨g,0,none⟩) R.places.length R.places.length)∧SetRow w' w.heap.size g (R.places.map Plc.set)∧Below w.heap.size w w':=by
 obtain⟨vp,vs,v1,hbox,hvs,hrow,hfol,hfirst⟩:=id hR;obtain⟨Ap,cp,hfp⟩:=zas hrow;subst hfp;have HR:=Zh hR;have r0:w.cell? ⟨gr,0,none⟩=some (.slice Ap R.places.length cp):=cell_of_row w gr 0 _ _ (0,0) hbox;have hgr:gr<w.heap.size:=za0 hbox;obtain⟨P,hP'⟩:∃ P,R.places.length=P:=⟨_,rfl⟩;rw[hP'] at r0 hP ⊢;have HP:=Zh hP';obtain⟨i0,hi,hi0,hi1,hi2⟩:=info_parts Tryd.infoSetM;obtain⟨wm,hmk,hown,hgm⟩:=run_make_full (P:=Tryd.prog) w w.heap.size 67 53 i0 _ 4 Tryd.underlying67 hi hi0 hi1 .i64 .i64 P (by rw[hi2];omega) yin (yez _);have hbm:Below w.heap.size w wm:=(yf6 _ _).grown hgm (yez _) fun q e=>by cases e
 have hu0:SetRow wm w.heap.size w.heap.size (List.replicate P za9):=by
  unfold SetRow;rw[←zsy,ygw];exact hown
 have r0':=(hbm.cell (p:=⟨gr,0,none⟩) hgr).trans r0;have HBM:=Zh hbm;have HU0:=Zh hu0;have hnpos:w.heap.size<wm.heap.size:=hu0.in.2;clear hown hgm hbm hu0 hR hbox hvs hrow hfol hfirst hP';go_enter Tryd.func21,Tryd.ntmps21;go_wp2;go_loopg [16] P (fun m i wz=>∃ k:Nat,i = .int .i64 (k:Int)∧k<=P∧m=P-k∧SetRow wz w.heap.size w.heap.size ((R.places.map Plc.set).take k++List.replicate (P-k) za9)∧Kept (fun b=>b=w.heap.size) wm wz)
 case atStart=>exact⟨0,rfl,yf8 _,rfl,HU0.o,Kept.refl _ _⟩
 case round =>
  obtain⟨k,rfl,hk,hmk,hu,hkp⟩:=hrel;have HMK:=Zh hmk;have HU:=Zh hu;have HKP:=Zh hkp;clear hmk hu hkp
  by_cases hkP:k<P
  .have hks:k<R.places.length:=(by rw[HP.o];exact hkP);obtain⟨cu0,hcu0⟩:∃ cur,wm.heap[w.heap.size]?=some (.cells cur 53 (0,0)):=za7 HU0.o rfl;have hRw:RulesIn wr gr R:=(HR.o.stays HBM.o).kept HKP.o fun b q _=>⟨cu0,53,by rw[q];exact hcu0,by decide,by decide,by decide⟩
   obtain⟨gp,cp',v,r0w,hpc,-,hgp,-⟩:=hRw.at (yey hks);obtain⟨p,hp⟩:∃ p,R.places[k]'hks=p:=⟨_,rfl⟩;rw[hp] at hpc;have HPK:=Zh hp;have c0:=hpc 0 _ rfl;have c1:=hpc 1 _ rfl;have c2:=hpc 2 _ rfl;have c3:=hpc 3 _ rfl;rw[yh1] at c0;rw[HP.o] at r0w;have hkl:k<((R.places.map Plc.set).take k++List.replicate (P-k) za9).length:=(by simp[HP.o];omega);obtain⟨x0,n0⟩:=HU.o.cell k 0 hkl yij;obtain⟨x1,n1⟩:=HU.o.cell k 1 hkl yij;obtain⟨x2,n2⟩:=HU.o.cell k 2 hkl yij;obtain⟨x3,n3⟩:=HU.o.cell k 3 hkl yij;rw[yh1] at n0;clear hkl;have hf0:=HU.o.frozen (k*4);have hf1:=HU.o.frozen (k*4+1);have hf2:=HU.o.frozen (k*4+2);have hf3:=HU.o.frozen (k*4+3);have k0:(0:Int)<=(k:Int):=yie;have k1:(k:Int)<(P:Int):=yie;clear hpc hRw hp;go_wp2;go_roundg (P-(k+1))
   case measure=>have:=HMK.o;omega
   case rel =>
    have hset:=HU.o.set k (by simp[HP.o];omega) p.set;have hL:((R.places.map Plc.set).take k++List.replicate (P-k) za9).set k p.set=(R.places.map Plc.set).take (k+1)++List.replicate (P-(k+1)) za9:=zuq _ k P za9 p.set (by rw[yfr];exact HP.o) hkP (by rw[yfs,yey hks,HPK.o];rfl);rw[hL] at hset;exact⟨k+1,by go_num,by omega,rfl,hset,(((HKP.o.setCell (a:=⟨w.heap.size,_,none⟩) (.inl rfl) _).setCell (a:=⟨w.heap.size,_,none⟩) (.inl rfl) _).setCell (a:=⟨w.heap.size,_,none⟩) (.inl rfl) _).setCell (a:=⟨w.heap.size,_,none⟩) (.inl rfl) _⟩
  .have hkn:k=P:=yie;go_wp2;go_ret;have hu:=HU.o;rw[hkn,yg0 (by rw[yfr,HP.o];exact yez _),ygf,List.replicate_zero,ygm] at hu;exact⟨_,rfl,hu,HBM.o.trans (HKP.o.below (yhh hnpos) fun b e=>by omega)⟩
end
section
attribute [local go_sem ↓] Go.wp_at_zero Go.wp_at_succ
theorem Tryd.infoByteE:(Tryd.prog.info? 5).map (fun i=>(i.zero,i.size,i.bytes))=some (some (.int .u8 0),1,1):=by kernel_rfl
def lastB (F:Nat->Nat):Nat->Nat->Nat
 | 0,_=>0
 | k+1,c=>if F k=c then k else lastB F k c
theorem zrl (F:Nat->Nat):∀ k c,lastB F k c<=k
 | 0,c=>yez _
 | k+1,c=>by
  unfold lastB;split
  .omega
  .have:=zrl F k c;omega
theorem zrm (F:Nat->Nat):∀ k c b,b<k->F b=c->F (lastB F k c)=c
 | 0,c,b,hb,h=>by omega
 | k+1,c,b,hb,h=>by
  unfold lastB;split
  .assumption
  .rename_i hn;exact zrm F k c b (by
    rcases ygs b k with h1|h1
    .exact h1
    .exact absurd (show F k=c by rw[show k=b by omega];exact h) hn) h
def zjy (n:Nat) (f:Nat->Nat):List Value:=(List.range n).map fun c=>Value.int .u8 (f c:Int)
theorem zff (n:Nat) (f:Nat->Nat) (c:Nat) (h:c<n):(zjy n f)[c]?=some (.int .u8 (f c:Int)):=by simp[zjy,h]
theorem zx2 (n:Nat) (F:Nat->Nat) (k:Nat) (h:F k<n):(zjy n (lastB F k)).set (F k) (.int .u8 (k:Int))=zjy n (lastB F (k+1)):=by
 apply ygi;intro i;rw[ygu]
 by_cases hi:i<n
 .by_cases e:F k=i
  .subst e;simp[zjy,hi,lastB]
  .have h2:lastB F (k+1) i=lastB F k i:=(by simp[lastB,e]);rw[if_neg e,zff n _ i hi,zff n _ i hi,h2]
 .by_cases e:F k=i
  .omega
  .rw[if_neg e];simp[zjy,hi]
theorem zps {w:World} {B C e size n:Nat} {v:Value} {xs:List Value} (h:w.ownsRow B e size v n xs) (hb:C<=B):w.ownsRow C e size v n xs:=by
 refine⟨h.1,?_⟩;rcases h.2 with h|⟨g,cap,cur,e,hB,r⟩
 .exact .inl h
 .exact .inr ⟨g,cap,cur,e,yfa hb hB,r⟩
theorem ybu {w:World} (F:Nat->Nat) (n:Nat) (hn:n<=100000) (hF:∀ b,b<256->F b<n):
 Calls Tryd.prog 22 #[.agg (arrV 256 F),.int .i64 (n:Int)] w fun e w'=>∃ g,e = .returned (.slice (some ⟨g,0,none⟩) n n)∧w'.ownsRow w.heap.size 5 1 (.slice (some ⟨g,0,none⟩) n n) n (zjy n (lastB F 256))∧Below w.heap.size w w':=by
 obtain⟨i0,hi,hi0,hi1,hi2⟩:=info_parts Tryd.infoByteE;have hbx:=BoxN.new w 34 256 F;have hba:Below w.heap.size w (w.alloc (.cells (arrV 256 F) 34)):=(yf6 _ _).alloc (yez _) _;generalize hw1:w.alloc (.cells (arrV 256 F) 34)=w1 at hbx hba;have hs1:w1.heap.size=w.heap.size+1:=(by rw[←hw1];simp);obtain⟨wm,hmk,hown,hgm⟩:=run_make_full (P:=Tryd.prog) w1 w1.heap.size 24 5 i0 _ 1 Tryd.underlying24 hi hi0 hi1 .i64 .i64 n (by rw[hi2];omega) yin (yez _);have hbm:Below w1.heap.size w1 wm:=(yf6 _ _).grown hgm (yez _) fun q e=>by cases e
 have hu0:wm.ownsRow w1.heap.size 5 1 (.slice (some ⟨w1.heap.size,0,none⟩) n n) n (zjy n (lastB F 0)):=by
  have e:(madeCells (Value.int .u8 0).cells (n*1)).toList=zjy n (lastB F 0):=by
   rw[ygl];rw[show (madeCells (Value.int .u8 0).cells n).toList=List.replicate n (Value.int .u8 0) from toList_madeCells_one _ n];apply ygi;intro j
   by_cases hj:j<n
   .rw[zff n _ j hj];simp[hj,lastB]
   .simp[zjy,hj]
  rw[←e];exact hown
 have hbx':=hbx.stays hbm;rw[hs1] at hu0;have HU0:=Zh hu0;have HBA:=Zh hba;have HBM:=Zh hbm;have hnpos:w.heap.size+1<wm.heap.size:=(yf5 hu0 _ rfl).2;clear hown hgm hbm hu0 hba hbx;go_enter Tryd.func22,Tryd.ntmps22;go_wp2_with (first
  | (refine zbw (g:=w.heap.size) (F:=F) rfl hbx' ?_;go_simp)
  | (rw[hw1];go_simp))
 go_loopg [11] 256 (fun m i wz=>∃ k:Nat,i = .int .i64 (k:Int)∧k<=256∧m=256-k∧wz.ownsRow (w.heap.size+1) 5 1 (.slice (some ⟨w.heap.size+1,0,none⟩) n n) n (zjy n (lastB F k))∧Below (w.heap.size+1) wm wz)
 case atStart=>exact⟨0,rfl,yf8 _,rfl,HU0.o,yf6 _ _⟩
 case round =>
  obtain⟨k,rfl,hk,hmk,hu,hbl⟩:=hrel;have HMK:=Zh hmk;have HU:=Zh hu;have HBL:=Zh hbl;clear hmk hu hbl;have hrs:=(yf5 HU.o _ rfl).2
  by_cases hkP:k<256
  .have hFk:=hF k hkP;have hix:=zrt (F:=F) wr k hkP;have hst:=zx2 n F k hFk;obtain⟨f,hf⟩:∃ f,F k=f:=⟨_,rfl⟩;rw[hf] at hix hFk hst;have HST:=Zh hst;have hcell:wr.cell? ⟨w.heap.size+1,f,none⟩=some (.int .u8 (lastB F k f:Nat)):=by
    rw[yf7 HU.o f yie];exact zff n _ f hFk
   have hfz:wr.frozen? ⟨w.heap.size+1,f,none⟩=false:=yfw HU.o f;have k0:(0:Int)<=(k:Int):=yie;have k1:(k:Int)<256:=yie;have k2:(k:Int)<=255:=yie;have f0:(0:Int)<=(f:Int):=yie;have f1:(f:Int)<(n:Int):=yie;clear hst hf;go_wp2;go_roundg (256-(k+1))
   case measure=>have:=HMK.o;omega
   case rel =>
    have h:=(yg1 HU.o f (.int .u8 (k:Int))).1;rw[HST.o] at h;exact⟨k+1,by go_num,by omega,rfl,h,HBL.o.setCell (yez _) _⟩
  .have hkn:k=256:=yie;go_wp2;go_ret;have h:=zps HU.o (C:=w.heap.size) yie;rw[hkn] at h;exact⟨w.heap.size+1,rfl,h,(HBA.o.trans (HBM.o.mono yie)).trans (HBL.o.mono yie)⟩
end
section
attribute [local go_sem ↓] Go.wp_at_zero Go.wp_at_succ
def le8 (x:Nat):List Nat:=[x % 256,x / 256 % 256,x / 65536 % 256,x / 16777216 % 256,x / 4294967296 % 256,x / 1099511627776 % 256,x / 281474976710656 % 256,x / 72057594037927936]
theorem zw7 {x y:Nat} (hx:x<2 ^ 64) (hy:y<2 ^ 64) (h:le8 x=le8 y):x=y:=by
 simp only[le8,List.cons.injEq,and_true] at h;obtain⟨h0,h1,h2,h3,h4,h5,h6,h7⟩:=h;omega
theorem zpz (x:Nat):(le8 x).length=8:=rfl
def keyB (l:List (Nat×Nat)):List Nat:=l.flatMap fun x=>le8 x.1++le8 x.2
theorem zfw (l:List (Nat×Nat)):(keyB l).length=l.length*16:=by
 induction l with
 | nil=>rfl
 | cons p l ih=>simp only[keyB,List.flatMap_cons,yfd,zpz,yg7] at ih ⊢;omega
theorem zwh (l:List (Nat×Nat)) (x:Nat×Nat):keyB (l++[x])=keyB l++le8 x.1++le8 x.2:=by simp[keyB]
theorem zro:∀ (l k:List (Nat×Nat)),(∀ x∈l,x.1<2 ^ 64∧x.2<2 ^ 64)->(∀ x∈k,x.1<2 ^ 64∧x.2<2 ^ 64)->keyB l=keyB k->l=k
 | [],[],_,_,_=>rfl
 | [],y::k,_,_,h=>by
  have:=congrArg List.length h;rw[zfw,zfw] at this;simp at this
 | x::l,[],_,_,h=>by
  have:=congrArg List.length h;rw[zfw,zfw] at this;simp at this
 | x::l,y::k,hl,hk,h=>by
  have e:∀ (x:Nat×Nat) l,keyB (x::l)=le8 x.1++(le8 x.2++keyB l):=fun x l=>by simp[keyB]
  rw[e,e] at h;have h1:=List.append_inj h rfl;have h2:=List.append_inj h1.2 rfl;have hx:=hl x yg9;have hy:=hk y yg9;have e1:=zw7 hx.1 hy.1 h1.1;have e2:=zw7 hx.2 hy.2 h2.1;rw[show x=y from Prod.ext e1 e2,zro l k (fun z hz=>hl z (yfv _ hz)) (fun z hz=>hk z (yfv _ hz)) h2.2]
theorem zwi (l:List (Nat×Nat)) (hl:∀ x∈l,x.1<2 ^ 64∧x.2<2 ^ 64):∀ b∈keyB l,b<256:=by
 intro b hb;simp only[keyB,le8,List.mem_flatMap,yfm,yfi,yfk,or_false] at hb;obtain⟨x,hx,h⟩:=hb;have:=hl x hx;rcases h with h|h <;> (rcases h with h|h|h|h|h|h|h|h <;> omega)
def zd0 (l:List Nat):List Value:=l.map fun (b:Nat)=>Value.int .u8 (b:Int)
def Bts (w:World) (B:Nat) (v:Value) (l:List Nat):Prop:=w.ownsRow B 5 1 v l.length (zd0 l)
theorem Bts.stays {w w':World} {B:Nat} {v:Value} {l:List Nat} (h:Bts w B v l) (hb:Below w.heap.size w w'):Bts w' B v l:=za8 h fun b e _=>hb.block b (yf5 h b e).2
theorem Bts.form {w:World} {B:Nat} {v:Value} {l:List Nat} (h:Bts w B v l):∃ A c,v = .slice A l.length c:=zas h
theorem zu0 (l k:List Nat):zd0 l++zd0 k=zd0 (l++k):=by simp[zd0]
theorem ztz (x:Nat):zd0 (le8 x)=[.int .u8 ((x:Int) % 256),.int .u8 ((x:Int) / 256 % 256),.int .u8 ((x:Int) / 65536 % 256),.int .u8 ((x:Int) / 16777216 % 256),.int .u8 ((x:Int) / 4294967296 % 256),.int .u8 ((x:Int) / 1099511627776 % 256),.int .u8 ((x:Int) / 281474976710656 % 256),.int .u8 ((x:Int) / 72057594037927936)]:=by
 simp[zd0,le8]
theorem zzz {w:World} {B:Nat} {v:Value} {l:List Nat} (h:Bts w B v l) (hB:B<=w.heap.size) (hl:l.length<=10000000) (x:Nat) (ty:TypeId) (ad:Addr) (c:Nat)
 (hc:∀ (j:Nat) u,(zd0 (le8 x))[j]?=some u->w.cell? (ad.add j)=some u):
 ∃ v' w',(Builtin.append_ #[24,24] ty #[v,.slice (some ad) 8 c]).run Tryd.prog w = .ok v' w'∧Bts w' B v' (l++le8 x)∧w.grownBy w' v.ownBlock∧(v'.ownBlock=v.ownBlock∨v'.ownBlock=some w.heap.size):=by
 obtain⟨i0,hi,hz0,hz1,hz2⟩:=info_parts Tryd.infoByteE;obtain⟨v',w',hr,h4,h5,_,h6⟩:=run_append_own_at (P:=Tryd.prog) w B 24 ty 5 i0 _ 1 1 Tryd.underlying24 hi hz0 hz1 hz2 rfl yij v l.length (zd0 l) h ad 8 c (zd0 (le8 x)) yik hc
  (by
    intro u hu;simp[zd0,le8] at hu;rcases hu with rfl|rfl|rfl|rfl|rfl|rfl|rfl|rfl
    all_goals rfl) yin yie hB
 refine⟨v',w',hr,?_,h5,h6⟩;unfold Bts;rw[←zu0]
 simpa [zpz] using h4
theorem zsn {w:World} {ops:Array Oper} {rest:List Oper} {o:Oper} {a:Act} {Q:Exit->Act->World->Prop} (hgd:o.guard=none) (s x:Operand)
 (ho:o.op = .call {callee := .builtin .append,args:=#[s,x],argTypes:=#[24,24]})
 {B:Nat} {v:Value} {l:List Nat} (hs:a.eval s=v) (h:Bts w B v l) (hB:B<=w.heap.size) (hl:l.length<=10000000) (y:Nat)
 (ad:Addr) (c:Nat) (hx:a.eval x = .slice (some ad) 8 c) (hc:∀ (j:Nat) u,(zd0 (le8 y))[j]?=some u->w.cell? (ad.add j)=some u)
 (hk:∀ v' w',Bts w' B v' (l++le8 y)->w.grownBy w' v.ownBlock->(v'.ownBlock=v.ownBlock∨v'.ownBlock=some w.heap.size)->wpList Tryd.prog ops Q rest (a.put o.dst v') w'):wpList Tryd.prog ops Q (o::rest) a w:=by
 obtain⟨v',w',hr,h2,h3,h4⟩:=zzz h hB hl y o.type ad c hc;refine wpList_plain hgd fun _ hK=>?_
 unfold Oper.wp execOp;simp only[ho,resolve,invoke,builtin,Sem.run_bind,Sem.run_pure,Result.andThen_ok,ygz,ygo,yh0,hs,hx,hr];exact hK _ _ (hk v' w' h2 h3 h4)
theorem ycr (w:World) (x:Nat) (A:Array Value) (hA:A.toList=zd0 (le8 x)):∀ (j:Nat) u,(zd0 (le8 x))[j]?=some u->(w.alloc (.cells A 5)).cell? ((⟨w.heap.size,0,none⟩:Addr).add j)=some u:=by
 intro j u hu;rw[Addr.add_lit,yg5,cell_of_row _ _ j _ 5 (0,0) (heap_alloc_new w _)];rw[←hA] at hu
 simpa using hu
theorem yak {w:World} {B:Nat} {v:Value} {l:List Nat} (h:Bts w B v l) (hB:B<=w.heap.size) (hl:l.length<=10000000) (x:Nat) (hx:x<2 ^ 64):
 Calls Tryd.prog 59 #[v,.int .u64 (x:Int)] w fun e w'=>∃ v',e = .returned v'∧Bts w' B v' (l++le8 x)∧Kept (fun b=>v.ownBlock=some b) w w'∧∀ b,v'.ownBlock=some b->v.ownBlock=some b∨w.heap.size<=b:=by
 obtain⟨A,c,rfl⟩:=h.form;have H:=Zh h;clear h;have hx2:(x:Int)<18446744073709551616:=yie;go_enter Tryd.func59,Tryd.ntmps59;go_wp2_with (first
  | (at_builtin;refine zsn yik _ _ yik yik (H.o.stays ((yf6 _ _).alloc (yez _) _)) yil hl x ⟨w.heap.size,0,none⟩ 8 yik (ycr w x _ (by rw[ztz])) ?_;intro v6 w6 i6 g6 o6;have I6:=Zh i6;have G6:=Zh g6;have O6:=Zh o6;clear i6 g6 o6)
  | fail)
 go_ret;refine⟨_,rfl,I6.o,((Kept.refl _ _).alloc _).grown G6.o (fun b e => .inl e),fun b e=>?_⟩;have e6:v6.ownBlock=some b:=e;rcases O6.o with h|h
 .exact .inl (h.symm.trans e6)
 .rw[e6] at h;injection h with h
  rw[yfe] at h;exact .inr yie
theorem zp1 {wr w1 w5:World} {B o:Nat} {v u:Value} {l:List Nat} (h:w1.cell? ⟨wr.heap.size,o,none⟩=some u) (hv:Bts wr B v l) (ha:Below wr.heap.size wr w1) (hs:w1.heap.size=wr.heap.size+1) (hk:Kept (fun b=>v.ownBlock=some b) w1.drew w5):w5.cell? ⟨wr.heap.size,o,none⟩=some u:=by
 refine (yfp (w:=w1) ?_).trans h;refine hk.block wr.heap.size yil fun e=>?_
 have:=(yf5 hv _ e).2;omega
theorem ydq {w:World} {D:Nat} {va:Value} {st:List (Nat×Nat)} (ha:Wds w D va st) (hl:st.length<=100000) (hst:∀ x∈st,x.1<2 ^ 63∧x.2<2 ^ 64):
 Calls Tryd.prog 41 #[va] w fun e w'=>∃ v',e = .returned v'∧Bts w' w.heap.size v' (keyB st)∧Below w.heap.size w w':=by
 obtain⟨A,c,rfl⟩:=ha.form;have HA:=Zh ha;have HS:=Zh hst;obtain⟨L,hL⟩:∃ L,st.length=L:=⟨_,rfl⟩;rw[hL] at HA hl ⊢;have HL:=Zh hL;clear ha hst hL;obtain⟨i0,hi,hi0,hi1,hi2⟩:=info_parts Tryd.infoByteE;have hmk:=run_make (P:=Tryd.prog) (w:=w) 24 5 i0 _ Tryd.underlying24 hi hi0 .i64 .i64 0 (16*(L:Int)) yie yie (by rw[hi2];omega) yie;rw[hi1,show (16*(L:Int)).toNat=16*L by omega,show (0:Int).toNat=0 by rfl] at hmk;obtain⟨M,hM⟩:∃ M,madeCells (Value.int .u8 0).cells (16*L*1)=M:=⟨_,rfl⟩;have hMs:M.size=16*L:=(by rw[←hM];simp[madeCells]);rw[hM] at hmk;have hb0:Bts (w.alloc (.cells M 5)) w.heap.size (.slice (some ⟨w.heap.size,0,none⟩) 0 (16*L)) []:=
  ⟨rfl,.inr ⟨w.heap.size,16*L,M,rfl,yez _,heap_alloc_new w _,yf8 _,by unfold maxLen;omega,by omega,by simp[zd0]⟩⟩
 have hba:Below w.heap.size w (w.alloc (.cells M 5)):=(yf6 _ _).alloc (yez _) _;generalize w.alloc (.cells M 5)=wm at hmk hb0 hba;have HB0:=Zh hb0;have HBA:=Zh hba;clear hb0 hba hM hMs;go_enter Tryd.func41,Tryd.ntmps41;go_wp2;go_loopg [3,12] L (fun m v i wz=>∃ k:Nat,i = .int .i64 (k:Int)∧k<=L∧m=L-k∧Bts wz w.heap.size v (keyB (st.take k))∧Below w.heap.size w wz)
 case atStart=>exact⟨0,by first | rfl | trivial,yf8 _,rfl,by simpa [keyB] using HB0.o,HBA.o⟩
 case round =>
  obtain⟨k,rfl,hk,hmk,hbt,hbl⟩:=hrel;have HMK:=Zh hmk;have HBT:=Zh hbt;have HBL:=Zh hbl;have hsz:=hbl.size;clear hmk hbt hbl
  by_cases hkL:k<L
  .have hks:k<st.length:=(by rw[HL.o];exact hkL);obtain⟨x,hx⟩:∃ x,st[k]?=some x:=⟨_,yey hks⟩;have hAw:Wds wr D (.slice A L c) st:=HA.o.stays HBL.o;obtain⟨g,cc,e1,_,hg,h0,h1⟩:=hAw.at hx;rw[HL.o] at e1;simp only[Value.slice.injEq] at e1;obtain⟨rfl,-,rfl⟩:=e1;have hgx:st[k]'hks=x:=yiv;obtain⟨x1,x2⟩:=x;have hxb:=HS.o (x1,x2) (by rw[←hgx];exact yfq hks);have htk:keyB (st.take (k+1))=keyB (st.take k)++le8 x1++le8 x2:=by
    rw[yfg hks,hgx,zwh]
   have HTK:=Zh htk;have hll:(keyB (st.take k)).length<=1600000:=by
    rw[zfw,yg8];omega
   have HLL:=Zh hll;have HXB:=Zh hxb;have k0:(0:Int)<=(k:Int):=yie;have k1:(k:Int)<(L:Int):=yie;have x10:(0:Int)<=(x1:Int):=yie;have x11:(x1:Int)<=18446744073709551615:=(by have:=hxb.1;simp only at this;omega);have hal:Below wr.heap.size wr (wr.alloc (.cells #[.int .i64 (x1:Int),.int .u64 (x2:Int)] 124)):=(yf6 _ _).alloc (yez _) _;have n0:(wr.alloc (.cells #[.int .i64 (x1:Int),.int .u64 (x2:Int)] 124)).cell? ⟨wr.heap.size,0,none⟩=some (.int .i64 (x1:Int)):=cell_of_row _ _ 0 _ _ (0,0) (heap_alloc_new wr _);have n1:(wr.alloc (.cells #[.int .i64 (x1:Int),.int .u64 (x2:Int)] 124)).cell? ⟨wr.heap.size,1,none⟩=some (.int .u64 (x2:Int)):=cell_of_row _ _ 1 _ _ (0,0) (heap_alloc_new wr _);have HAL:=Zh hal;have HN1:=Zh n1;have hs1:(wr.alloc (.cells #[.int .i64 (x1:Int),.int .u64 (x2:Int)] 124)).heap.size=wr.heap.size+1:=yii;simp only at h0 h1;clear hAw htk hgx hx hks hxb hll;have HK1:=Zh (fun (W:World) (hb:Below wr.heap.size wr W)=>yak (HBT.o.stays hb) (by have:=hb.size;omega) (by have:=HLL.o;omega) x1 (by have:=HXB.o.1;simp only at this;omega));have hgv:=hg;go_upto_region 5 with fail
   have HK2:=Zh (fun (W:World) (v5:Value) (b5:Bts W w.heap.size v5 (keyB (st.take k)++le8 x1)) (hW:wr.heap.size<=W.heap.size)=>yak (x:=x2) b5 yie (by rw[yfd,zpz];have:=HLL.o;omega) (by have:=HXB.o.2;simpa using this));clear hal;have hwr:IntKind.u64.wrap (x1:Int)=(x1:Int):=zdc x10 x11;go_region_law (first
    | (go_simp;go_at_call 59;((with_reducible refine (HK1.o _ (by (repeat' (first | (with_reducible exact HAL.o) | (with_reducible refine Below.drew ?_)));done)).mono ?_);rintro e w5 ⟨v5,rfl,b5,k5,o5⟩;have n0':=zp1 n0 HBT.o HAL.o hs1 k5;have n1':=zp1 n1 HBT.o HAL.o hs1 k5;have B5:=Zh b5;have K5:=Zh k5;have O5:=Zh o5;have hsz5:=k5.size;clear b5 k5 o5))
    | (go_simp;go_at_call 59;((with_reducible refine (HK2.o w5 v5 B5.o (by simp at hsz5 ⊢;omega)).mono ?_);rintro e w6 ⟨v6,rfl,b6,k6,o6⟩;have B6:=Zh b6;have K6:=Zh k6;have O6:=Zh o6;clear b6 k6 o6))
    | fail)
   all_goals
    have hb1:=(HBL.o.alloc hsz (.cells #[.int .i64 (x1:Int),.int .u64 (x2:Int)] 124)).drew;have hb5:=hb1.trans (K5.o.below yil (fun b e=>(yf5 HBT.o b e).1));have hb6:=hb5.trans (K6.o.below (by simp at hsz5;omega) (fun b e=>(yf5 B5.o b e).1));have HB6:=Zh hb6;clear hb1 hb5 hb6 hwr;go_wp2;go_roundg (L-(k+1))
    case measure=>have:=HMK.o;omega
    case rel=>exact⟨k+1,by go_num,by omega,rfl,by rw[HTK.o];exact B6.o,HB6.o⟩
  .have hkl:k=st.length:=yj2;have hb:=HBT.o;rw[hkl,yfy] at hb;have HB:=Zh hb;clear hb HBT;go_wp2;go_ret;exact⟨_,rfl,HB.o,HBL.o⟩
end
end Go.Proofs.YtipfgpfplakhiaaDoor
