import Derived.Test.YtipfgpfplakhiaaTc5
import Derived.Lib.BufferMore
import Derived.Maps.OwnSet
import Derived.StringKeys
import Derived.Deep.RegionHeld
set_option linter.unusedVariables false
set_option linter.unusedSimpArgs false
set_option maxRecDepth 20000
set_option maxHeartbeats 4000000
namespace Go.Proofs.Ytipfgpfplakhiaa
open Go Go.RowKit
section
attribute [local go_sem ↓] Go.wp_at_zero Go.wp_at_succ
theorem Try.infoByteE:(Try.prog.info? 5).map (fun i=>(i.zero,i.size,i.bytes))=some (some (.int .u8 0),1,1):=by kernel_rfl
def lastB (F:Nat->Nat):Nat->Nat->Nat
 | 0,_=>0
 | k+1,c=>if F k=c then k else lastB F k c
theorem zry (F:Nat->Nat):∀ k c,lastB F k c<=k
 | 0,c=>ygo _
 | k+1,c=>by
  unfold lastB;split
  .omega
  .have:=zry F k c;omega
theorem zrz (F:Nat->Nat):∀ k c b,b<k->F b=c->F (lastB F k c)=c
 | 0,c,b,hb,h=>by omega
 | k+1,c,b,hb,h=>by
  unfold lastB;split
  .assumption
  .rename_i hn;exact zrz F k c b (by
    rcases yik b k with h1|h1
    .exact h1
    .exact absurd (show F k=c by rw[show k=b by omega];exact h) hn) h
def zkm (n:Nat) (f:Nat->Nat):List Value:=(List.range n).map fun c=>Value.int .u8 (f c:Int)
theorem zfx (n:Nat) (f:Nat->Nat) (c:Nat) (h:c<n):(zkm n f)[c]?=some (.int .u8 (f c:Int)):=by simp[zkm,h]
theorem zy4 (n:Nat) (F:Nat->Nat) (k:Nat) (h:F k<n):(zkm n (lastB F k)).set (F k) (.int .u8 (k:Int))=zkm n (lastB F (k+1)):=by
 apply yil;intro i;rw[yim]
 by_cases hi:i<n
 .by_cases e:F k=i
  .subst e;simp[zkm,hi,lastB]
  .have h2:lastB F (k+1) i=lastB F k i:=(by simp[lastB,e]);rw[if_neg e,zfx n _ i hi,zfx n _ i hi,h2]
 .by_cases e:F k=i
  .omega
  .rw[if_neg e];simp[zkm,hi]
theorem zq9 {w:World} {B C e size n:Nat} {v:Value} {xs:List Value} (h:w.ownsRow B e size v n xs) (hb:C<=B):w.ownsRow C e size v n xs:=by
 refine⟨h.1,?_⟩;rcases h.2 with h|⟨g,cap,cur,e,hB,r⟩
 .exact .inl h
 .exact .inr ⟨g,cap,cur,e,ygw hb hB,r⟩
theorem ydp {w:World} (F:Nat->Nat) (n:Nat) (hn:n<=100000) (hF:∀ b,b<256->F b<n):
 Calls Try.prog 35 #[.agg (arrV 256 F),.int .i64 (n:Int)] w fun e w'=>∃ g,e = .returned (.slice (some ⟨g,0,none⟩) n n)∧w'.ownsRow w.heap.size 5 1 (.slice (some ⟨g,0,none⟩) n n) n (zkm n (lastB F 256))∧Below w.heap.size w w':=by
 obtain⟨i0,hi,hi0,hi1,hi2⟩:=info_parts Try.infoByteE;have hbx:=BoxN.new w 34 256 F;have hba:Below w.heap.size w (w.alloc (.cells (arrV 256 F) 34)):=(ygr _ _).alloc (ygo _) _;generalize hw1:w.alloc (.cells (arrV 256 F) 34)=w1 at hbx hba;have hs1:w1.heap.size=w.heap.size+1:=ylm;obtain⟨wm,hmk,hown,hgm⟩:=run_make_full (P:=Try.prog) w1 w1.heap.size 24 5 i0 _ 1 Try.underlying24 hi hi0 hi1 .i64 .i64 n (by rw[hi2];omega) yka (ygo _);have hbm:Below w1.heap.size w1 wm:=(ygr _ _).grown hgm (ygo _) fun q e=>by cases e
 have hu0:wm.ownsRow w1.heap.size 5 1 (.slice (some ⟨w1.heap.size,0,none⟩) n n) n (zkm n (lastB F 0)):=by
  have e:(madeCells (Value.int .u8 0).cells (n*1)).toList=zkm n (lastB F 0):=by
   rw[yib];rw[show (madeCells (Value.int .u8 0).cells n).toList=List.replicate n (Value.int .u8 0) from toList_madeCells_one _ n];apply yil;intro j
   by_cases hj:j<n
   .rw[zfx n _ j hj];simp[hj,lastB]
   .simp[zkm,hj]
  rw[←e];exact hown
 have hbx':=hbx.stays hbm;rw[hs1] at hu0;have HU0:=Zh hu0;have HBA:=Zh hba;have HBM:=Zh hbm;have hnpos:w.heap.size+1<wm.heap.size:=(ygs hu0 _ rfl).2;clear hown hgm hbm hu0 hba hbx;go_enter Try.func35,Try.ntmps35;go_wp2_with (first
  | (refine zbj (g:=w.heap.size) (F:=F) rfl hbx' ?_;go_simp)
  | (rw[hw1];go_simp))
 go_loopg [11] 256 (fun m i wz=>∃ k:Nat,i = .int .i64 (k:Int)∧k<=256∧m=256-k∧wz.ownsRow (w.heap.size+1) 5 1 (.slice (some ⟨w.heap.size+1,0,none⟩) n n) n (zkm n (lastB F k))∧Below (w.heap.size+1) wm wz)
 case atStart=>exact⟨0,rfl,ygy _,rfl,HU0.o,ygr _ _⟩
 case round =>
  obtain⟨k,rfl,hk,hmk,hu,hbl⟩:=hrel;have HMK:=Zh hmk;have HU:=Zh hu;have HBL:=Zh hbl;clear hmk hu hbl;have hrs:=(ygs HU.o _ rfl).2
  by_cases hkP:k<256
  .have hFk:=hF k hkP;have hix:=zs5 (F:=F) wr k hkP;have hst:=zy4 n F k hFk;obtain⟨f,hf⟩:∃ f,F k=f:=⟨_,rfl⟩;rw[hf] at hix hFk hst;have HST:=Zh hst;have hcell:wr.cell? ⟨w.heap.size+1,f,none⟩=some (.int .u8 (lastB F k f:Nat)):=by
    rw[ygt HU.o f yjz];exact zfx n _ f hFk
   have hfz:wr.frozen? ⟨w.heap.size+1,f,none⟩=false:=yhh HU.o f;have k0:(0:Int)<=(k:Int):=yjz;have k1:(k:Int)<256:=yjz;have k2:(k:Int)<=255:=yjz;have f0:(0:Int)<=(f:Int):=yjz;have f1:(f:Int)<(n:Int):=yjz;clear hst hf;go_wp2;go_roundg (256-(k+1))
   case measure=>have:=HMK.o;omega
   case rel =>
    have h:=(yhk HU.o f (.int .u8 (k:Int))).1;rw[HST.o] at h;exact⟨k+1,by go_num,by omega,rfl,h,HBL.o.setCell (ygo _) _⟩
  .have hkn:k=256:=yjz;go_wp2;go_ret;have h:=zq9 HU.o (C:=w.heap.size) yjz;rw[hkn] at h;exact⟨w.heap.size+1,rfl,h,(HBA.o.trans (HBM.o.mono yjz)).trans (HBL.o.mono yjz)⟩
end
section
attribute [local go_sem ↓] Go.wp_at_zero Go.wp_at_succ
def le8 (x:Nat):List Nat:=[x % 256,x / 256 % 256,x / 65536 % 256,x / 16777216 % 256,x / 4294967296 % 256,x / 1099511627776 % 256,x / 281474976710656 % 256,x / 72057594037927936]
theorem zwz {x y:Nat} (hx:x<2 ^ 64) (hy:y<2 ^ 64) (h:le8 x=le8 y):x=y:=by
 simp only[le8,List.cons.injEq,and_true] at h;obtain⟨h0,h1,h2,h3,h4,h5,h6,h7⟩:=h;omega
theorem zqg (x:Nat):(le8 x).length=8:=rfl
def keyB (l:List (Nat×Nat)):List Nat:=l.flatMap fun x=>le8 x.1++le8 x.2
theorem zgc (l:List (Nat×Nat)):(keyB l).length=l.length*16:=by
 induction l with
 | nil=>rfl
 | cons p l ih=>simp only[keyB,yjo,ygu,zqg,yi8] at ih ⊢;omega
theorem zxd (l:List (Nat×Nat)) (x:Nat×Nat):keyB (l++[x])=keyB l++le8 x.1++le8 x.2:=by simp[keyB]
theorem zs1:∀ (l k:List (Nat×Nat)),(∀ x∈l,x.1<2 ^ 64∧x.2<2 ^ 64)->(∀ x∈k,x.1<2 ^ 64∧x.2<2 ^ 64)->keyB l=keyB k->l=k
 | [],[],_,_,_=>rfl
 | [],y::k,_,_,h=>by
  have:=congrArg List.length h;rw[zgc,zgc] at this;simp at this
 | x::l,[],_,_,h=>by
  have:=congrArg List.length h;rw[zgc,zgc] at this;simp at this
 | x::l,y::k,hl,hk,h=>by
  have e:∀ (x:Nat×Nat) l,keyB (x::l)=le8 x.1++(le8 x.2++keyB l):=fun x l=>by simp[keyB]
  rw[e,e] at h;have h1:=List.append_inj h rfl;have h2:=List.append_inj h1.2 rfl;have hx:=hl x yhr;have hy:=hk y yhr;have e1:=zwz hx.1 hy.1 h1.1;have e2:=zwz hx.2 hy.2 h2.1;rw[show x=y from Prod.ext e1 e2,zs1 l k (fun z hz=>hl z (yhi _ hz)) (fun z hz=>hk z (yhi _ hz)) h2.2]
theorem zxe (l:List (Nat×Nat)) (hl:∀ x∈l,x.1<2 ^ 64∧x.2<2 ^ 64):∀ b∈keyB l,b<256:=by
 intro b hb;simp only[keyB,le8,List.mem_flatMap,yh7,yh4,yh5,or_false] at hb;obtain⟨x,hx,h⟩:=hb;have:=hl x hx;rcases h with h|h <;> (rcases h with h|h|h|h|h|h|h|h <;> omega)
def zdk (l:List Nat):List Value:=l.map fun (b:Nat)=>Value.int .u8 (b:Int)
def Bts (w:World) (B:Nat) (v:Value) (l:List Nat):Prop:=w.ownsRow B 5 1 v l.length (zdk l)
theorem Bts.stays {w w':World} {B:Nat} {v:Value} {l:List Nat} (h:Bts w B v l) (hb:Below w.heap.size w w'):Bts w' B v l:=za7 h fun b e _=>hb.block b (ygs h b e).2
theorem Bts.form {w:World} {B:Nat} {v:Value} {l:List Nat} (h:Bts w B v l):∃ A c,v = .slice A l.length c:=zaf h
theorem zuk (l k:List Nat):zdk l++zdk k=zdk (l++k):=by simp[zdk]
theorem zuj (x:Nat):zdk (le8 x)=[.int .u8 ((x:Int) % 256),.int .u8 ((x:Int) / 256 % 256),.int .u8 ((x:Int) / 65536 % 256),.int .u8 ((x:Int) / 16777216 % 256),.int .u8 ((x:Int) / 4294967296 % 256),.int .u8 ((x:Int) / 1099511627776 % 256),.int .u8 ((x:Int) / 281474976710656 % 256),.int .u8 ((x:Int) / 72057594037927936)]:=by
 simp[zdk,le8]
theorem yby {w:World} {B:Nat} {v:Value} {l:List Nat} (h:Bts w B v l) (hB:B<=w.heap.size) (hl:l.length<=10000000) (x:Nat) (ty:TypeId) (ad:Addr) (c:Nat)
 (hc:∀ (j:Nat) u,(zdk (le8 x))[j]?=some u->w.cell? (ad.add j)=some u):
 ∃ v' w',(Builtin.append_ #[24,24] ty #[v,.slice (some ad) 8 c]).run Try.prog w = .ok v' w'∧Bts w' B v' (l++le8 x)∧w.grownBy w' v.ownBlock∧(v'.ownBlock=v.ownBlock∨v'.ownBlock=some w.heap.size):=by
 obtain⟨i0,hi,hz0,hz1,hz2⟩:=info_parts Try.infoByteE;obtain⟨v',w',hr,h4,h5,_,h6⟩:=run_append_own_at (P:=Try.prog) w B 24 ty 5 i0 _ 1 1 Try.underlying24 hi hz0 hz1 hz2 rfl yk6 v l.length (zdk l) h ad 8 c (zdk (le8 x)) yk5 hc
  (by
    intro u hu;simp[zdk,le8] at hu;rcases hu with rfl|rfl|rfl|rfl|rfl|rfl|rfl|rfl
    all_goals rfl) yka yjz hB
 refine⟨v',w',hr,?_,h5,h6⟩;unfold Bts;rw[←zuk]
 simpa [zqg] using h4
theorem zt4 {w:World} {ops:Array Oper} {rest:List Oper} {o:Oper} {a:Act} {Q:Exit->Act->World->Prop} (hgd:o.guard=none) (s x:Operand)
 (ho:o.op = .call {callee := .builtin .append,args:=#[s,x],argTypes:=#[24,24]})
 {B:Nat} {v:Value} {l:List Nat} (hs:a.eval s=v) (h:Bts w B v l) (hB:B<=w.heap.size) (hl:l.length<=10000000) (y:Nat)
 (ad:Addr) (c:Nat) (hx:a.eval x = .slice (some ad) 8 c) (hc:∀ (j:Nat) u,(zdk (le8 y))[j]?=some u->w.cell? (ad.add j)=some u)
 (hk:∀ v' w',Bts w' B v' (l++le8 y)->w.grownBy w' v.ownBlock->(v'.ownBlock=v.ownBlock∨v'.ownBlock=some w.heap.size)->wpList Try.prog ops Q rest (a.put o.dst v') w'):wpList Try.prog ops Q (o::rest) a w:=by
 obtain⟨v',w',hr,h2,h3,h4⟩:=yby h hB hl y o.type ad c hc;refine wpList_plain hgd fun _ hK=>?_
 unfold Oper.wp execOp;simp only[ho,resolve,invoke,builtin,Sem.run_bind,Sem.run_pure,Result.andThen_ok,yi4,yhw,yia,hs,hx,hr];exact hK _ _ (hk v' w' h2 h3 h4)
theorem yef (w:World) (x:Nat) (A:Array Value) (hA:A.toList=zdk (le8 x)):∀ (j:Nat) u,(zdk (le8 x))[j]?=some u->(w.alloc (.cells A 5)).cell? ((⟨w.heap.size,0,none⟩:Addr).add j)=some u:=by
 intro j u hu;rw[Addr.add_lit,yhm,cell_of_row _ _ j _ 5 (0,0) (heap_alloc_new w _)];rw[←hA] at hu
 simpa using hu
theorem ycm {w:World} {B:Nat} {v:Value} {l:List Nat} (h:Bts w B v l) (hB:B<=w.heap.size) (hl:l.length<=10000000) (x:Nat) (hx:x<2 ^ 64):
 Calls Try.prog 75 #[v,.int .u64 (x:Int)] w fun e w'=>∃ v',e = .returned v'∧Bts w' B v' (l++le8 x)∧Kept (fun b=>v.ownBlock=some b) w w'∧∀ b,v'.ownBlock=some b->v.ownBlock=some b∨w.heap.size<=b:=by
 obtain⟨A,c,rfl⟩:=h.form;have H:=Zh h;clear h;have hx2:(x:Int)<18446744073709551616:=yjz;go_enter Try.func75,Try.ntmps75;go_wp2_with (first
  | (at_builtin;refine zt4 yk5 _ _ yk5 yk5 (H.o.stays ((ygr _ _).alloc (ygo _) _)) yk8 hl x ⟨w.heap.size,0,none⟩ 8 yk5 (yef w x _ (by rw[zuj])) ?_;intro v6 w6 i6 g6 o6;have I6:=Zh i6;have G6:=Zh g6;have O6:=Zh o6;clear i6 g6 o6)
  | fail)
 go_ret;refine⟨_,rfl,I6.o,((Kept.refl _ _).alloc _).grown G6.o (fun b e => .inl e),fun b e=>?_⟩;have e6:v6.ownBlock=some b:=e;rcases O6.o with h|h
 .exact .inl (h.symm.trans e6)
 .rw[e6] at h;injection h with h
  rw[yh0] at h;exact .inr yjz
theorem zpg {wr w1 w5:World} {B o:Nat} {v u:Value} {l:List Nat} (h:w1.cell? ⟨wr.heap.size,o,none⟩=some u) (hv:Bts wr B v l) (ha:Below wr.heap.size wr w1) (hs:w1.heap.size=wr.heap.size+1) (hk:Kept (fun b=>v.ownBlock=some b) w1.drew w5):w5.cell? ⟨wr.heap.size,o,none⟩=some u:=by
 refine (yhs (w:=w1) ?_).trans h;refine hk.block wr.heap.size yk8 fun e=>?_
 have:=(ygs hv _ e).2;omega
theorem yfa {w:World} {D:Nat} {va:Value} {st:List (Nat×Nat)} (ha:Wds w D va st) (hl:st.length<=100000) (hst:∀ x∈st,x.1<2 ^ 63∧x.2<2 ^ 64):
 Calls Try.prog 59 #[va] w fun e w'=>∃ v',e = .returned v'∧Bts w' w.heap.size v' (keyB st)∧Below w.heap.size w w':=by
 obtain⟨A,c,rfl⟩:=ha.form;have HA:=Zh ha;have HS:=Zh hst;obtain⟨L,hL⟩:∃ L,st.length=L:=⟨_,rfl⟩;rw[hL] at HA hl ⊢;have HL:=Zh hL;clear ha hst hL;obtain⟨i0,hi,hi0,hi1,hi2⟩:=info_parts Try.infoByteE;have hmk:=run_make (P:=Try.prog) (w:=w) 24 5 i0 _ Try.underlying24 hi hi0 .i64 .i64 0 (16*(L:Int)) yjz yjz (by rw[hi2];omega) yjz;rw[hi1,show (16*(L:Int)).toNat=16*L by omega,show (0:Int).toNat=0 by rfl] at hmk;obtain⟨M,hM⟩:∃ M,madeCells (Value.int .u8 0).cells (16*L*1)=M:=⟨_,rfl⟩;have hMs:M.size=16*L:=(by rw[←hM];simp[madeCells]);rw[hM] at hmk;have hb0:Bts (w.alloc (.cells M 5)) w.heap.size (.slice (some ⟨w.heap.size,0,none⟩) 0 (16*L)) []:=
  ⟨rfl,.inr ⟨w.heap.size,16*L,M,rfl,ygo _,heap_alloc_new w _,ygy _,by unfold maxLen;omega,by omega,by simp[zdk]⟩⟩
 have hba:Below w.heap.size w (w.alloc (.cells M 5)):=(ygr _ _).alloc (ygo _) _;generalize w.alloc (.cells M 5)=wm at hmk hb0 hba;have HB0:=Zh hb0;have HBA:=Zh hba;clear hb0 hba hM hMs;go_enter Try.func59,Try.ntmps59;go_wp2;go_loopg [3,12] L (fun m v i wz=>∃ k:Nat,i = .int .i64 (k:Int)∧k<=L∧m=L-k∧Bts wz w.heap.size v (keyB (st.take k))∧Below w.heap.size w wz)
 case atStart=>exact⟨0,by first | rfl | trivial,ygy _,rfl,by simpa [keyB] using HB0.o,HBA.o⟩
 case round =>
  obtain⟨k,rfl,hk,hmk,hbt,hbl⟩:=hrel;have HMK:=Zh hmk;have HBT:=Zh hbt;have HBL:=Zh hbl;have hsz:=hbl.size;clear hmk hbt hbl
  by_cases hkL:k<L
  .have hks:k<st.length:=(by rw[HL.o];exact hkL);obtain⟨x,hx⟩:∃ x,st[k]?=some x:=⟨_,ygn hks⟩;have hAw:Wds wr D (.slice A L c) st:=HA.o.stays HBL.o;obtain⟨g,cc,e1,_,hg,h0,h1⟩:=hAw.at hx;rw[HL.o] at e1;simp only[Value.slice.injEq] at e1;obtain⟨rfl,-,rfl⟩:=e1;have hgx:st[k]'hks=x:=ykj;obtain⟨x1,x2⟩:=x;have hxb:=HS.o (x1,x2) (by rw[←hgx];exact yhb hks);have htk:keyB (st.take (k+1))=keyB (st.take k)++le8 x1++le8 x2:=by
    rw[yh2 hks,hgx,zxd]
   have HTK:=Zh htk;have hll:(keyB (st.take k)).length<=1600000:=by
    rw[zgc,yi9];omega
   have HLL:=Zh hll;have HXB:=Zh hxb;have k0:(0:Int)<=(k:Int):=yjz;have k1:(k:Int)<(L:Int):=yjz;have x10:(0:Int)<=(x1:Int):=yjz;have x11:(x1:Int)<=18446744073709551615:=(by have:=hxb.1;simp only at this;omega);have hal:Below wr.heap.size wr (wr.alloc (.cells #[.int .i64 (x1:Int),.int .u64 (x2:Int)] 152)):=(ygr _ _).alloc (ygo _) _;have n0:(wr.alloc (.cells #[.int .i64 (x1:Int),.int .u64 (x2:Int)] 152)).cell? ⟨wr.heap.size,0,none⟩=some (.int .i64 (x1:Int)):=cell_of_row _ _ 0 _ _ (0,0) (heap_alloc_new wr _);have n1:(wr.alloc (.cells #[.int .i64 (x1:Int),.int .u64 (x2:Int)] 152)).cell? ⟨wr.heap.size,1,none⟩=some (.int .u64 (x2:Int)):=cell_of_row _ _ 1 _ _ (0,0) (heap_alloc_new wr _);have HAL:=Zh hal;have HN1:=Zh n1;have hs1:(wr.alloc (.cells #[.int .i64 (x1:Int),.int .u64 (x2:Int)] 152)).heap.size=wr.heap.size+1:=yk3;simp only at h0 h1;clear hAw htk hgx hx hks hxb hll;have HK1:=Zh (fun (W:World) (hb:Below wr.heap.size wr W)=>ycm (HBT.o.stays hb) (by have:=hb.size;omega) (by have:=HLL.o;omega) x1 (by have:=HXB.o.1;simp only at this;omega));have hgv:=hg;go_upto_region 5 with fail
   have HK2:=Zh (fun (W:World) (v5:Value) (b5:Bts W w.heap.size v5 (keyB (st.take k)++le8 x1)) (hW:wr.heap.size<=W.heap.size)=>ycm (x:=x2) b5 yjz (by rw[ygu,zqg];have:=HLL.o;omega) (by have:=HXB.o.2;simpa using this));clear hal;have hwr:IntKind.u64.wrap (x1:Int)=(x1:Int):=zf0 x10 x11;go_region_law (first
    | (go_simp;go_at_call 75;((with_reducible refine (HK1.o _ (by (repeat' (first | (with_reducible exact HAL.o) | (with_reducible refine Below.drew ?_)));done)).mono ?_);rintro e w5 ⟨v5,rfl,b5,k5,o5⟩;have n0':=zpg n0 HBT.o HAL.o hs1 k5;have n1':=zpg n1 HBT.o HAL.o hs1 k5;have B5:=Zh b5;have K5:=Zh k5;have O5:=Zh o5;have hsz5:=k5.size;clear b5 k5 o5))
    | (go_simp;go_at_call 75;((with_reducible refine (HK2.o w5 v5 B5.o (by simp at hsz5 ⊢;omega)).mono ?_);rintro e w6 ⟨v6,rfl,b6,k6,o6⟩;have B6:=Zh b6;have K6:=Zh k6;have O6:=Zh o6;clear b6 k6 o6))
    | fail)
   all_goals
    have hb1:=(HBL.o.alloc hsz (.cells #[.int .i64 (x1:Int),.int .u64 (x2:Int)] 152)).drew;have hb5:=hb1.trans (K5.o.below yk8 (fun b e=>(ygs HBT.o b e).1));have hb6:=hb5.trans (K6.o.below (by simp at hsz5;omega) (fun b e=>(ygs B5.o b e).1));have HB6:=Zh hb6;clear hb1 hb5 hb6 hwr;go_wp2;go_roundg (L-(k+1))
    case measure=>have:=HMK.o;omega
    case rel=>exact⟨k+1,by go_num,by omega,rfl,by rw[HTK.o];exact B6.o,HB6.o⟩
  .have hkl:k=st.length:=ykq;have hb:=HBT.o;rw[hkl,yhn] at hb;have HB:=Zh hb;clear hb HBT;go_wp2;go_ret;exact⟨_,rfl,HB.o,HBL.o⟩
end
section
attribute [local go_sem ↓] Go.wp_at_zero Go.wp_at_succ
theorem zz9 (l:List (Nat×Nat)):∀ u∈wdsC l,u.oneCell'=true:=by
 intro u hu;simp only[wdsC,List.mem_flatMap,yh4,yh5,or_false] at hu;obtain⟨x,_,rfl|rfl⟩:=hu <;> rfl
theorem zza {w:World} {D:Nat} {v:Value} {l:List (Nat×Nat)} (h:Wds w D v l) (hl:l.length<=100000):
 Calls Try.prog 60 #[v] w fun e w'=>∃ v',e = .returned v'∧Wds w' w.heap.size v' l∧Below w.heap.size w w':=by
 obtain⟨i0,hi,hz0,hz1,hz2⟩:=info_parts Try.infoWords;have h0:=h;rcases h.2 with ⟨rfl,hn⟩|⟨g,cap,cur,rfl,hB,hg,hnc,hcm,hcs,htk⟩
 .have hx:l=[]:=yiw.1 hn;subst hx;have he:=Lib.run_eql_slice_nil_nil (P:=Try.prog) w 0 0 Try.underlying106;clear h h0 hi hz0 hz1 hz2;go_enter Try.func60,Try.ntmps60;go_wp2;go_ret;exact⟨_,rfl,yhd w w.heap.size _ 2,ygr _ _⟩
 .have he:=Lib.run_eql_slice_some_nil (P:=Try.prog) w ⟨g,0,none⟩ l.length cap Try.underlying106;have hown:(w.alloc (.cells #[] 152)).ownsRow w.heap.size 152 2 (.slice (some ⟨w.heap.size,0,none⟩) 0 0) 0 []:=yj7 w #[] 0 (ygo _) yk6 rfl;have hnews:∀ j u,(wdsC l)[j]?=some u->(w.alloc (.cells #[] 152)).cell? ((⟨g,0,none⟩:Addr).add j)=some u:=by
   intro j u hu;have hj:j<l.length*2:=by
    rcases yik j (l.length*2) with h' | h'
    .exact h'
    .rw[yh6 (by rw[zr1];exact h')] at hu;cases hu
   rw[Addr.add_lit,yhm];refine za3 ?_ ((ygr _ _).alloc (ygo _) _);rw[ygt h0 j yjz];exact hu
  obtain⟨L,hL⟩:∃ L,l.length=L:=⟨_,rfl⟩;have HO:=Zh hown;have HN:=Zh hnews;have HL:=Zh hL;rw[hL] at he hl ⊢;clear hown hnews h h0 hL hg hnc hcs htk;go_enter Try.func60,Try.ntmps60;go_wp2_with (at_builtin;refine wpList_append_own _ rfl _ _ 106 rfl w.heap.size 152 i0 _ 2 16 Try.underlying106 hi hz0 hz1 hz2 rfl yk6 _ _ _ rfl HO.o ⟨g,0,none⟩ L cap (wdsC l) rfl (by rw[zr1,HL.o]) HN.o (zz9 l) ?c3 ?c4 ?c5 ?_)
  case c3=>unfold maxLen;omega
  case c4=>omega
  case c5=>simp
  .intro v' w2 hown' hgrow _;have HO2:=Zh hown';have hB2:Below w.heap.size w w2:=((ygr _ _).alloc (ygo _) _).grown hgrow yk3 (fun j e=>((HO.o).lt j e).1);have HB2:=Zh hB2;clear hgrow hown' hB2;go_wp2;go_ret;refine⟨v',rfl,?_,HB2.o⟩;have h2:=HO2.o;rw[←HL.o] at h2;exact h2
abbrev Sta:=List (Nat×Nat)
def okSt (s:Sta):Prop:=∀ x∈s,x.1<2 ^ 63∧x.2<2 ^ 64
def keyI (s:Sta):List Int:=(keyB s).map fun (b:Nat)=>(b:Int)
theorem yb8 (s:Sta):(keyI s).length=s.length*16:=by simp[keyI,zgc]
def keyS (s:Sta):ByteArray:=strOfNums (keyI s)
theorem zoz (s:Sta):(keyS s).size=s.length*16:=by unfold keyS;rw[strOfNums_size,yb8]
def litK (s:Sta):Lit := .string (keyS s).data.toList
theorem yet {a b:Nat} (ha:a<256) (hb:b<256) (h:UInt8.ofNat a=UInt8.ofNat b):a=b:=by
 have:=congrArg UInt8.toNat h
 simpa [UInt8.toNat_ofNat',yjc ha,yjc hb] using this
theorem zlk:∀ (l k:List Nat),(∀ b∈l,b<256)->(∀ b∈k,b<256)->l.map UInt8.ofNat=k.map UInt8.ofNat->l=k
 | [],[],_,_,_=>rfl
 | a::l,b::k,h1,h2,h=>by
  simp only[yhw,List.cons.injEq] at h;have e1:=yet (h1 a yk3) (h2 b yk3) h.1;have e2:=zlk l k (fun x hx=>h1 x (by simp[hx])) (fun x hx=>h2 x (by simp[hx])) h.2;rw[e1,e2]
 | [],_::_,_,_,h=>by simp at h
 | _::_,[],_,_,h=>by simp at h
theorem yb0 {s t:Sta} (hs:okSt s) (ht:okSt t) (h:litK s=litK t):s=t:=by
 unfold litK at h;injection h with h
 unfold keyS at h;rw[strOfNums_data,strOfNums_data] at h;have e:∀ u:Sta,(keyI u).map (fun n=>UInt8.ofNat n.toNat)=(keyB u).map UInt8.ofNat:=fun u=>by simp[keyI,Function.comp_def]
 rw[e,e] at h;have w1:∀ x∈s,x.1<2 ^ 64∧x.2<2 ^ 64:=fun x hx=>⟨by have:=(hs x hx).1;omega,(hs x hx).2⟩
 have w2:∀ x∈t,x.1<2 ^ 64∧x.2<2 ^ 64:=fun x hx=>⟨by have:=(ht x hx).1;omega,(ht x hx).2⟩
 exact zs1 s t w1 w2 (zlk _ _ (zxe s w1) (zxe t w2) h)
structure MapIs (D:DataW Unit) (ss:List Sta):Prop where
 isMap:Maps.IsMap D
 has:∀ s,okSt s->(Maps.has D (litK s)=true↔s∈ss)
 idx:∀ (i:Nat) s,ss[i]?=some s->D.atKey (litK s) (.lit (.int .i64 0)) = .lit (.int .i64 i)
 ok:∀ s∈ss,okSt s
theorem MapIs.nil:MapIs (.map []) []:=⟨⟨[],rfl⟩,fun s _=>by simp[Maps.has_eq],fun i s h=>by simp at h,fun s h=>by simp at h⟩
theorem MapIs.put {D:DataW Unit} {ss:List Sta} (h:MapIs D ss) {s:Sta} (hs:okSt s) (hn:s∉ss):MapIs (D.put (litK s) (.lit (.int .i64 (ss.length:Nat)))) (ss++[s]):=by
 have hk:WideAt.IsKeyLit (litK s):=(by unfold litK;trivial);have hne:∀ t,okSt t->t≠s->litK t≠litK s:=fun t ht e e'=>e (yb0 ht hs e')
 refine⟨h.isMap.put _ _,fun t ht=>?_,fun i t e=>?_,fun t ht=>?_⟩
 .by_cases e:t=s
  .subst e;simp[Maps.has_put_same h.isMap hk]
  .rw[Maps.has_put_other (hne t ht e),h.has t ht];simp[e]
 .by_cases hi:i<ss.length
  .rw[ygv hi] at e;have hm:=yh1 e;rw[Maps.atKey_put_other (hne t (h.ok t hm) fun e'=>hn (e' ▸ hm))];exact h.idx i t e
  .have hi':i=ss.length:=by
    have:=(ygp.1 e).1;simp at this;omega
   subst hi';simp at e;subst e;exact Maps.atKey_put_same h.isMap hk _ _
 .rcases yh7.1 ht with h' | h'
  .exact h.ok t h'
  .rw[yha] at h';exact h' ▸ hs
structure Known (w:World) (K:Nat->Prop) (gs:Nat) (ss:List Sta):Prop where
 mem:∃ va bm vs D,w.heap[gs]?=some (.cells #[va,.map (some bm)] 104 (0,0))∧vs.length=ss.length∧w.ownsRow 0 106 1 va ss.length vs∧(∀ (i:Nat) v s,vs[i]?=some v->ss[i]?=some s->Wds w 0 v s)∧
  w.ownsMap (H:=Unit) Try.prog 9 (plainElem Try.prog 3) bm ss.length D∧MapIs D ss∧K gs∧K bm∧(∀ b,va.ownBlock=some b->K b)∧∀ v∈vs,∀ b,v.ownBlock=some b->K b
 lt:∀ b,K b->b<w.heap.size
 nodup:ss.Nodup
theorem Known.off {w w':World} {K Q:Nat->Prop} {gs:Nat} {ss:List Sta} (h:Known w K gs ss) (hk:Kept Q w w') (hq:∀ b,Q b->¬ K b):Known w' K gs ss:=by
 obtain⟨va,bm,vs,D,h1,h2,h3,h4,h5,h6,k1,k2,k3,k4⟩:=h.mem;have hb:∀ b,K b->w'.heap[b]?=w.heap[b]?:=fun b hb=>hk.block b (h.lt b hb) fun q=>hq b q hb
 refine⟨⟨va,bm,vs,D,(hb gs k1).trans h1,h2,za7 h3 fun b e _=>hb b (k3 b e),fun i v s e1 e2=>(h4 i v s e1 e2).block fun b e _=>hb b (k4 v (yh1 e1) b e),?_,h6,k1,k2,k3,k4⟩,fun b hb'=>yh3 (h.lt b hb') hk.size,h.nodup⟩;obtain⟨es,clock,hm,r⟩:=h5;exact⟨es,clock,(hb bm k2).trans hm,r⟩
end
section
open Go Go.RowKit Go.Maps
attribute [local go_sem ↓] Go.wp_at_zero Go.wp_at_succ
attribute [local go_sem ↓] zh5
def zz1 (w:World) (K:Nat->Prop) (gs:Nat) (ss:List Sta) (st:Sta) (e:Ending) (w':World):Prop:=
 ∃ (i:Nat) (ss':List Sta) (K':Nat->Prop),e = .returned (.int .i64 i)∧ss'[i]?=some st∧(ss'=ss∨(st∉ss∧ss'=ss++[st]))∧Known w' K' gs ss'∧(∀ b,K' b->K b∨w.heap.size<=b)∧Kept K w w'
theorem ycn:Keyed Try.prog 9:=string_keyed Try.underlying9
theorem Try.zeroIntM (w:World):(zeroValue 3).run Try.prog w = .ok (.int .i64 0) w:=by kernel_rfl
theorem Try.infoSlM:(Try.prog.info? 106).map (fun i=>(i.zero,i.size,i.bytes))=some (some (.slice none 0 0),1,24):=by kernel_rfl
theorem ych (x:Int) (h0:0<=x) (h1:x<=100000):(Lit.int .i64 x).wf=true:=by
 have e1:IntKind.i64.min = -9223372036854775808:=yk6;have e2:IntKind.i64.max=9223372036854775807:=by decide
 show (decide (IntKind.i64.min<=x)&&decide (x<=IntKind.i64.max))=true
 rw[e1,e2];simp;omega
theorem yeg {w:World} {B:Nat} {v:Value} {s:Sta} (h:Bts w B v (keyB s)):Bys w B v (keyI s):=by
 unfold Bts at h;unfold Bys;have e:(keyI s).map (Value.int .u8)=zdk (keyB s):=(by simp[keyI,zdk]);rw[e,show (keyI s).length=(keyB s).length by simp[keyI]];exact h
theorem zrt {w:World} {bm n:Nat} {D:DataW Unit} (h:w.ownsMap (H:=Unit) Try.prog 9 (plainElem Try.prog 3) bm n D) {s:Sta} (hs:s.length<=100000) {c:Int} (hc:D.atKey (litK s) (.lit (.int .i64 0)) = .lit (.int .i64 c)):
 (Instr.lookup 101 (.map (some bm)) (.string (keyS s)) true).run Try.prog w = .ok (.tuple #[.int .i64 c,.bool (Maps.has D (litK s))]) w:=by
 obtain⟨v,ps,hrun,hv⟩:=h.look_ok ycn Try.underlying101 (Try.zeroIntM w) (plainElem_int Try.underlying3 (a:=0) yk6) (Go.WideMaps.keyOf_string_mk Try.underlying9 (s:=keyS s) (by rw[zoz];unfold maxLen;omega));obtain⟨a,rfl,h2,_⟩:=plainElem_int_inv Try.underlying3 hv;have h3:D.atKey (litK s) (.lit (.int .i64 0)) = .lit (.int .i64 a):=congrArg Prod.fst h2;rw[hc] at h3;injection h3 with h3
 injection h3 with _ h3
 subst h3;exact hrun
theorem zwk {w:World} {K:Nat->Prop} {gs D0:Nat} {ss:List Sta} {va0:Value} {st:Sta} (hk:Known w K gs ss) (ha:Wds w D0 va0 st) (hap:∀ b,va0.ownBlock=some b->¬ K b) (hst:okSt st) (hl:st.length<=100000) (hn:ss.length<=100000):
 Calls Try.prog 36 #[.pointer (some ⟨gs,0,none⟩),va0] w (zz1 w K gs ss st):=by
 obtain⟨va,bm,vs,D,h1,h2,h3,h4,h5,h6,k1,k2,k3,k4⟩:=hk.mem;have hkey:=yfa ha hl hst;have HKEY:=Zh hkey;obtain⟨As,cs,rfl⟩:=zaf h3;have hA0:=ha;obtain⟨A0,c0,rfl⟩:=ha.form;have hgs:=za1 h1;have hbm:bm<w.heap.size:=h5.lt;have H1:Hid (HasO w gs (.cells #[.slice As ss.length cs,.map (some bm)] 104 (0,0))):=h1;have H3:=Zh h3;have H4:=Zh h4;have H5:=Zh h5;have H6:=Zh h6;have HK:=Zh hk;have HA:=Zh hA0;have HAP:=Zh hap;have HST:=Zh hst;have HVS:=Zh h2;have K3:=Zh k3;have K4:=Zh k4;obtain⟨L,hL⟩:∃ L,st.length=L:=⟨_,rfl⟩;have HL:=Zh hL;obtain⟨S,hS⟩:∃ S,ss.length=S:=⟨_,rfl⟩;have HS:=Zh hS;have hconv:∀ (W:World) (v:Value),Bts W 0 v (keyB st)->(convert 24 9 v).run Try.prog W = .ok (.string (keyS st)) W:=fun W v h=>by
  have hb:=yeg h;obtain⟨A,c,rfl⟩:=hb.form;exact ybw hb
 have HCV:=Zh hconv;clear hkey h1 h2 h3 h4 h5 h6 hk hA0 ha hap hst k3 k4 hconv
 by_cases hin:st∈ss
 .obtain⟨i,hi,hie⟩:=List.mem_iff_getElem.1 hin;have hi?:ss[i]?=some st:=(by rw[←hie];exact ygn hi);have hat:=H6.o.idx i st hi?;have hhas:Maps.has (H:=Unit) D (litK st)=true:=(H6.o.has st HST.o).2 hin;have hlk:∀ W,Below w.heap.size w W->(Instr.lookup 101 (.map (some bm)) (.string (keyS st)) true).run Try.prog W = .ok (.tuple #[.int .i64 (i:Int),.bool true]) W:=fun W hW=>by
   have hm:W.ownsMap (H:=Unit) Try.prog 9 (plainElem Try.prog 3) bm ss.length D:=by
    obtain⟨es,clock,hm,r⟩:=H5.o;exact⟨es,clock,(hW.block bm hbm).trans hm,r⟩
   have:=zrt hm ykq hat;rw[hhas] at this;exact this
  have HLK:=Zh hlk;have HI:=Zh hi?;clear hin hi hie hi? hat hhas hlk;rw[hL];rw[hL] at HKEY;go_enter Try.func36,Try.ntmps36;go_wp2_with (first
   | (go_at_call 59;(with_reducible refine HKEY.o.mono ?_);rintro e w1 ⟨v1,rfl,b1,hb1⟩;have hcv:=fun n=>HCV.o (w1.drewN n) v1 (zb2 (b1.stays (zb5 (ygr _ _) n)) (ygy _));have hlk:=fun n=>HLK.o (w1.drewN n) (zb5 hb1 n);have hm1:∀ n,(w1.drewN n).cell? ⟨gs,1,none⟩=some (.map (some bm)):=(fun n=>cell_of_row _ gs 1 _ _ (0,0) (zb7 H1.o (zb5 hb1 n)));have hm10:=hm1 0;have HB1:=Zh hb1;clear b1 hb1)
   | fail)
  go_quiet (fail);go_wp2;go_ret;exact⟨i,ss,K,rfl,HI.o,.inl rfl,HK.o.off (Kept.of_below (fun _=>False) (zb5 HB1.o nq)) (fun b q=>q.elim),fun b h => .inl h,Kept.of_below K (zb5 HB1.o nq)⟩
 .have hhas:Maps.has (H:=Unit) D (litK st)=false:=by
   cases h:Maps.has (H:=Unit) D (litK st)
   .rfl
   .exact absurd ((H6.o.has st HST.o).1 h) hin
  have hat:D.atKey (litK st) (.lit (.int .i64 0)) = .lit (.int .i64 0):=Maps.atKey_of_not_has hhas _;have hlk:∀ W,Below w.heap.size w W->(Instr.lookup 101 (.map (some bm)) (.string (keyS st)) true).run Try.prog W = .ok (.tuple #[.int .i64 0,.bool false]) W:=fun W hW=>by
   have hm:W.ownsMap (H:=Unit) Try.prog 9 (plainElem Try.prog 3) bm ss.length D:=by
    obtain⟨es,clock,hm,r⟩:=H5.o;exact⟨es,clock,(hW.block bm hbm).trans hm,r⟩
   have:=zrt hm ykq hat;rw[hhas] at this;exact this
  have HLK:=Zh hlk;have HIN:=Zh hin;have hkO:keyOf Try.prog 9 (.string (keyS st))=some (litK st):=Go.WideMaps.keyOf_string_mk Try.underlying9 (by rw[zoz,HL.o];unfold maxLen;omega);have hpe:plainElem (H:=Unit) Try.prog 3 (.int .i64 (S:Int))=some (.lit (.int .i64 (S:Int)),[]):=plainElem_int Try.underlying3 (ych _ yjz yjz);have HKO:=Zh hkO;have HPE:=Zh hpe;have hmu:∀ W,Below w.heap.size w W->W.ownsMap (H:=Unit) Try.prog 9 (plainElem Try.prog 3) bm ss.length D:=fun W hW=>by
   obtain⟨es,clock,hm,r⟩:=H5.o;exact⟨es,clock,(hW.block bm hbm).trans hm,r⟩
  have HMU:=Zh hmu;have hnm:ss.length<maxLen:=yka;have HNM:=Zh hnm;clear hin hat hhas hlk hkO hpe hmu hnm;rw[hL];rw[hL] at HKEY;rw[hS] at H1;go_enter Try.func36,Try.ntmps36;go_wp2_with (first
   | (go_at_call 59;(with_reducible refine HKEY.o.mono ?_);rintro e w1 ⟨v1,rfl,b1,hb1⟩;have hcv:=fun n=>HCV.o (w1.drewN n) v1 (zb2 (b1.stays (zb5 (ygr _ _) n)) (ygy _));have hlk:=fun n=>HLK.o (w1.drewN n) (zb5 hb1 n);have hm1:∀ n,(w1.drewN n).cell? ⟨gs,1,none⟩=some (.map (some bm)):=(fun n=>cell_of_row _ gs 1 _ _ (0,0) (zb7 H1.o (zb5 hb1 n)));have hm10:=hm1 0;have hm00:w1.cell? ⟨gs,0,none⟩=some (.slice As S cs):=(cell_of_row _ gs 0 _ _ (0,0) (zb7 H1.o hb1));have HB1:=Zh hb1;have BT1:=Zh b1;clear b1 hb1)
   | fail)
  go_quiet (fail);go_upto_region 5 with fail
  have hb2:Below w.heap.size w (w1.drewN nq):=zb5 HB1.o nq;have hm2:=hm1 nq;have hm02:(w1.drewN nq).cell? ⟨gs,0,none⟩=some (.slice As S cs):=hm00;have hcvn:∀ n,(convert 24 9 v1).run Try.prog ((w1.drewN nq).drewN n) = .ok (.string (keyS st)) ((w1.drewN nq).drewN n):=fun n=>by rw[World.drewN_drewN];exact hcv (nq+n)
  have hcvd:(convert 24 9 v1).run Try.prog (w1.drewN nq).drew = .ok (.string (keyS st)) (w1.drewN nq).drew:=hcv (nq+1);clear hcv hlk hm1 hm10 hm00;generalize w1.drewN nq=w2 at *;have HB2:=Zh hb2;clear hb2;go_still_tail 7,yk2;change wpList _ _ _ _ _ (World.drew _);go_wp2_with (first
   | (at_mapUpdate;refine wpList_mapUpdate_in _ rfl _ _ _ 101 rfl 9 3 ycn Try.underlying101 _ bm ss.length D rfl (HMU.o _ HB2.o.drew) HNM.o _ _ _ rfl rfl HKO.o _ [] HPE.o ?_;intro w3 o3 t3;have O3:=Zh o3;have T3:=Zh t3;clear o3 t3)
   | fail)
  have hne:gs≠bm:=fun e=>by
   obtain⟨es,clock,hm,_⟩:=H5.o;have h1:=H1.o;unfold HasO at h1;rw[e,hm] at h1;cases h1
  have hk3:Kept (fun b=>b=bm) w w3:=((Kept.of_below (fun b=>b=bm) HB2.o).drew).grown T3.o.grown fun b e => .inl ylh
  have hnc:∀ b cur ty,w.heap[b]?=some (.cells cur ty (0,0))->b≠bm:=fun b cur ty h e=>by
   obtain⟨es,clock,hm,_⟩:=H5.o;rw[e,hm] at h;cases h
  have hb3:w3.heap[gs]?=w.heap[gs]?:=hk3.block gs hgs hne;have H13:Hid (HasO w3 gs (.cells #[.slice As S cs,.map (some bm)] 104 (0,0))):=hb3.trans H1.o;have h33:w3.ownsRow 0 106 1 (.slice As S cs) S vs:=by
   have h:=H3.o;rw[HS.o] at h;exact za7 h fun b e hb=>hk3.block b hb (by obtain⟨cur,hc⟩:=za8 h e;exact hnc b cur _ hc)
  have h43:∀ (i:Nat) v s,vs[i]?=some v->ss[i]?=some s->Wds w3 0 v s:=fun i v s e1 e2=>(H4.o i v s e1 e2).off hk3 fun b e=>by obtain⟨cur,hc⟩:=(H4.o i v s e1 e2).kind e;exact hnc b cur _ hc
  have ha3:Wds w3 D0 (.slice A0 st.length c0) st:=HA.o.off hk3 fun b e q=>HAP.o b e (by subst q;exact k2)
  have hcl:∀ W,Below w3.heap.size w3 W->Calls Try.prog 60 #[.slice A0 L c0] W fun e w'=>∃ A c,e = .returned (.slice A L c)∧Wds w' W.heap.size (.slice A L c) st∧Below w3.heap.size w3 w':=fun W hW=>by
   have h:=zza (ha3.stays hW) ykq;rw[HL.o] at h;refine h.mono fun e w' h'=>?_
   obtain⟨v',e1,e2,e3⟩:=h';obtain⟨A,c,e4⟩:=e2.form;rw[HL.o] at e4;subst e4;exact⟨A,c,e1,e2,gro hW e3⟩
  obtain⟨i0,hi,hz0,hz1,hz2⟩:=info_parts Try.infoSlM;have happ:∀ (W:World) (A5:Option Addr) (c5:Nat),Below w3.heap.size w3 W->∃ A6 c6 w6,App 102 102 (W.alloc (.cells #[.slice A5 L c5] 106)) (.slice As S cs) (.slice (some ⟨W.heap.size,0,none⟩) 1 1)∧
   appV 102 102 (W.alloc (.cells #[.slice A5 L c5] 106)) (.slice As S cs) (.slice (some ⟨W.heap.size,0,none⟩) 1 1) = .slice A6 (S+1) c6∧
   appW 102 102 (W.alloc (.cells #[.slice A5 L c5] 106)) (.slice As S cs) (.slice (some ⟨W.heap.size,0,none⟩) 1 1)=w6∧
   w6.ownsRow 0 106 1 (.slice A6 (S+1) c6) (S+1) (vs++[.slice A5 L c5])∧(W.alloc (.cells #[.slice A5 L c5] 106)).grownBy w6 (Value.slice As S cs).ownBlock∧((Value.slice A6 (S+1) c6).ownBlock=(Value.slice As S cs).ownBlock∨(Value.slice A6 (S+1) c6).ownBlock=some (W.heap.size+1)):=fun W A5 c5 hW=>by
   have hal:Below W.heap.size W (W.alloc (.cells #[.slice A5 L c5] 106)):=(ygr _ _).alloc (ygo _) _;obtain⟨v6,w6,hr,r1,r2,_,r3⟩:=run_append_own_at (P:=Try.prog) (W.alloc (.cells #[.slice A5 L c5] 106)) 0 102 102 106 i0 _ 1 24 Try.underlying102 hi hz0 hz1 hz2 rfl yk6 _ S vs (za6 (za6 h33 hW) hal) ⟨W.heap.size,0,none⟩ 1 1 [.slice A5 L c5] rfl
    (by
      intro j u hu;rw[Addr.add_lit,yhm,cell_of_row _ _ j _ 106 (0,0) (heap_alloc_new W _)]
      simpa using hu)
    (by
      intro u hu;simp at hu;subst hu;rfl) yka yjz (ygy _)
   obtain⟨A6,c6,rfl⟩:=zaf r1;obtain⟨q1,q2,q3⟩:=zhv (ty:=102) hr;exact⟨A6,c6,w6,q1,q2,q3,r1,r2,by simpa using r3⟩
  have x00:w3.cell? ⟨gs,0,none⟩=some (.slice As S cs):=cell_of_row _ gs 0 _ _ (0,0) H13.o;have HCL:=Zh hcl;have HAPP:=Zh happ;have H33:=Zh h33;have H43:=Zh h43;have HKK3:=Zh hk3;have HNE:=Zh hne;have hng:some gs≠(Value.slice As S cs).ownBlock:=fun e=>by
   obtain⟨cur,hc⟩:=za8 H33.o e.symm;exact za0 H13.o hc yk6 rfl
  have HNG:=Zh hng;clear hng;clear hcl happ h33 h43 hk3 hnc hb3 ha3 hi hz0 hz1 hz2 hm2 hm02 hcvn hcvd hne;go_region_law (first
   | (go_simp;go_at_call 60;(with_reducible refine (HCL.o _ (by repeat (first | with_reducible exact ygr _ _ | with_reducible refine Below.drew ?_))).mono ?_);rintro e w5 ⟨A5,c5,rfl,y5,b5⟩;have x05:w5.cell? ⟨gs,0,none⟩=some (.slice As S cs):=cell_of_row _ gs 0 _ _ (0,0) (zb7 H13.o b5);have x05a:=zcj x05 (.cells #[.slice A5 L c5] 106);obtain⟨A6,c6,w6,a1,a2,a3,a4,a5,a6⟩:=HAPP.o w5 A5 c5 b5;have hx6:=zbt a5 (zb3 (.cells #[.slice A5 L c5] 106) (zb7 H13.o b5)) HNG.o;have x06:w6.cell? ⟨gs,0,none⟩=some (.slice As S cs):=cell_of_row _ gs 0 _ _ (0,0) hx6;have f06:w6.frozen? ⟨gs,0,none⟩=false:=frozen_of_row w6 gs 0 _ _ hx6;have HX6:=Zh hx6;have Y5:=Zh y5;have B5:=Zh b5;have R6:=Zh a4;have G6:=Zh a5;have O6:=Zh a6;clear y5 b5 a4 a5 a6 hx6)
   | fail)
  all_goals
   go_wp2;go_ret;obtain⟨w2',hw2'⟩:∃ w2',w6.setCell ⟨gs,0,none⟩ (.slice A6 (S+1) c6)=w2':=⟨_,rfl⟩;rw[hw2'];have kq5:Kept (fun b=>b=gs∨(Value.slice As S cs).ownBlock=some b) w5 w2':=by
    rw[←hw2'];exact (((Kept.refl (fun b=>b=gs∨(Value.slice As S cs).ownBlock=some b) w5).alloc (.cells #[.slice A5 L c5] 106)).grown G6.o fun b e => .inl (.inr e)).setCell (a:=⟨gs,0,none⟩) (.inl (.inl rfl)) _
   have kq3:Kept (fun b=>b=gs∨(Value.slice As S cs).ownBlock=some b) w3 w2':=(Kept.of_below (fun b=>b=gs∨(Value.slice As S cs).ownBlock=some b) B5.o).trans kq5 fun b e => .inl e
   have s5:=B5.o.size;have s3:=HKK3.o.size;have s2:=kq5.size;have s6:w2'.heap.size=w6.heap.size:=(by rw[←hw2'];simp[World.setCell]);have g6s:=G6.o.size;rw[yh0] at g6s;have hnw:∀ (v:Value) (s:Sta),Wds w3 0 v s->Wds w2' 0 v s:=fun v s h=>h.off kq3 fun b e q=>by
    obtain⟨cur,hc⟩:=h.kind e;rcases q with q|q
    .subst q;exact za0 H13.o hc yk6 rfl
    .obtain⟨cur2,hc2⟩:=za8 H33.o q;exact za0 hc2 hc yk6 rfl
   have hy5:Wds w2' 0 (.slice A5 L c5) st:=(Y5.o.low (ygy _)).off kq5 fun b e q=>by
    obtain⟨cur,hc⟩:=Y5.o.kind e;rcases q with q|q
    .subst q;exact za0 (zb7 H13.o B5.o) hc yk6 rfl
    .obtain⟨cur2,hc2⟩:=za8 (za6 H33.o B5.o) q;exact za0 hc2 hc yk6 rfl
   have hr6:w2'.ownsRow 0 106 1 (.slice A6 (S+1) c6) (S+1) (vs++[.slice A5 L c5]):=za7 R6.o fun b e _=>by
    rw[←hw2'];refine ygz _ _ _ _ fun e2=>?_
    have e3:b=gs:=e2;subst e3;obtain⟨cur,hc⟩:=za8 R6.o e;exact za0 HX6.o hc yk6 rfl
   have hbm6:w2'.heap[bm]?=w3.heap[bm]?:=kq3.block bm yjz fun q=>by
    rcases q with q|q
    .exact HNE.o q.symm
    .obtain⟨cur2,hc2⟩:=za8 H33.o q;obtain⟨es,clock,hm,_⟩:=O3.o;rw[hm] at hc2;cases hc2
   have hgs6:w2'.heap[gs]?=some (.cells #[.slice A6 (S+1) c6,.map (some bm)] 104 (0,0)):=by
    rw[←hw2'];have h:=HX6.o;unfold HasO at h;simp[World.setCell,yhy,h]
   have hlt6:=fun b e=>ygs hr6 b e
   refine⟨S,ss++[st],fun b=>K b∨(w.heap.size<=b∧b<w2'.heap.size),rfl,by rw[←HS.o];simp,.inr ⟨HIN.o,rfl⟩,⟨⟨.slice A6 (S+1) c6,bm,vs++[.slice A5 L c5],D.put (litK st) (.lit (.int .i64 (ss.length:Nat))),hgs6,by simp[HVS.o],by rw[ygu,HS.o];exact hr6,fun i v s e1 e2=>?_,?_,H6.o.put HST.o HIN.o,.inl k1,.inl k2,fun b e=>?_,fun v hv b e=>?_⟩,fun b hb=>?_,?_⟩,fun b hb=>hb.imp id fun h=>h.1,?_⟩
   .by_cases hiS:i<ss.length
    .rw[ygv (by rw[HVS.o];exact hiS)] at e1;rw[ygv hiS] at e2;exact hnw v s (H43.o i v s e1 e2)
    .have hi':i=ss.length:=by
      have:=(ygp.1 e2).1;simp at this;omega
     subst hi';rw[ygx (by rw[HVS.o];exact ygo _)] at e1;simp[HVS.o] at e1 e2;subst e1 e2;exact hy5
   .obtain⟨es,clock,hm,r⟩:=O3.o;rw[ygu,HS.o] at *;exact⟨es,clock,hbm6.trans hm,r⟩
   .rcases O6.o with h|h
    .exact .inl (K3.o b (by have:=h.symm.trans e;rw[←HS.o] at this;exact this))
    .have h2:w5.heap.size+1=b:=(by have:=h.symm.trans e;injection this);exact .inr ⟨by omega,(hlt6 b e).2⟩
   .rcases yh7.1 hv with h|h
    .exact .inl (K4.o v h b e)
    .rw[yha] at h;subst h;have:=Y5.o.in e;simp only[yio] at this;exact .inr ⟨by omega,by omega⟩
   .rcases hb with h|h
    .have:=HK.o.lt b h;omega
    .exact h.2
   .rw[yid];exact⟨HK.o.nodup,by simp,fun a ha b hb=>by rw[yha] at hb;subst hb;exact fun e=>HIN.o (e▸ha)⟩
   .refine (HKK3.o.mono (Q':=K) fun b e => .inl (by subst e;exact k2)).trans kq3 fun b q=>?_
    rcases q with q|q
    .exact .inl (q▸k1)
    .exact .inl (K3.o b (by rw[←HS.o] at q;exact q))
end
end Go.Proofs.Ytipfgpfplakhiaa
