import Derived.Test.YtgbdanddbgomhaaDoorMw10
set_option linter.unusedVariables false
set_option linter.unusedSimpArgs false
namespace Go.Proofs.YtgbdanddbgomhaaDoor
open Go Go.RowKit
section
attribute [local go_sem ↓] Go.wp_at_zero Go.wp_at_succ
theorem Tryd.infoByteE:(Tryd.prog.info? 5).map (fun i=>(i.zero,i.size,i.bytes))=some (some (.int .u8 0),1,1):=by kernel_rfl
def lastB (F:Nat->Nat):Nat->Nat->Nat
 | 0,_=>0
 | k+1,c=>if F k=c then k else lastB F k c
theorem zm7 (F:Nat->Nat):∀ k c,lastB F k c<=k
 | 0,c=>Nat.le_refl _
 | k+1,c=>by
   unfold lastB;split
   . omega
   . have:=zm7 F k c;omega
theorem zm8 (F:Nat->Nat):∀ k c b,b<k->F b=c->F (lastB F k c)=c
 | 0,c,b,hb,h=>by omega
 | k+1,c,b,hb,h=>by
   unfold lastB;split
   . assumption
   . rename_i hn;exact zm8 F k c b (by
       rcases Nat.lt_or_ge b k with h1|h1
       . exact h1
       . exact absurd (show F k=c by rw[show k=b by omega];exact h) hn) h
def eachV (n:Nat) (f:Nat->Nat):List Value:=(List.range n).map fun c=>Value.int .u8 (f c:Int)
theorem zcu (n:Nat) (f:Nat->Nat) (c:Nat) (h:c<n):(eachV n f)[c]?=some (.int .u8 (f c:Int)):=by simp[eachV,h]
theorem zrn (n:Nat) (F:Nat->Nat) (k:Nat) (h:F k<n):(eachV n (lastB F k)).set (F k) (.int .u8 (k:Int))=eachV n (lastB F (k+1)):=by
 apply List.ext_getElem?;intro i;rw[List.getElem?_set]
 by_cases hi:i<n
 . by_cases e:F k=i
   . subst e;simp[eachV,hi,lastB]
   . have h2:lastB F (k+1) i=lastB F k i:=(by simp[lastB,e]);rw[if_neg e,zcu n _ i hi,zcu n _ i hi,h2]
 . by_cases e:F k=i
   . omega
   . rw[if_neg e];simp[eachV,hi]
theorem zkg {w:World} {B C e size n:Nat} {v:Value} {xs:List Value} (h:w.ownsRow B e size v n xs) (hb:C<=B):w.ownsRow C e size v n xs:=by
 refine⟨h.1,?_⟩;rcases h.2 with h|⟨g,cap,cur,e,hB,r⟩
 . exact .inl h
 . exact .inr ⟨g,cap,cur,e,Nat.le_trans hb hB,r⟩
set_option maxRecDepth 20000 in
set_option maxHeartbeats 2000000 in
theorem zvd {w:World} (F:Nat->Nat) (n:Nat) (hn:n<=100000) (hF:∀ b,b<256->F b<n):
   Calls Tryd.prog 48 #[.agg (arrV 256 F),.int .i64 (n:Int)] w fun e w'=>∃ g,e = .returned (.slice (some ⟨g,0,none⟩) n n)∧w'.ownsRow w.heap.size 5 1 (.slice (some ⟨g,0,none⟩) n n) n (eachV n (lastB F 256))∧Below w.heap.size w w':=by
 obtain⟨i0,hi,hi0,hi1,hi2⟩:=info_parts Tryd.infoByteE;have hbx:=BoxN.new w 57 256 F;have hba:Below w.heap.size w (w.alloc (.cells (arrV 256 F) 57)):=(Below.refl _ _).alloc (Nat.le_refl _) _;generalize hw1:w.alloc (.cells (arrV 256 F) 57)=w1 at hbx hba;have hs1:w1.heap.size=w.heap.size+1:=(by rw[←hw1];simp);obtain⟨wm,hmk,hown,hgm⟩:=run_make_full (P:=Tryd.prog) w1 w1.heap.size 22 5 i0 _ 1 Tryd.underlying22 hi hi0 hi1 .i64 .i64 n (by rw[hi2];omega) (by unfold maxLen;omega) (Nat.le_refl _);have hbm:Below w1.heap.size w1 wm:=(Below.refl _ _).grown hgm (Nat.le_refl _) fun q e=>by cases e
 have hu0:wm.ownsRow w1.heap.size 5 1 (.slice (some ⟨w1.heap.size,0,none⟩) n n) n (eachV n (lastB F 0)):=by
   have e:(madeCells (Value.int .u8 0).cells (n*1)).toList=eachV n (lastB F 0):=by
     rw[Nat.mul_one];rw[show (madeCells (Value.int .u8 0).cells n).toList=List.replicate n (Value.int .u8 0) from toList_madeCells_one _ n];apply List.ext_getElem?;intro j
     by_cases hj:j<n
     . rw[zcu n _ j hj];simp[hj,lastB]
     . simp[eachV,hj]
   rw[←e];exact hown
 have hbx':=hbx.stays hbm;rw[hs1] at hu0;have HU0:=Zh hu0;have HBA:=Zh hba;have HBM:=Zh hbm;have hnpos:w.heap.size+1<wm.heap.size:=(World.ownsRow.lt hu0 _ rfl).2;clear hown hgm hbm hu0 hba hbx;go_enter Tryd.func48,Tryd.ntmps48;go_wp2_with (first
   | (refine zb0 (g:=w.heap.size) (F:=F) rfl hbx' ?_;go_simp)
   | (rw[hw1];go_simp))
 go_loopg [11] 256 (fun m i wz=>∃ k:Nat,i = .int .i64 (k:Int)∧k<=256∧m=256-k∧wz.ownsRow (w.heap.size+1) 5 1 (.slice (some ⟨w.heap.size+1,0,none⟩) n n) n (eachV n (lastB F k))∧Below (w.heap.size+1) wm wz)
 case atStart=>exact⟨0,rfl,Nat.zero_le _,rfl,HU0.out,Below.refl _ _⟩
 case round =>
   obtain⟨k,rfl,hk,hmk,hu,hbl⟩:=hrel;have HMK:=Zh hmk;have HU:=Zh hu;have HBL:=Zh hbl;clear hmk hu hbl;have hrs:=(World.ownsRow.lt HU.out _ rfl).2
   by_cases hkP:k<256
   . have hFk:=hF k hkP;have hix:=zmd (F:=F) wr k hkP;have hst:=zrn n F k hFk;obtain⟨f,hf⟩:∃ f,F k=f:=⟨_,rfl⟩;rw[hf] at hix hFk hst;have HST:=Zh hst;have hcell:wr.cell? ⟨w.heap.size+1,f,none⟩=some (.int .u8 (lastB F k f:Nat)):=by
       rw[World.ownsRow.cellAt HU.out f (by omega)];exact zcu n _ f hFk
     have hfz:wr.frozen? ⟨w.heap.size+1,f,none⟩=false:=World.ownsRow.frozenAt HU.out f;have k0:(0:Int)<=(k:Int):=(by omega);have k1:(k:Int)<256:=(by omega);have k2:(k:Int)<=255:=(by omega);have f0:(0:Int)<=(f:Int):=(by omega);have f1:(f:Int)<(n:Int):=(by omega);clear hst hf;go_wp2;go_roundg (256-(k+1))
     case measure=>have:=HMK.out;omega
     case rel =>
       have h:=(World.ownsRow.stored HU.out f (.int .u8 (k:Int))).1;rw[HST.out] at h;exact⟨k+1,by go_num,by omega,rfl,h,HBL.out.setCell (Nat.le_refl _) _⟩
   . have hkn:k=256:=(by omega);go_wp2;go_ret;have h:=zkg HU.out (C:=w.heap.size) (by omega);rw[hkn] at h;exact⟨w.heap.size+1,rfl,h,(HBA.out.trans (HBM.out.mono (by omega))).trans (HBL.out.mono (by omega))⟩
end
section
attribute [local go_sem ↓] Go.wp_at_zero Go.wp_at_succ
def le8 (x:Nat):List Nat:=[x % 256,x / 256 % 256,x / 65536 % 256,x / 16777216 % 256,x / 4294967296 % 256,x / 1099511627776 % 256,x / 281474976710656 % 256,x / 72057594037927936]
theorem zqp {x y:Nat} (hx:x<2 ^ 64) (hy:y<2 ^ 64) (h:le8 x=le8 y):x=y:=by
 simp only[le8,List.cons.injEq,and_true] at h;obtain⟨h0,h1,h2,h3,h4,h5,h6,h7⟩:=h;omega
theorem zkn (x:Nat):(le8 x).length=8:=rfl
def keyB (l:List (Nat×Nat)):List Nat:=l.flatMap fun x=>le8 x.1++le8 x.2
theorem zd4 (l:List (Nat×Nat)):(keyB l).length=l.length*16:=by
 induction l with
 | nil=>rfl
 | cons p l ih=>simp only[keyB,List.flatMap_cons,List.length_append,zkn,List.length_cons] at ih ⊢;omega
theorem zqx (l:List (Nat×Nat)) (x:Nat×Nat):keyB (l++[x])=keyB l++le8 x.1++le8 x.2:=by simp[keyB]
theorem zm9:∀ (l k:List (Nat×Nat)),(∀ x∈l,x.1<2 ^ 64∧x.2<2 ^ 64)->(∀ x∈k,x.1<2 ^ 64∧x.2<2 ^ 64)->keyB l=keyB k->l=k
 | [],[],_,_,_=>rfl
 | [],y::k,_,_,h=>by
   have:=congrArg List.length h;rw[zd4,zd4] at this;simp at this
 | x::l,[],_,_,h=>by
   have:=congrArg List.length h;rw[zd4,zd4] at this;simp at this
 | x::l,y::k,hl,hk,h=>by
   have e:∀ (x:Nat×Nat) l,keyB (x::l)=le8 x.1++(le8 x.2++keyB l):=fun x l=>by simp[keyB]
   rw[e,e] at h;have h1:=List.append_inj h rfl;have h2:=List.append_inj h1.2 rfl;have hx:=hl x List.mem_cons_self;have hy:=hk y List.mem_cons_self;have e1:=zqp hx.1 hy.1 h1.1;have e2:=zqp hx.2 hy.2 h2.1;rw[show x=y from Prod.ext e1 e2,zm9 l k (fun z hz=>hl z (List.mem_cons_of_mem _ hz)) (fun z hz=>hk z (List.mem_cons_of_mem _ hz)) h2.2]
theorem zqy (l:List (Nat×Nat)) (hl:∀ x∈l,x.1<2 ^ 64∧x.2<2 ^ 64):∀ b∈keyB l,b<256:=by
 intro b hb;simp only[keyB,le8,List.mem_flatMap,List.mem_append,List.mem_cons,List.not_mem_nil,or_false] at hb;obtain⟨x,hx,h⟩:=hb;have:=hl x hx;rcases h with h|h <;> (rcases h with h|h|h|h|h|h|h|h <;> omega)
def bytesV (l:List Nat):List Value:=l.map fun (b:Nat)=>Value.int .u8 (b:Int)
def Bts (w:World) (B:Nat) (v:Value) (l:List Nat):Prop:=w.ownsRow B 5 1 v l.length (bytesV l)
theorem Bts.stays {w w':World} {B:Nat} {v:Value} {l:List Nat} (h:Bts w B v l) (hb:Below w.heap.size w w'):Bts w' B v l:=za3 h fun b e _=>hb.block b (World.ownsRow.lt h b e).2
theorem Bts.form {w:World} {B:Nat} {v:Value} {l:List Nat} (h:Bts w B v l):∃ A c,v = .slice A l.length c:=zam h
theorem zoc (l k:List Nat):bytesV l++bytesV k=bytesV (l++k):=by simp[bytesV]
theorem zob (x:Nat):bytesV (le8 x)=[.int .u8 ((x:Int) % 256),.int .u8 ((x:Int) / 256 % 256),.int .u8 ((x:Int) / 65536 % 256),.int .u8 ((x:Int) / 16777216 % 256),.int .u8 ((x:Int) / 4294967296 % 256),.int .u8 ((x:Int) / 1099511627776 % 256),.int .u8 ((x:Int) / 281474976710656 % 256),.int .u8 ((x:Int) / 72057594037927936)]:=by
 simp[bytesV,le8]
theorem zu7 {w:World} {B:Nat} {v:Value} {l:List Nat} (h:Bts w B v l) (hB:B<=w.heap.size) (hl:l.length<=10000000) (x:Nat) (ty:TypeId) (ad:Addr) (c:Nat)
   (hc:∀ (j:Nat) u,(bytesV (le8 x))[j]?=some u->w.cell? (ad.add j)=some u):
   ∃ v' w',(Builtin.append_ #[22,22] ty #[v,.slice (some ad) 8 c]).run Tryd.prog w = .ok v' w'∧Bts w' B v' (l++le8 x)∧w.grownBy w' v.ownBlock∧(v'.ownBlock=v.ownBlock∨v'.ownBlock=some w.heap.size):=by
 obtain⟨i0,hi,hz0,hz1,hz2⟩:=info_parts Tryd.infoByteE;obtain⟨v',w',hr,h4,h5,_,h6⟩:=run_append_own_at (P:=Tryd.prog) w B 22 ty 5 i0 _ 1 1 Tryd.underlying22 hi hz0 hz1 hz2 rfl (by decide) v l.length (bytesV l) h ad 8 c (bytesV (le8 x)) (by rfl) hc
   (by
     intro u hu;simp[bytesV,le8] at hu;rcases hu with rfl|rfl|rfl|rfl|rfl|rfl|rfl|rfl
     all_goals rfl) (by unfold maxLen;omega) (by omega) hB
 refine⟨v',w',hr,?_,h5,h6⟩;unfold Bts;rw[←zoc]
 simpa [zkn] using h4
theorem zn5 {w:World} {ops:Array Oper} {rest:List Oper} {o:Oper} {a:Act} {Q:Exit->Act->World->Prop} (hgd:o.guard=none) (s x:Operand)
   (ho:o.op = .call {callee := .builtin .append,args:=#[s,x],argTypes:=#[22,22]})
   {B:Nat} {v:Value} {l:List Nat} (hs:a.eval s=v) (h:Bts w B v l) (hB:B<=w.heap.size) (hl:l.length<=10000000) (y:Nat)
   (ad:Addr) (c:Nat) (hx:a.eval x = .slice (some ad) 8 c) (hc:∀ (j:Nat) u,(bytesV (le8 y))[j]?=some u->w.cell? (ad.add j)=some u)
   (hk:∀ v' w',Bts w' B v' (l++le8 y)->w.grownBy w' v.ownBlock->(v'.ownBlock=v.ownBlock∨v'.ownBlock=some w.heap.size)->wpList Tryd.prog ops Q rest (a.put o.dst v') w'):wpList Tryd.prog ops Q (o::rest) a w:=by
 obtain⟨v',w',hr,h2,h3,h4⟩:=zu7 h hB hl y o.type ad c hc;refine wpList_plain hgd fun _ hK=>?_
 unfold Oper.wp execOp;simp only[ho,resolve,invoke,builtin,Sem.run_bind,Sem.run_pure,Result.andThen_ok,List.map_toArray,List.map_cons,List.map_nil,hs,hx,hr];exact hK _ _ (hk v' w' h2 h3 h4)
theorem zw1 (w:World) (x:Nat) (A:Array Value) (hA:A.toList=bytesV (le8 x)):∀ (j:Nat) u,(bytesV (le8 x))[j]?=some u->(w.alloc (.cells A 5)).cell? ((⟨w.heap.size,0,none⟩:Addr).add j)=some u:=by
 intro j u hu;rw[Addr.add_lit,Nat.zero_add,cell_of_row _ _ j _ 5 (0,0) (heap_alloc_new w _)];rw[←hA] at hu
 simpa using hu
set_option maxRecDepth 20000 in
set_option maxHeartbeats 2000000 in
theorem zul {w:World} {B:Nat} {v:Value} {l:List Nat} (h:Bts w B v l) (hB:B<=w.heap.size) (hl:l.length<=10000000) (x:Nat) (hx:x<2 ^ 64):
   Calls Tryd.prog 99 #[v,.int .u64 (x:Int)] w fun e w'=>∃ v',e = .returned v'∧Bts w' B v' (l++le8 x)∧Kept (fun b=>v.ownBlock=some b) w w'∧∀ b,v'.ownBlock=some b->v.ownBlock=some b∨w.heap.size<=b:=by
 obtain⟨A,c,rfl⟩:=h.form;have H:=Zh h;clear h;have hx2:(x:Int)<18446744073709551616:=(by omega);go_enter Tryd.func99,Tryd.ntmps99;go_wp2_with (first
   | (at_builtin;refine zn5 (by rfl) _ _ (by rfl) (by rfl) (H.out.stays ((Below.refl _ _).alloc (Nat.le_refl _) _)) (by simp;omega) hl x ⟨w.heap.size,0,none⟩ 8 (by rfl) (zw1 w x _ (by rw[zob])) ?_;intro v6 w6 i6 g6 o6;have I6:=Zh i6;have G6:=Zh g6;have O6:=Zh o6;clear i6 g6 o6)
   | fail)
 go_ret;refine⟨_,rfl,I6.out,((Kept.refl _ _).alloc _).grown G6.out (fun b e => .inl e),fun b e=>?_⟩;have e6:v6.ownBlock=some b:=e;rcases O6.out with h|h
 . exact .inl (h.symm.trans e6)
 . rw[e6] at h;injection h with h
   rw[World.size_alloc] at h;exact .inr (by omega)
theorem zjt {wr w1 w5:World} {B o:Nat} {v u:Value} {l:List Nat} (h:w1.cell? ⟨wr.heap.size,o,none⟩=some u) (hv:Bts wr B v l) (ha:Below wr.heap.size wr w1) (hs:w1.heap.size=wr.heap.size+1) (hk:Kept (fun b=>v.ownBlock=some b) w1.drew w5):w5.cell? ⟨wr.heap.size,o,none⟩=some u:=by
 refine (World.cell?_of_block (w:=w1) ?_).trans h;refine hk.block wr.heap.size (by simp;omega) fun e=>?_
 have:=(World.ownsRow.lt hv _ e).2;omega
set_option maxRecDepth 20000 in
set_option maxHeartbeats 2000000 in
theorem zwo {w:World} {D:Nat} {va:Value} {st:List (Nat×Nat)} (ha:Wds w D va st) (hl:st.length<=100000) (hst:∀ x∈st,x.1<2 ^ 63∧x.2<2 ^ 64):
   Calls Tryd.prog 81 #[va] w fun e w'=>∃ v',e = .returned v'∧Bts w' w.heap.size v' (keyB st)∧Below w.heap.size w w':=by
 obtain⟨A,c,rfl⟩:=ha.form;have HA:=Zh ha;have HS:=Zh hst;obtain⟨L,hL⟩:∃ L,st.length=L:=⟨_,rfl⟩;rw[hL] at HA hl ⊢;have HL:=Zh hL;clear ha hst hL;obtain⟨i0,hi,hi0,hi1,hi2⟩:=info_parts Tryd.infoByteE;have hmk:=run_make (P:=Tryd.prog) (w:=w) 22 5 i0 _ Tryd.underlying22 hi hi0 .i64 .i64 0 (16*(L:Int)) (by omega) (by omega) (by rw[hi2];omega) (by omega);rw[hi1,show (16*(L:Int)).toNat=16*L by omega,show (0:Int).toNat=0 by rfl] at hmk;obtain⟨M,hM⟩:∃ M,madeCells (Value.int .u8 0).cells (16*L*1)=M:=⟨_,rfl⟩;have hMs:M.size=16*L:=(by rw[←hM];simp[madeCells]);rw[hM] at hmk;have hb0:Bts (w.alloc (.cells M 5)) w.heap.size (.slice (some ⟨w.heap.size,0,none⟩) 0 (16*L)) []:=
   ⟨rfl,.inr ⟨w.heap.size,16*L,M,rfl,Nat.le_refl _,heap_alloc_new w _,Nat.zero_le _,by unfold maxLen;omega,by omega,by simp[bytesV]⟩⟩
 have hba:Below w.heap.size w (w.alloc (.cells M 5)):=(Below.refl _ _).alloc (Nat.le_refl _) _;generalize w.alloc (.cells M 5)=wm at hmk hb0 hba;have HB0:=Zh hb0;have HBA:=Zh hba;clear hb0 hba hM hMs;go_enter Tryd.func81,Tryd.ntmps81;go_wp2;go_loopg [3,12] L (fun m v i wz=>∃ k:Nat,i = .int .i64 (k:Int)∧k<=L∧m=L-k∧Bts wz w.heap.size v (keyB (st.take k))∧Below w.heap.size w wz)
 case atStart=>exact⟨0,by first | rfl | trivial,Nat.zero_le _,rfl,by simpa [keyB] using HB0.out,HBA.out⟩
 case round =>
   obtain⟨k,rfl,hk,hmk,hbt,hbl⟩:=hrel;have HMK:=Zh hmk;have HBT:=Zh hbt;have HBL:=Zh hbl;have hsz:=hbl.size;clear hmk hbt hbl
   by_cases hkL:k<L
   . have hks:k<st.length:=(by rw[HL.out];exact hkL);obtain⟨x,hx⟩:∃ x,st[k]?=some x:=⟨_,List.getElem?_eq_getElem hks⟩;have hAw:Wds wr D (.slice A L c) st:=HA.out.stays HBL.out;obtain⟨g,cc,e1,_,hg,h0,h1⟩:=hAw.at hx;rw[HL.out] at e1;simp only[Value.slice.injEq] at e1;obtain⟨rfl,-,rfl⟩:=e1;have hgx:st[k]'hks=x:=(by have:=List.getElem?_eq_getElem hks;rw[hx] at this;injection this with this;exact this.symm);obtain⟨x1,x2⟩:=x;have hxb:=HS.out (x1,x2) (by rw[←hgx];exact List.getElem_mem hks);have htk:keyB (st.take (k+1))=keyB (st.take k)++le8 x1++le8 x2:=by
       rw[List.take_succ_eq_append_getElem hks,hgx,zqx]
     have HTK:=Zh htk;have hll:(keyB (st.take k)).length<=1600000:=by
       rw[zd4,List.length_take];omega
     have HLL:=Zh hll;have HXB:=Zh hxb;have k0:(0:Int)<=(k:Int):=(by omega);have k1:(k:Int)<(L:Int):=(by omega);have x10:(0:Int)<=(x1:Int):=(by omega);have x11:(x1:Int)<=18446744073709551615:=(by have:=hxb.1;simp only at this;omega);have hal:Below wr.heap.size wr (wr.alloc (.cells #[.int .i64 (x1:Int),.int .u64 (x2:Int)] 167)):=(Below.refl _ _).alloc (Nat.le_refl _) _;have n0:(wr.alloc (.cells #[.int .i64 (x1:Int),.int .u64 (x2:Int)] 167)).cell? ⟨wr.heap.size,0,none⟩=some (.int .i64 (x1:Int)):=cell_of_row _ _ 0 _ _ (0,0) (heap_alloc_new wr _);have n1:(wr.alloc (.cells #[.int .i64 (x1:Int),.int .u64 (x2:Int)] 167)).cell? ⟨wr.heap.size,1,none⟩=some (.int .u64 (x2:Int)):=cell_of_row _ _ 1 _ _ (0,0) (heap_alloc_new wr _);have HAL:=Zh hal;have HN1:=Zh n1;have hs1:(wr.alloc (.cells #[.int .i64 (x1:Int),.int .u64 (x2:Int)] 167)).heap.size=wr.heap.size+1:=(by simp);simp only at h0 h1;clear hAw htk hgx hx hks hxb hll;have HK1:=Zh (fun (W:World) (hb:Below wr.heap.size wr W)=>zul (HBT.out.stays hb) (by have:=hb.size;omega) (by have:=HLL.out;omega) x1 (by have:=HXB.out.1;simp only at this;omega));have hgv:=hg;go_upto_region 5 with fail
     have HK2:=Zh (fun (W:World) (v5:Value) (b5:Bts W w.heap.size v5 (keyB (st.take k)++le8 x1)) (hW:wr.heap.size<=W.heap.size)=>zul (x:=x2) b5 (by omega) (by rw[List.length_append,zkn];have:=HLL.out;omega) (by have:=HXB.out.2;simpa using this));clear hal;have hwr:IntKind.u64.wrap (x1:Int)=(x1:Int):=zbl x10 x11;go_region_law (first
         | (go_simp;go_at_call 99;((with_reducible refine (HK1.out _ (by (repeat' (first | (with_reducible exact HAL.out) | (with_reducible refine Below.drew ?_)));done)).mono ?_);rintro e w5 ⟨v5,rfl,b5,k5,o5⟩;have n0':=zjt n0 HBT.out HAL.out hs1 k5;have n1':=zjt n1 HBT.out HAL.out hs1 k5;have B5:=Zh b5;have K5:=Zh k5;have O5:=Zh o5;have hsz5:=k5.size;clear b5 k5 o5))
         | (go_simp;go_at_call 99;((with_reducible refine (HK2.out w5 v5 B5.out (by simp at hsz5 ⊢;omega)).mono ?_);rintro e w6 ⟨v6,rfl,b6,k6,o6⟩;have B6:=Zh b6;have K6:=Zh k6;have O6:=Zh o6;clear b6 k6 o6))
         | fail)
     all_goals
       have hb1:=(HBL.out.alloc hsz (.cells #[.int .i64 (x1:Int),.int .u64 (x2:Int)] 167)).drew;have hb5:=hb1.trans (K5.out.below (by simp;omega) (fun b e=>(World.ownsRow.lt HBT.out b e).1));have hb6:=hb5.trans (K6.out.below (by simp at hsz5;omega) (fun b e=>(World.ownsRow.lt B5.out b e).1));have HB6:=Zh hb6;clear hb1 hb5 hb6 hwr;go_wp2;go_roundg (L-(k+1))
       case measure=>have:=HMK.out;omega
       case rel=>exact⟨k+1,by go_num,by omega,rfl,by rw[HTK.out];exact B6.out,HB6.out⟩
   . have hkl:k=st.length:=(by rw[HL.out];omega);have hb:=HBT.out;rw[hkl,List.take_length] at hb;have HB:=Zh hb;clear hb HBT;go_wp2;go_ret;exact⟨_,rfl,HB.out,HBL.out⟩
end
end Go.Proofs.YtgbdanddbgomhaaDoor
