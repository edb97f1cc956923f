import Derived.Test.YtgbdanddbgomhaaDoorMw2
import Derived.Deep.RegionHeld3
import Derived.Deep.DrawnRows
import Derived.Deep.RegionLaw
set_option linter.unusedVariables false
set_option linter.unusedSimpArgs false
namespace Go.Proofs.YtgbdanddbgomhaaDoor
open Go Go.RowKit
section
attribute [local go_sem ↓] Go.wp_at_zero Go.wp_at_succ
set_option maxHeartbeats 400000 in
theorem zix (p:Nat->Bool) (b:Int) (w:World) (hb:0<=b) (hb':b<=255):
   Calls Tryd.prog 67 #[.agg #[.int .u64 (word p 0),.int .u64 (word p 1),.int .u64 (word p 2),.int .u64 (word p 3)],.int .u8 b] w fun e w'=>e = .returned (.bool (p b.toNat))∧Below w.heap.size w w':=by
 have hv:=zl5 p b hb hb';have H:=zvq p b hb hb';rw[←H];clear H;go_enter Tryd.func67,Tryd.ntmps67;go_wp2;go_ret;exact⟨rfl,(Below.refl _ _).alloc (Nat.le_refl _) _⟩
set_option maxRecDepth 20000 in
set_option maxHeartbeats 1600000 in
theorem zpi (A:Option Addr) (n cap:Nat) (xs:List Int) (w:World) (hn:n=xs.length) (hr:RdB w w.heap.size A xs) (hx:∀ k,k<xs.length->0<=xs.getD k 0∧xs.getD k 0<=255) (hm:xs.length<=9223372036854775807):
   Calls Tryd.prog 69 #[.slice A n cap] w fun e w'=>e = .returned (setV (memP xs))∧Below w.heap.size w w':=by
 have HN:=Zh hn;have HX:=Zh hx;rw[←hn] at hm;clear hx hn;have hnot:∀ (x:Bool) (w:World),(Op.unary .not (.bool x)).run Tryd.prog w = .ok (.bool (!x)) w:=fun _ _=>rfl
 go_enter Tryd.func69,Tryd.ntmps69;go_wp2;go_loopw [4] (fun i wr=>∃ k:Nat,∃ p0,k<=n∧i = .int .i64 k∧Box4 wr w.heap.size p0∧Box4 wr (w.heap.size+1) (memP (xs.take k))∧Below w.heap.size w wr) (fun i _=>n-(intOf i).toNat)
 case atStart =>
   refine⟨0,noneP,Nat.zero_le _,rfl,(Box4.new0 w).alloc _,?_,((Below.refl _ _).alloc (Nat.le_refl _) _).alloc (by simp) _⟩;have h:=Box4.new0 (w.alloc (.cells #[.int .u64 0,.int .u64 0,.int .u64 0,.int .u64 0] 26));rw[World.size_alloc] at h;exact h.congr fun x _=>by simp[memP,noneP]
 case round =>
   obtain⟨k,p0,hk,rfl,b0,b1,hnx⟩:=hrel;have hs:=b1.lt;obtain⟨c0,c1,c2,c3⟩:=b1.cell
   by_cases hlt:k<n
   . have hkx:k<xs.length:=(by rw[←HN.out];exact hlt);obtain⟨b,off,rfl,hbB,hc⟩:=hr k hkx;have hx:=HX.out k hkx;have hc1:=(hnx.cell (p:=⟨b,off+k,none⟩) hbB).trans hc;have HM:=Zh (zt9 xs k hkx hx.1);obtain⟨v,hv⟩:∃ v,v=xs.getD k 0:=⟨_,rfl⟩;rw[←hv] at hx hc1 HM;clear hc hv hkx hr;have k0:(0:Int)<=(k:Int):=(by omega);have k1:(k:Int)<(n:Int):=(by omega);generalize hp:memP (xs.take k)=p at *;have HP:=Zh hp;clear hp;cases hpv:p v.toNat
     all_goals
       go_wp2_with fail;refine wp_region_noPanic ?_;go_region_held (fun w'=>w'.cell? ⟨w.heap.size+1,0,none⟩=some (.int .u64 (word p 0))∧w'.cell? ⟨w.heap.size+1,1,none⟩=some (.int .u64 (word p 1))∧w'.cell? ⟨w.heap.size+1,2,none⟩=some (.int .u64 (word p 2))∧w'.cell? ⟨w.heap.size+1,3,none⟩=some (.int .u64 (word p 3))∧w'.cell? ⟨b,off+k,none⟩=some (.int .u8 v))
         (first | exact⟨c0,c1,c2,c3,hc1⟩ | (go_split_ands;refine⟨?_,?_,?_,?_,?_⟩ <;> first | with_reducible assumption | with_reducible exact za2 ‹_› ‹_›))
         (first | (go_at_call 67;(with_reducible refine (zix p v _ (by omega) (by omega)).mono ?_);rintro e w1 ⟨rfl,hb1⟩;rw[hpv]))
       refine NoPanic.normal ?_;replace hb1:=zay hb1;replace b0:=b0.stays hb1;replace b1:=b1.stays hb1;replace hnx:=gro hnx hb1;have hs1:=b1.lt;have hd1:=za2 hc1 hb1;clear c0 c1 c2 c3 hc1 hb1;obtain⟨c0,c1,c2,c3⟩:=b1.cell;obtain⟨f0,f1,f2,f3⟩:=b1.frozen;go_wp2
     . have HO:=Zh (zuj p v hx.1 hx.2 hpv);have HW:=Zh (zhh p v.toNat);have hd:(v / 64).toNat=v.toNat / 64:=(by omega);have HD:=Zh hd;clear hd;rcases (show v / 64=0∨v / 64=1∨v / 64=2∨v / 64=3 by omega) with h|h|h|h
       all_goals
         have e1:IntKind.i64.wrap v=v:=IntWalk.i64_in _ (by omega);have e2:v.tdiv 64=v / 64:=Int.tdiv_eq_ediv_of_nonneg hx.1;have e4:v.tmod 64=v % 64:=Int.tmod_eq_emod_of_nonneg hx.1;have e5:IntKind.i64.wrap (v % 64)=v % 64:=IntWalk.i64_in _ (by omega);have e6:IntKind.u64.wrap (v % 64)=v % 64:=zbl (by omega) (by omega);have n0:IntKind.i64.wrap 0=0:=rfl;have n1:IntKind.i64.wrap 1=1:=rfl;have n2:IntKind.i64.wrap 2=2:=rfl;have n3:IntKind.i64.wrap 3=3:=rfl;have m0:0<=v % 64:=(by omega);go_still_tail 24,(by kernel_rfl);clear e1 e2 e4 e5 e6 n0 n1 n2 n3 m0;go_wp2;have ho:=HO.out;have hw:=HW.out;have hd:=HD.out;rw[h] at ho hd;simp only[show (0:Int).toNat=0 from rfl,show (1:Int).toNat=1 from rfl,show (2:Int).toNat=2 from rfl,show (3:Int).toNat=3 from rfl] at ho hd;rw[ho];go_roundw
         case measure=>simp[intOf];omega
         case rel =>
           refine⟨k+1,p0,by omega,by go_num,(b0.far (by simp) _).drew,?_,(hnx.setCell (by simp) _).drew⟩;exact (b1.set1 _ (by decide) (fun j hj=>hw j (by omega))).drew.congr fun x _=>HM.out x
     . go_roundw
       case rel =>
         refine⟨k+1,p0,by omega,by go_num,b0,b1.congr fun x _=>?_,hnx⟩;rw[←HM.out x];unfold add1
         by_cases e:x=v.toNat
         . subst e;rw[hpv];simp
         . simp[e]
       case measure=>simp[intOf];omega
   . obtain⟨d0,d1,d2,d3⟩:=b0.cell;obtain⟨g0,g1,g2,g3⟩:=b0.frozen;go_wp2;refine bodyPost_ret (v:=setV (memP (xs.take k))) ?_ rfl ⟨congrArg Ending.returned (zcz fun x _=>?_),zb6 (g:=w.heap.size) hnx (Nat.le_refl _) (memP (xs.take k))⟩
     . unfold setV;simp[results,Tryd.results69,go_sem,d0,d1,d2,d3]
     . have:=HN.out;rw[List.take_of_length_le (by omega)]
end
section
attribute [local go_sem ↓] Go.wp_at_zero Go.wp_at_succ
set_option maxRecDepth 20000 in
set_option maxHeartbeats 400000 in
theorem zlm (p:Nat->Bool) (w:World):
   Calls Tryd.prog 70 #[.agg #[.int .u64 (word p 0),.int .u64 (word p 1),.int .u64 (word p 2),.int .u64 (word p 3)]] w
     fun e w'=>∃ v,e = .returned v∧w'.ownsRow w.heap.size 5 1 v (allP p).length ((allP p).map (Value.int .u8))∧Below w.heap.size w w':=by
 obtain⟨i0,hi,hz0,hz1,hz2⟩:=info_parts Tryd.infoByte;go_enter Tryd.func70,Tryd.ntmps70;go_wp2;go_loopw [3,4] (fun v i wr=>∃ k:Nat,k<=256∧i = .int .i64 k∧wr.ownsRow (w.heap.size+1) 5 1 v (listP p k).length ((listP p k).map (Value.int .u8))∧Box4 wr w.heap.size p∧Below w.heap.size w wr)
   (fun _ i _=>256-(intOf i).toNat)
 case atStart=>exact⟨0,by omega,rfl,World.ownsRow_nil _ _ _ _,Box4.new w p,(Below.refl _ _).alloc (Nat.le_refl _) _⟩
 case round =>
   obtain⟨k,hk,rfl,hown,b0,hnx⟩:=hrel;have hs:=b0.lt;obtain⟨c0,c1,c2,c3⟩:=b0.cell
   by_cases hlt:k<256
   . have hle:=zdn p k;cases hp:p k
     . have HE:=Zh (zea p k hp);go_wp2_with (go_at_call 67;(with_reducible refine (zix p k _ (by omega) (by omega)).mono ?_);rintro e w1 ⟨rfl,hb1⟩;rw[Int.toNat_natCast,hp]);go_roundw
       case rel=>exact⟨k+1,by omega,by go_num,by rw[HE.out];exact za8 hown hb1,b0.stays hb1,hnx.trans (hb1.mono (by omega))⟩
       case measure=>simp[intOf];omega
     . have HE:=Zh (zfj p k hp);go_wp2_with (first
         | (go_at_call 67;(with_reducible refine (zix p k _ (by omega) (by omega)).mono ?_);rintro e w1 ⟨rfl,hb1⟩;rw[Int.toNat_natCast,hp];have hown1:=za8 hown hb1;have b1:=b0.stays hb1;have hs1:=hb1.size)
         | (at_builtin;refine wpList_append_own _ rfl _ _ 22 rfl (w.heap.size+1) 5 i0 (.int .u8 0) 1 1 Tryd.underlying22 hi hz0 hz1 hz2 rfl (by decide) _ _ _ rfl (hown1.alloc _) ⟨w1.heap.size,0,none⟩ 1 1 [.int .u8 (k:Int)] rfl rfl ?c1 ?c2 ?c3 ?c4 ?c5 ?_))
       case c1 =>
         intro j u hj
         match j,hj with
         | 0,hj=>simp at hj;subst hj;simp[Addr.add]
       case c2=>intro u hu;simp at hu;subst hu;rfl
       case c3=>unfold maxLen;omega
       case c4=>omega
       case c5=>simp;omega
       . intro v' w2 hown' hgrow _;have b2:Box4 w2 w.heap.size p:=(b1.alloc _).grown hgrow (fun e=>by have:=hown1.lt _ e.symm;omega);have hnx2:Below w.heap.size w w2:=((hnx.trans (hb1.mono (by omega))).alloc (by omega) _).grown hgrow (by simp;omega) (fun j e=>by have:=hown1.lt j e;omega);have HO:=Zh hown';clear hown' hgrow hown hown1 b0 b1 hb1 hnx;go_wp2;go_roundw
         case rel=>exact⟨k+1,by omega,by go_num,by rw[HE.out];simpa using HO.out,b2,hnx2⟩
         case measure=>simp[intOf];omega
   . have:k=256:=by omega
     subst this;go_wp2;go_ret;exact⟨_,rfl,zap hown (by omega),hnx⟩
def fromL (lo k:Int):List Int:=(List.range (k-lo).toNat).map fun j:Nat=>lo+(j:Int)
theorem zo0 (lo k:Int) (h:lo<=k):fromL lo (k+1)=fromL lo k++[k]:=by
 unfold fromL;rw[show (k+1-lo).toNat=(k-lo).toNat+1 by omega,List.range_succ,List.map_append];simp;omega
theorem zjn (lo k:Int):(fromL lo k).length=(k-lo).toNat:=by simp[fromL]
theorem zo1 (lo:Int):fromL lo lo=[]:=by simp[fromL]
theorem zrd (lo k:Int) (h0:0<=lo) (h1:k<=256):∀ j,j<(fromL lo k).length->0<=(fromL lo k).getD j 0∧(fromL lo k).getD j 0<=255:=by
 intro j hj;have hl:=zjn lo k;rw[List.getD_eq_getElem?_getD,List.getElem?_eq_getElem hj];simp[fromL];omega
theorem zrc (lo hi k:Int) (h0:0<=lo) (hk:k=hi+1∨(k=lo∧hi<k)) (x:Nat):memP (fromL lo k) x=rangeP lo hi x:=by
 unfold memP rangeP fromL;rw[Bool.eq_iff_iff,List.any_eq_true];simp;constructor
 . rintro⟨a,ha,e⟩;omega
 . rintro⟨a,b⟩;exact⟨(x-lo).toNat,by omega,by omega⟩
set_option maxRecDepth 20000 in
set_option maxHeartbeats 400000 in
theorem zd0 (lo hi:Int) (w:World) (hl:0<=lo) (hl':lo<=255) (hh:0<=hi) (hh':hi<=255):
   Calls Tryd.prog 137 #[.int .u8 lo,.int .u8 hi] w fun e w'=>e = .returned (setV (rangeP lo hi))∧Below w.heap.size w w':=by
 obtain⟨i0,hi0,hz0,hz1,hz2⟩:=info_parts Tryd.infoByte;go_enter Tryd.func137,Tryd.ntmps137;go_wp2;go_loopw [5,6] (fun v i wr=>∃ k:Int,∃ p0,lo<=k∧(k<=hi+1∨k=lo)∧i = .int .i64 k∧wr.ownsRow (w.heap.size+1) 5 1 v (fromL lo k).length ((fromL lo k).map (Value.int .u8))∧Box4 wr w.heap.size p0∧Below w.heap.size w wr) (fun _ i _=>(hi+1-intOf i).toNat)
 case atStart=>exact⟨lo,noneP,by omega,by omega,rfl,by rw[zo1];exact World.ownsRow_nil _ _ _ _,Box4.new0 w,(Below.refl _ _).alloc (Nat.le_refl _) _⟩
 case round =>
   obtain⟨k,p0,hk,hk2,rfl,hown,b0,hnx⟩:=hrel;have hs:=b0.lt;have hlen:=zjn lo k
   by_cases hlt:k<=hi
   . have HE:=Zh (zo0 lo k hk);have hle:(fromL lo k).length<=256:=(by omega);clear hlen;go_wp2_with (at_builtin;refine wpList_append_own _ rfl _ _ 22 rfl (w.heap.size+1) 5 i0 (.int .u8 0) 1 1 Tryd.underlying22 hi0 hz0 hz1 hz2 rfl (by decide) _ _ _ rfl (hown.alloc _) ⟨wr.heap.size,0,none⟩ 1 1 [.int .u8 k] rfl rfl ?c1 ?c2 ?c3 ?c4 ?c5 ?_)
     case c1 =>
       intro j u hj
       match j,hj with
       | 0,hj=>simp at hj;subst hj;simp[Addr.add]
     case c2=>intro u hu;simp at hu;subst hu;rfl
     case c3=>unfold maxLen;omega
     case c4=>omega
     case c5=>simp;omega
     . intro v' w2 hown' hgrow _;have b2:Box4 w2 w.heap.size p0:=(b0.alloc _).grown hgrow (fun e=>by have:=hown.lt _ e.symm;omega);have hnx2:Below w.heap.size w w2:=(hnx.alloc (by omega) _).grown hgrow (by simp;omega) (fun j e=>by have:=hown.lt j e;omega);have HO:=Zh hown';clear hown' hgrow hown b0 hnx;go_wp2;go_roundw
       case rel=>exact⟨k+1,p0,by omega,by omega,rfl,by rw[HE.out];simpa using HO.out,b2,hnx2⟩
       case measure=>simp[intOf];omega
   . obtain⟨A,cap,rfl,hn,hr,hA⟩:=ziy hown;have hg:=zrd lo k hl (by omega);have hle:(fromL lo k).length<=9223372036854775807:=(by omega);have HG:=Zh hg;have HE:Hid (∀ x,memP (fromL lo k) x=rangeP lo hi x):=fun x=>zrc lo hi k hl (by omega) x
     clear hg hn hlen;go_wp2_with (go_at_call 69;(with_reducible refine (zpi _ _ _ (fromL lo k) _ rfl hr HG.out hle).mono ?_);rintro e w1 ⟨rfl,hb1⟩;rw[zcz (fun x _=>HE.out x)];unfold setV;obtain⟨d0,d1,d2,d3⟩:=(b0.stays hb1).cell;obtain⟨g0,g1,g2,g3⟩:=(b0.stays hb1).frozen);refine bodyPost_ret (v:=setV (rangeP lo hi)) ?_ rfl ⟨rfl,zb6 (g:=w.heap.size) (hnx.trans (hb1.mono (by omega))) (Nat.le_refl _) (rangeP lo hi)⟩;unfold setV;simp[results,Tryd.results137,go_sem,d0,d1,d2,d3]
end
section
attribute [local go_sem ↓] Go.wp_at_zero Go.wp_at_succ
set_option maxRecDepth 20000 in
set_option maxHeartbeats 400000 in
theorem zpj (p:Nat->Bool) (w:World):
   Calls Tryd.prog 128 #[.agg #[.int .u64 (word p 0),.int .u64 (word p 1),.int .u64 (word p 2),.int .u64 (word p 3)]] w
     fun e w'=>e = .returned (setV (notP p))∧Below w.heap.size w w':=by
 obtain⟨i0,hi,hz0,hz1,hz2⟩:=info_parts Tryd.infoByte;have hnot:∀ (x:Bool) (w:World),(Op.unary .not (.bool x)).run Tryd.prog w = .ok (.bool (!x)) w:=fun _ _=>rfl
 go_enter Tryd.func128,Tryd.ntmps128;go_wp2;go_loopw [3,4] (fun v i wr=>∃ k:Nat,∃ p0,k<=256∧i = .int .i64 k∧wr.ownsRow (w.heap.size+2) 5 1 v (listP (notP p) k).length ((listP (notP p) k).map (Value.int .u8))∧Box4 wr w.heap.size p∧Box4 wr (w.heap.size+1) p0∧Below w.heap.size w wr)
   (fun _ i _=>256-(intOf i).toNat)
 case atStart =>
   refine⟨0,noneP,by omega,rfl,World.ownsRow_nil _ _ _ _,(Box4.new w p).alloc _,?_,((Below.refl _ _).alloc (Nat.le_refl _) _).alloc (by simp) _⟩;have h:=Box4.new0 (w.alloc (.cells #[.int .u64 (word p 0),.int .u64 (word p 1),.int .u64 (word p 2),.int .u64 (word p 3)] 26))
   rwa [World.size_alloc] at h
 case round =>
   obtain⟨k,p0,hk,rfl,hown,b0,b9,hnx⟩:=hrel;have hs:=b9.lt;obtain⟨c0,c1,c2,c3⟩:=b0.cell
   by_cases hlt:k<256
   . have hle:=zdn (notP p) k;cases hp:p k
     . have HE:=Zh (zfj (notP p) k (by simp[notP,hp]));go_wp2_with (first
         | (go_at_call 67;(with_reducible refine (zix p k _ (by omega) (by omega)).mono ?_);rintro e w1 ⟨rfl,hb1⟩;rw[Int.toNat_natCast,hp];have hown1:=za8 hown hb1;have b1:=b0.stays hb1;have b8:=b9.stays hb1;have hs1:=hb1.size)
         | (at_builtin;refine wpList_append_own _ rfl _ _ 22 rfl (w.heap.size+2) 5 i0 (.int .u8 0) 1 1 Tryd.underlying22 hi hz0 hz1 hz2 rfl (by decide) _ _ _ rfl (hown1.alloc _) ⟨w1.heap.size,0,none⟩ 1 1 [.int .u8 (k:Int)] rfl rfl ?c1 ?c2 ?c3 ?c4 ?c5 ?_))
       case c1 =>
         intro j u hj
         match j,hj with
         | 0,hj=>simp at hj;subst hj;simp[Addr.add]
       case c2=>intro u hu;simp at hu;subst hu;rfl
       case c3=>unfold maxLen;omega
       case c4=>omega
       case c5=>simp;omega
       . intro v' w2 hown' hgrow _;have b2:Box4 w2 w.heap.size p:=(b1.alloc _).grown hgrow (fun e=>by have:=hown1.lt _ e.symm;omega);have b7:Box4 w2 (w.heap.size+1) p0:=(b8.alloc _).grown hgrow (fun e=>by have:=hown1.lt _ e.symm;omega);have hnx2:Below w.heap.size w w2:=((hnx.trans (hb1.mono (by omega))).alloc (by omega) _).grown hgrow (by simp;omega) (fun j e=>by have:=hown1.lt j e;omega);have HO:=Zh hown';clear hown' hgrow hown hown1 b0 b1 b8 b9 hb1 hnx;go_wp2;go_roundw
         case rel=>exact⟨k+1,p0,by omega,by go_num,by rw[HE.out];simpa using HO.out,b2,b7,hnx2⟩
         case measure=>simp[intOf];omega
     . have HE:=Zh (zea (notP p) k (by simp[notP,hp]));go_wp2_with (go_at_call 67;(with_reducible refine (zix p k _ (by omega) (by omega)).mono ?_);rintro e w1 ⟨rfl,hb1⟩;rw[Int.toNat_natCast,hp]);go_roundw
       case rel=>exact⟨k+1,p0,by omega,by go_num,by rw[HE.out];exact za8 hown hb1,b0.stays hb1,b9.stays hb1,hnx.trans (hb1.mono (by omega))⟩
       case measure=>simp[intOf];omega
   . have:k=256:=by omega
     subst this;change wr.ownsRow _ _ _ _ (allP (notP p)).length ((allP (notP p)).map _) at hown;obtain⟨A,cap,rfl,hn,hr,hA⟩:=ziy hown;have HG:=Zh (zui (notP p));have HL:=Zh (zw4 (notP p));have HE:Hid (∀ x,x<256->memP (allP (notP p)) x=notP p x):=zi0 (notP p);clear hn hlt hk;go_wp2_with (go_at_call 69;(with_reducible refine (zpi _ _ _ (allP (notP p)) _ rfl hr HG.out HL.out).mono ?_);rintro e w1 ⟨rfl,hb1⟩;rw[zcz HE.out];unfold setV;obtain⟨d0,d1,d2,d3⟩:=(b9.stays hb1).cell;obtain⟨g0,g1,g2,g3⟩:=(b9.stays hb1).frozen);refine bodyPost_ret (v:=setV (notP p)) ?_ rfl ⟨rfl,zb6 (g:=w.heap.size+1) (hnx.trans (hb1.mono (by omega))) (by omega) (notP p)⟩;unfold setV;simp[results,Tryd.results128,go_sem,d0,d1,d2,d3]
theorem zvb (p q:Nat->Bool) (x:Nat) (hx:x<256):memP (allP p++allP q) x=orP p q x:=by
 have h1:=zi0 p x hx;have h2:=zi0 q x hx;unfold memP at *;rw[List.any_append,h1,h2];rfl
theorem zvf (xs ys:List Int):xs.length+ys.length=(xs++ys).length:=List.length_append.symm
theorem zvu (p q:Nat->Bool):∀ j,j<(allP p++allP q).length->0<=(allP p++allP q).getD j 0∧(allP p++allP q).getD j 0<=255:=by
 intro j hj;have hm:(allP p++allP q).getD j 0∈allP p++allP q:=by
   rw[List.getD_eq_getElem?_getD,List.getElem?_eq_getElem hj];exact List.getElem_mem hj
 rw[List.mem_append] at hm;rcases hm with h|h
 . have:=(zcp p 256 _).1 h;omega
 . have:=(zcp q 256 _).1 h;omega
set_option maxRecDepth 20000 in
set_option maxHeartbeats 2000000 in
theorem zsw (p q:Nat->Bool) (w:World):
   Calls Tryd.prog 38 #[.agg #[.int .u64 (word p 0),.int .u64 (word p 1),.int .u64 (word p 2),.int .u64 (word p 3)],.agg #[.int .u64 (word q 0),.int .u64 (word q 1),.int .u64 (word q 2),.int .u64 (word q 3)]] w
     fun e w'=>e = .returned (setV (orP p q))∧Below w.heap.size w w':=by
 obtain⟨i0,hi,hz0,hz1,hz2⟩:=info_parts Tryd.infoByte;have lp:=zdn p 256;have lq:=zdn q 256;change (allP p).length<=256 at lp;change (allP q).length<=256 at lq;obtain⟨w0,hw0⟩:∃ w0,w0=((w.alloc (.cells #[.int .u64 (word p 0),.int .u64 (word p 1),.int .u64 (word p 2),.int .u64 (word p 3)] 26)).alloc (.cells #[.int .u64 (word q 0),.int .u64 (word q 1),.int .u64 (word q 2),.int .u64 (word q 3)] 26)).alloc (.cells #[.int .u64 0,.int .u64 0,.int .u64 0,.int .u64 0] 26):=⟨_,rfl⟩;have bp:Box4 w0 w.heap.size p:=(by rw[hw0];exact ((Box4.new w p).alloc _).alloc _);have bq:Box4 w0 (w.heap.size+1) q:=by
   rw[hw0];have h:=Box4.new (w.alloc (.cells #[.int .u64 (word p 0),.int .u64 (word p 1),.int .u64 (word p 2),.int .u64 (word p 3)] 26)) q;rw[World.size_alloc] at h;exact h.alloc _
 have b9:Box4 w0 (w.heap.size+1+1) noneP:=by
   rw[hw0];have h:=Box4.new0 ((w.alloc (.cells #[.int .u64 (word p 0),.int .u64 (word p 1),.int .u64 (word p 2),.int .u64 (word p 3)] 26)).alloc (.cells #[.int .u64 (word q 0),.int .u64 (word q 1),.int .u64 (word q 2),.int .u64 (word q 3)] 26))
   rwa [World.size_alloc,World.size_alloc] at h
 have hB:Below w.heap.size w w0:=(by rw[hw0];exact (((Below.refl _ _).alloc (Nat.le_refl _) _).alloc (by simp) _).alloc (by simp;omega) _);have HW:=Zh hw0;clear hw0;go_enter Tryd.func38,Tryd.ntmps38;go_wp2_with fail;rw[←HW.out];clear HW;obtain⟨c0,c1,c2,c3⟩:=bp.cell;obtain⟨d0,d1,d2,d3⟩:=bq.cell;have hs0:=b9.lt;go_region_law (first
   | (refine zso _ (by rfl) _ _ 22 (by rfl) _ 5 i0 (.int .u8 0) 1 1 Tryd.underlying22 hi hz0 hz1 hz2 rfl (by decide) _ _ _ (by rfl) hown1' A2 _ cap2 _ (by rfl) (by simp) (fun h=>(hA2 h).1) (zv8 hr2) (zie _) (by unfold maxLen;omega) (by omega) hs2 ?_;intro v3 w3 hown3 hgrow;have hB3:=hB2.grown hgrow hB2.size (fun j e=>by have:=hown1'.lt j e;omega);have b3:=((b9.stays hb1).stays hb2).grown hgrow (fun e=>by have:=hown1'.lt _ e.symm;omega);rw[←List.map_append,←List.length_append] at hown3;obtain⟨A3,cap3,rfl,hn3,hr3,hA3⟩:=ziy hown3)
   | (go_simp;go_at_call 70;(with_reducible refine (zlm p _).mono ?_);rintro e w1 ⟨v1,rfl,hown1,hb1⟩;replace hb1:=zay hb1;change w1.ownsRow w0.heap.size _ _ _ _ _ at hown1;have hB1:=gro hB hb1;obtain⟨k0,k1,k2,k3⟩:=(bq.stays hb1).cell)
   | (go_simp;go_at_call 70;(with_reducible refine (zlm q _).mono ?_);rintro e w2 ⟨v2,rfl,hown2,hb2⟩;have hB2:=gro hB1 hb2;have hown1':=za8 hown1 hb2;have hs2:w0.heap.size<=w2.heap.size:=Nat.le_trans hb1.size hb2.size;obtain⟨A2,cap2,rfl,hn2,hr2,hA2⟩:=ziy hown2)
   | (go_simp;go_at_call 69;(with_reducible refine (zpi _ _ _ (allP p++allP q) _ (zvf (allP p) (allP q)) hr3 (zvu p q) (by simp;omega)).mono ?_);rintro e w4 ⟨rfl,hb4⟩;have hB4:=gro hB3 hb4;rw[zcz (zvb p q)];unfold setV;obtain⟨g0,g1,g2,g3⟩:=(b3.stays hb4).cell;obtain⟨f0,f1,f2,f3⟩:=(b3.stays hb4).frozen))
 all_goals go_wp2
 all_goals
   refine bodyPost_ret (v:=setV (orP p q)) ?_ rfl ⟨rfl,zb6 (g:=w.heap.size+1+1) hB4 (by omega) (orP p q)⟩;unfold setV;simp[results,Tryd.results38,go_sem,g0,g1,g2,g3]
end
end Go.Proofs.YtgbdanddbgomhaaDoor
