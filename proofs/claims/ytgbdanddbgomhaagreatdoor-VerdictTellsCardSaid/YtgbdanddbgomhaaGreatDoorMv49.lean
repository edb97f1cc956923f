import Derived.Test.YtgbdanddbgomhaaGreatDoorMv48
import Derived.Test.YtgbdanddbgomhaaGreatDoorMv20
import Derived.Test.YtgbdanddbgomhaaGreatDoorMv11
import Derived.Test.YtgbdanddbgomhaaGreatDoorCards
import Derived.Test.YtgbdanddbgomhaaGreatDoorTie
import Derived.ChangeMaps5
import Derived.LaidMore
import Derived.Lay
import Derived.Stop.Joined
import Derived.Lib.LaidTab
import Derived.SevenTiedAt
import Derived.HandedShaped
import Derived.LaidHandle
import Derived.Deep.Slices
set_option linter.unusedVariables false
set_option linter.unusedSimpArgs false
namespace Go.Proofs.YtgbdanddbgomhaaGreatDoor
open Go Go.RowKit
section
attribute [local go_sem ↓] Go.wp_at_zero Go.wp_at_succ
attribute [local go_sem ↓] zoy
def SpotV (w:World) (er:Value) (n k:Int):Prop:=(er = .iface 71 (.int .i64 1)∧n=1∧k = -1)∨∃ gs,er = .iface 69 (.pointer (some ⟨gs,0,none⟩))∧w.heap[gs]?=some (.cells #[.int .i64 k,.int .i64 n] 73 (0,0))
theorem SpotV.stays {w w':World} {er:Value} {n k:Int} (h:SpotV w er n k) (hb:Below w.heap.size w w'):SpotV w' er n k:=h.elim .inl fun ⟨gs,e,hg⟩ => .inr ⟨gs,e,(hb.block gs (za0 hg)).trans hg⟩
def RetCheck (w:World) (K:Int) (r:Except (Int×Int) (List (T×Bool))) (e:Ending) (w':World):Prop:=match r with
 | .ok l=>(∃ A c,e = .returned (.tuple #[.slice A l.length c,.int .i64 K,.nilIface])∧RdRules w' A l)∧Below w.heap.size w w'
 | .error (n,k)=>(∃ er,e = .returned (.tuple #[.slice none 0 0,.int .i64 0,er])∧SpotV w' er n k)∧Below w.heap.size w w'
theorem zll {α:Type} (l:List α) (k:Nat) (x:α) (h:l[k]?=some x):l.drop k=x::l.drop (k+1):=by
 obtain⟨hl,e⟩:=List.getElem?_eq_some_iff.1 h;rw[List.drop_eq_getElem_cons hl,e]
theorem zox (acc:List (T×Bool)) (r:T×Bool) (m:Nat) (hm:0<m):(acc++List.replicate m rule0).set acc.length r=acc++[r]++List.replicate (m-1) rule0:=by
 obtain⟨m,rfl⟩:∃ j,m=j+1:=⟨m-1,by omega⟩;rw[List.set_append_right _ _ (Nat.le_refl _),Nat.sub_self,List.replicate_succ,List.set_cons_zero];simp
set_option maxRecDepth 20000 in
set_option maxHeartbeats 4000000 in
theorem ze6 (c:Cf) (hc:CfW c) (s:ByteArray) (hs:s.size<=100000) (w:World) (hd:Dor w) (hm:MaxL w):
   Calls Tryz.prog 6 #[.string s,.agg #[.int .i64 c.lam,.int .i64 c.q,.int .i64 c.cap,.int .u64 (c.rate:Int),.int .u8 (c.mask:Int)]] w (RetCheck w (rateN c.rate:Int) (checkR s c)):=by
 have hb1:Below w.heap.size w (w.alloc (.cells #[.int .i64 c.lam,.int .i64 c.q,.int .i64 c.cap,.int .u64 (c.rate:Int),.int .u8 (c.mask:Int)] 24)):=(Below.refl _ _).alloc (Nat.le_refl _) _;have HC:=Zh (zhu c hc (w.alloc (.cells #[.int .i64 c.lam,.int .i64 c.q,.int .i64 c.cap,.int .u64 (c.rate:Int),.int .u8 (c.mask:Int)] 24)));unfold confV at HC;have HB1:=Zh hb1;have HBX:=Zh (heap_alloc_new w (.cells #[.int .i64 c.lam,.int .i64 c.q,.int .i64 c.cap,.int .u64 (c.rate:Int),.int .u8 (c.mask:Int)] 24));have HD:=Zh (hd.stays hb1);have HP:=Zh (fun W (hb:Below w.heap.size w W)=>zn3 W s hs (hm.stays hb));have HCW:=Zh hc;clear hb1 hd hc;unfold checkR;obtain⟨K,hK⟩:∃ K:Int,(rateN c.rate:Int)=K:=⟨_,rfl⟩;rw[hK] at HC ⊢;clear hK
 by_cases hk:cfOk c=true
 . simp only[if_pos hk] at HC ⊢;clear hk;cases hr:parseR s with
   | error x =>
     obtain⟨n,k⟩:=x;unfold RetPar at HP;simp only[hr] at HP;clear hr hs hm;go_enter Tryz.func6,Tryz.ntmps6;go_wp2_with (first
       | (go_at_call 16;(with_reducible refine HC.out.mono ?_);rintro e w2 ⟨rfl,hb2⟩;have HB2:=Zh hb2;clear hb2)
       | (go_at_call 17;(with_reducible refine (HP.out _ (gro HB1.out HB2.out)).mono ?_);rintro e w3 ⟨⟨gs,rfl,hgs,_⟩,hb3⟩;have HB3:=Zh hb3;have HGS:=Zh hgs;clear hb3 hgs))
     refine bodyPost_ret (results_tmp3 rfl _ _ _) rfl ?_;exact⟨⟨_,rfl,.inr ⟨gs,rfl,HGS.out⟩⟩,gro (gro HB1.out HB2.out) HB3.out⟩
   | ok l =>
     have hl8:=zcv hr;have hsz:=zep hr;unfold RetPar at HP;simp only[hr] at HP;have HSZ:Hid (∀ x∈l,x.pat.size<=9223372036854775807):=Zh fun x hx=>by have:=hsz x hx;omega
     clear hr hsz hs hm;obtain⟨N,hN⟩:∃ N,l.length=N:=⟨_,rfl⟩;rw[hN] at HP hl8;have HN:=Zh hN;clear hN;obtain⟨R,hR⟩:∃ R,checkL c.lam c.mask l 0 []=R:=⟨_,rfl⟩;change Calls _ _ _ _ (RetCheck w K (checkL c.lam c.mask l 0 []));rw[hR];have HR0:Hid (R=checkL c.lam c.mask (l.drop 0) 0 []):=Zh (by rw[←hR];rfl);clear hR;have HMK:=Zh (fun W=>RuleRow.made zih W N (by omega));go_enter Tryz.func6,Tryz.ntmps6;go_upto_region 7 with (first
       | (go_at_call 16;(with_reducible refine HC.out.mono ?_);rintro e w2 ⟨rfl,hb2⟩;have HB2:=Zh hb2;clear hb2)
       | (go_at_call 17;(with_reducible refine (HP.out _ (gro HB1.out HB2.out)).mono ?_);rintro e w3 ⟨⟨A,cp,rfl,hrd⟩,hb3⟩;have HB3:=Zh hb3;have HRD:=Zh hrd;clear hb3 hrd))
     obtain⟨wm,hmk,hrow,hbm⟩:=HMK.out w3;have HROW:=Zh hrow;have HBM:=Zh hbm;have HX3:=Zh ((HB3.out.block w.heap.size (by have:=HB2.out.size;simp only[World.size_alloc] at this;omega)).trans ((HB2.out.block w.heap.size (by simp)).trans HBX.out));have HD3:=Zh ((HD.out.stays HB2.out).stays HB3.out);have HW3:=Zh (gro (gro HB1.out HB2.out) HB3.out);clear hrow hbm;go_wp2;go_loopg [36] N (fun mm i wr=>∃ (k:Nat) (acc:List (T×Bool)),i = .int .i64 (k:Int)∧k<=N∧mm=N-k∧acc.length=k∧RuleRow 43 wr w3.heap.size (.slice (some ⟨w3.heap.size,0,none⟩) N N) (acc++List.replicate (N-k) rule0)∧Below w3.heap.size w3 wr∧R=checkL c.lam c.mask (l.drop k) k acc)
     case atStart=>exact⟨0,[],rfl,Nat.zero_le _,rfl,rfl,HROW.out,HBM.out,HR0.out⟩
     case round =>
       obtain⟨k,acc,rfl,hk,hmk2,hacc,hv,hbw,hq⟩:=hrel;have HMM:=Zh hmk2;have HACC:=Zh hacc;have HV:=Zh hv;have HBW:=Zh hbw;have HQ:=Zh hq;have HXR:=Zh ((hbw.block w.heap.size (za0 HX3.out)).trans HX3.out);have HDR:=Zh (HD3.out.stays hbw);have HWR:=Zh (gro HW3.out hbw);clear hmk2 hacc hv hbw hq
       by_cases hkN:k<N
       . have hkN':(k:Int)<(N:Int):=(by omega);have hk0:(0:Int)<=(k:Int):=(by omega);obtain⟨x,hx⟩:∃ x,l[k]?=some x:=⟨_,List.getElem?_eq_getElem (by rw[HN.out];exact hkN)⟩;obtain⟨g,off,e0,hg,c0,c1,c2⟩:=(HRD.out.stays HBW.out) k x hx;subst e0;have HQ1:Hid (R=checkL c.lam c.mask (x::l.drop (k+1)) k acc):=Zh (by rw[HQ.out,zll l k x hx]);have HXS:=Zh (HSZ.out x (List.mem_of_getElem? hx));clear hx;go_upto_region 11 with fail
         generalize hw4:wr.alloc (.cells #[.string x.name,.string x.pat,.bool x.luhn] 58)=w4 at *;have hb4:Below wr.heap.size wr w4:=(by rw[←hw4];exact (Below.refl _ _).alloc (Nat.le_refl _) _);have hr4:RB w4 wr.heap.size x:=(by rw[←hw4];exact RB.new _ _);have hx4:=(hb4.block w.heap.size (za0 HXR.out)).trans HXR.out;obtain⟨r0,r1,r2⟩:=hr4.cell;have y0:=cell_of_row w4 w.heap.size 0 _ 24 (0,0) hx4;have y1:=cell_of_row w4 w.heap.size 1 _ 24 (0,0) hx4;have y2:=cell_of_row w4 w.heap.size 2 _ 24 (0,0) hx4;have y3:=cell_of_row w4 w.heap.size 3 _ 24 (0,0) hx4;have y4:=cell_of_row w4 w.heap.size 4 _ 24 (0,0) hx4;simp only[List.getElem?_toArray,List.getElem?_cons_succ,List.getElem?_cons_zero] at y0 y1 y2 y3 y4;have HREAD:=Zh (zr2 c HCW.out x.pat HXS.out w4 (HDR.out.stays hb4));have HB4:=Zh hb4;have HR4:=Zh hr4;clear hw4 hb4 hr4 hx4 c0 c1 c2;unfold RetRead at HREAD;cases hp:readP c.lam c.mask x.pat with
         | error n =>
           simp only[hp] at HREAD;have HE:Hid (R = .error (n,(k:Int))):=Zh (by rw[HQ1.out,checkL,hp]);clear hp;go_upto_region 12 with (go_at_call 18;(with_reducible refine HREAD.out.mono ?_);rintro e w5 ⟨⟨er,rfl,her⟩,hb5⟩;have HB5:=Zh hb5;have HER:=Zh her;unfold nodeV;clear hb5 her)
           generalize hw6:w5.alloc (.cells #[.int .i64 T.zero.op,.int .u64 (word T.zero.set 0),.int .u64 (word T.zero.set 1),.int .u64 (word T.zero.set 2),.int .u64 (word T.zero.set 3),.int .i64 T.zero.lo,.int .i64 T.zero.hi,.slice none 0 0] 41)=w6 at *;have hb6:Below w5.heap.size w5 w6:=(by rw[←hw6];exact (Below.refl _ _).alloc (Nat.le_refl _) _);have hw:Below w.heap.size w w6:=gro (gro (gro HWR.out HB4.out) HB5.out) hb6;have HW6:=Zh hw;have HPL:=Zh (zp6 (k:Int) er n w6 (HER.out.stays hb6) (((HDR.out.stays HB4.out).stays HB5.out).stays hb6).err);obtain⟨ty,v,rfl⟩:∃ ty v,er = .iface ty v:=by rcases HER.out with rfl|⟨gs,x,rfl,_⟩ <;> exact⟨_,_,rfl⟩
           clear hw6 hb6 hw;go_wp2_with (go_at_call 19;(with_reducible refine HPL.out.mono ?_);rintro e w7 ⟨gs,rfl,hgs,_,hb7⟩;have HB7:=Zh hb7;have HGS:=Zh hgs;clear hb7 hgs);refine bodyPost_ret (results_tmp3 rfl _ _ _) rfl ?_;rw[HE.out];exact⟨⟨_,rfl,.inr ⟨gs,rfl,HGS.out⟩⟩,gro HW6.out HB7.out⟩
         | ok t =>
           simp only[hp] at HREAD;have HE:Hid (R=checkL c.lam c.mask (l.drop (k+1)) (k+1) (acc++[(t,x.luhn)])):=Zh (by rw[HQ1.out,checkL,hp]);clear hp;go_upto_region 12 with (go_at_call 18;(with_reducible refine HREAD.out.mono ?_);rintro e w5 ⟨⟨kk,rfl,ht⟩,hb5⟩;obtain⟨A5,n5,c5,rfl⟩:=ht.form;have HB5:=Zh hb5;have HT:=Zh ht;unfold nodeV;clear hb5 ht)
           generalize hw6:w5.alloc (.cells #[.int .i64 t.op,.int .u64 (word t.set 0),.int .u64 (word t.set 1),.int .u64 (word t.set 2),.int .u64 (word t.set 3),.int .i64 t.lo,.int .i64 t.hi,.slice A5 n5 c5] 41)=w6 at *;have hb6:Below w5.heap.size w5 w6:=(by rw[←hw6];exact (Below.refl _ _).alloc (Nat.le_refl _) _);have hn6:Box8 w6 w5.heap.size t (.slice A5 n5 c5):=(by rw[←hw6];exact Box8.new _ _ _);have hw:Below wr.heap.size wr w6:=gro (gro HB4.out HB5.out) hb6;obtain⟨n0,n1,n2,n3,n4,n5',n6,n7⟩:=hn6.cell;obtain⟨r0,r1,r2⟩:=((HR4.out.stays HB5.out).stays hb6).cell;have hlen:(acc++List.replicate (N-k) rule0).length=N:=(by have:=HACC.out;simp;omega);have hv6:=HV.out.stays hw;have hv6':RuleRow 43 w6 w3.heap.size (.slice (some ⟨w3.heap.size,0,none⟩) (acc++List.replicate (N-k) rule0).length N) (acc++List.replicate (N-k) rule0):=(by rw[hlen];exact hv6);have hkl:k<(acc++List.replicate (N-k) rule0).length:=(by rw[hlen];exact hkN);have hst:=RuleRow.stoM zih hv6' hkl (t,x.luhn) A5 n5 c5;have hB3:=HBW.out.size;have hset:=RuleRow.setM zih hv6' hkl (t,x.luhn) (.slice A5 n5 c5) (((HT.out.stays hb6)).weak fun b hb _=>by have:=HB4.out.size;have:=HB5.out.size;omega);rw[hlen] at hset;have hacc:acc.length=k:=HACC.out;have hnx:(acc++List.replicate (N-k) rule0).set k (t,x.luhn)=(acc++[(t,x.luhn)])++List.replicate (N-(k+1)) rule0:=by
             have:=zox acc (t,x.luhn) (N-k) (by omega);rw[hacc] at this;rw[this,show N-k-1=N-(k+1) by omega]
           rw[hnx] at hset;have HSET:=Zh hset;have HW:=Zh hw;unfold ruleV at hst;clear hw6 hb6 hn6 hw hlen hv6 hv6' hkl hset hacc hnx;go_wp2;go_roundg (N-(k+1))
           case measure=>have:=HMM.out;omega
           case rel=>exact⟨k+1,acc++[(t,x.luhn)],by go_num,by omega,rfl,by simp[HACC.out],HSET.out,ziu (r:=(t,x.luhn)) (k := .slice A5 n5 c5) (gro HBW.out HW.out) (Nat.le_refl _),HE.out⟩
       . have hkn:k=N:=(by omega);have HL:Hid (R = .ok acc):=Zh (by
           have hd0:l.drop k=[]:=List.drop_eq_nil_of_le (by rw[HN.out];omega);rw[HQ.out,hd0,checkL])
         have ha:acc.length=N:=(by rw[HACC.out,hkn]);have hvv:RuleRow 43 wr w3.heap.size (.slice (some ⟨w3.heap.size,0,none⟩) N N) acc:=by
           have:=HV.out;rw[hkn,Nat.sub_self,List.replicate_zero,List.append_nil] at this;exact this
         have HVV:=Zh hvv;have HA:=Zh ha;have hkn':¬ (k:Int)<(N:Int):=(by omega);clear hkn ha hvv;go_wp2;refine bodyPost_ret (results_tmp3 rfl _ _ _) rfl ?_;rw[HL.out];exact⟨⟨some ⟨w3.heap.size,0,none⟩,N,by rw[HA.out];rfl,HVV.out.rd rfl⟩,HWR.out⟩
 . have hk':cfOk c=false:=(by cases h:cfOk c;rfl;exact absurd h hk);simp only[hk',Bool.false_eq_true,if_false] at HC ⊢;clear hk hk' hs hm;go_enter Tryz.func6,Tryz.ntmps6;go_wp2_with (go_at_call 16;(with_reducible refine HC.out.mono ?_);rintro e w2 ⟨rfl,hb2⟩;have HB2:=Zh hb2;clear hb2);refine bodyPost_ret (results_tmp3 rfl _ _ _) rfl ?_;exact⟨⟨_,rfl,.inl ⟨rfl,rfl,rfl⟩⟩,gro HB1.out HB2.out⟩
end
section
open Go Go.ChangeShapes Go.WideShapes Go.ChangeAt Go.RowKit Go.Deep
def laidVer : List (String × DataW Unit) := [("math/bits.deBruijn64tab", Rows.laid_math_bits_deBruijn64tab), ("unicode/utf8.acceptRanges", Rows.laid_unicode_utf8_acceptRanges), ("errors.errorType", Rows.laid_errors_errorType), ("unicode/utf8.first", Rows.laid_unicode_utf8_first)]
def plainVer : List (String × DataW Unit) := [("math/bits.deBruijn64tab", Rows.laid_math_bits_deBruijn64tab), ("unicode/utf8.acceptRanges", Rows.laid_unicode_utf8_acceptRanges), ("unicode/utf8.first", Rows.laid_unicode_utf8_first)]
theorem zfk {W : World} (h : laidMetH Tryz.prog laidVer W) : laidMet Tryz.prog plainVer W ∧ handlesMet Tryz.prog [("errors.errorType", Rows.laid_errors_errorType)] W := h
def deInts15:List Int:=deBr.map fun (n:Nat)=>(n:Int)
theorem znh {H:Type}:(Rows.laid_math_bits_deBruijn64tab:DataW H)=Lib.tabData .u8 deInts15:=rfl
theorem gDe15 : Tryz.prog.globalNamed "math/bits.deBruijn64tab" = some 3 := by kernel_rfl
theorem tDe15:(Tryz.prog.globals[3]?).map (·.type)=some 168:=by kernel_rfl
theorem tab15 {W:World} (h:laidMetH Tryz.prog laidVer W):Tab W:=by
 have h:=(zfk h).1;unfold plainVer at h;rw[znh] at h;have ht:=Lib.tabIs_of_head gDe15 tDe15 Tryz.underlying168 Tryz.underlying5 (by kernel_rfl) (by kernel_rfl) h;have hc:∀ k,k<64->W.cell? ⟨3,k,none⟩=some (.int .u8 (deBr.getD k 0:Nat)):=fun k hk=>by
   have hl:deInts15.length=64:=(by decide +kernel);rw[ht.cell gDe15 k (by omega)];have e:deInts15.getD k 0=((deBr.getD k 0:Nat):Int):=by
     unfold deInts15;rw[List.getD_eq_getElem?_getD,List.getD_eq_getElem?_getD,List.getElem?_map];cases deBr[k]? <;> rfl
   rw[e]
 exact⟨World.block_lt_of_cell? W _ (hc 0 (by omega)),hc⟩
theorem et15 : Tryz.prog.globalNamed "errors.errorType" = some 0 := by kernel_rfl
theorem rt15 : (Tryz.prog.cutTypes.find? (·.1 == "internal/reflectlite.rtype")).map (·.2) = some 148 := by kernel_rfl
theorem size15:Tryz.prog.types.size=218:=by kernel_rfl
theorem row15:((List.range 218).filter fun t=>Tryz.prog.rowNamed t [101,114,114,111,114])=[28]:=by kernel_rfl
theorem err15 {W:World} (h:laidMetH Tryz.prog laidVer W):ErrT W:=by
 obtain⟨name,u,ty,e1,e2,e3,e4,e5⟩:=(zfk h).2 _ (List.mem_singleton.2 rfl);have en:name=[101,114,114,111,114]:=(Option.some.inj e1).symm;subst en;obtain rfl:=Option.some.inj (rt15.symm.trans e2);have hm:ty∈(List.range 218).filter fun t=>Tryz.prog.rowNamed t [101,114,114,111,114]:=List.mem_filter.2 ⟨List.mem_range.2 (by rw[←size15];exact e3),e4⟩
 rw[row15] at hm;obtain rfl:=List.mem_singleton.1 hm;have hh:typeHandle Tryz.prog 28 = .pointer (some ⟨6,28,none⟩):=(by kernel_rfl);rw[hh] at e5
 simpa [ErrT] using World.var?_cell et15 e5 0
theorem dor15 {W:World} (h:laidMetH Tryz.prog laidVer W):Dor W:=⟨tab15 h,err15 h⟩
theorem maxl15 {W:World} (h:W.ShapedOpen Tryz.prog):MaxL W:=
 cell_of_shapedOpen_int (P:=Tryz.prog) (g:=2) (t:=3) (zero:=#[.int .i64 0]) h (of_decide_eq_true (by kernel_rfl)) (by kernel_rfl) rfl (by kernel_rfl) (by kernel_rfl) Tryz.underlying3
noncomputable def base15 (os:Os):World:=
 let w0:=World.holding Tryz.prog os ⟨#[],#[],[]⟩
 {w0 with heap:=w0.heap.modify 0 fun
     | .cells _ t frozen => .cells #[.iface 148 (.agg #[.pointer (some ⟨6,28,none⟩)])] t frozen
     | o=>o}
noncomputable def world15 (os:Os):World:=(base15 os).layVars Tryz.prog plainVer
theorem met15 (os:Os) (args:Array Value):laidMetH Tryz.prog laidVer ((world15 os).forCall (fun _ _=>0) ⟨#[],args,[]⟩).memory:=by
 have e1:(plainVer.filter fun x=>(plainVer.map (·.1)).contains x.1)=plainVer:=List.filter_eq_self.2 fun x hx=>List.contains_iff_mem.2 (List.mem_map.2 ⟨x,hx,rfl⟩)
 have e2:(plainVer.filter fun x => !(plainVer.map (·.1)).contains x.1)=[]:=List.filter_eq_nil_iff.2 fun x hx=>by rw[List.contains_iff_mem.2 (List.mem_map.2 ⟨x,hx,rfl⟩)];simp
 have hf:(base15 os).layFits Tryz.prog plainVer []=true:=(by kernel_rfl);have hi:(base15 os).layIfaces Tryz.prog plainVer (world15 os)=true:=(by kernel_rfl);have h:laidMet Tryz.prog plainVer (world15 os):=laidMet_layVars (w0:=base15 os) (plainVer.map (·.1)) [] (by rw[e1];rfl) (by rw[e1];exact hf) (by rw[e1];exact hi) (by rw[e2];exact LaidIn.none);exact laidMetH_of_parts (h.of_heap (by simp[World.memory,World.forCall,Input.heap])) (by kernel_rfl)
theorem zju {α:Type} {cs:List α} (h:cs.length=5):∃ c0 c1 c2 c3 c4,cs=[c0,c1,c2,c3,c4]:=by
 match cs,h with
 | [c0,c1,c2,c3,c4],_=>exact⟨c0,c1,c2,c3,c4,rfl⟩
theorem zs5:Tryz.prog.cellsOf 24=5:=by kernel_rfl
theorem zlp:Tryz.prog.cellsOf 3=1:=by kernel_rfl
theorem zq6:Tryz.prog.cellsOf 22=1:=by kernel_rfl
theorem zs4:Tryz.prog.cellsOf 5=1:=by kernel_rfl
section
set_option maxRecDepth 20000
variable {H:Type} {enc:TypeId×Value->H} {W:World} {base:Nat} {held:Bool} {v:Value} {d:DataW H} {ps:List MemPlace}
theorem zrj (hv:Value.okWide Tryz.prog W .any base 24 v) (h:DataW.Trod enc Tryz.prog W 0 (fun _=>true) held 24 v d ps):∃ c:Cf,v = .agg #[.int .i64 c.lam,.int .i64 c.q,.int .i64 c.cap,.int .u64 (c.rate:Int),.int .u8 (c.mask:Int)]∧CfW c:=by
 obtain⟨cs,rfl,hsz,_⟩:∃ cs,v = .agg cs∧cs.size=Tryz.prog.cellsOf 24∧Row.okWide Tryz.prog W .any base 24 cs:=by
   simpa [Value.okWide,Tryz.underlying24] using hv
 rw[zs5] at hsz;obtain⟨l⟩:=cs;obtain⟨c0,c1,c2,c3,c4,rfl⟩:=zju (show l.length=5 from hsz);obtain⟨fuel,hf⟩:=h;obtain⟨xs,n,_,_,_,hlen,hf⟩:=DataW.trod_struct Tryz.underlying24 hf;obtain⟨y0,y1,y2,y3,y4,rfl⟩:=zju (show xs.length=5 from hlen);have h0:=hf 0 _ rfl;have h1:=hf 1 _ rfl;have h2:=hf 2 _ rfl;have h3:=hf 3 _ rfl;have h4:=hf 4 _ rfl;simp[zlp,zq6,zs4,Value.cells] at h0 h1 h2 h3 h4;obtain⟨x0,e0,_,w0⟩:=DataW.trod_int Tryz.underlying3 h0;obtain⟨x1,e1,_,w1⟩:=DataW.trod_int Tryz.underlying3 h1;obtain⟨x2,e2,_,w2⟩:=DataW.trod_int Tryz.underlying3 h2;obtain⟨x3,e3,_,w3⟩:=DataW.trod_int Tryz.underlying22 h3;obtain⟨x4,e4,_,w4⟩:=DataW.trod_int Tryz.underlying5 h4;simp at e0 e1 e2 e3 e4;subst e0 e1 e2 e3 e4;have b0:=bounds_i64 w0;have b1:=bounds_i64 w1;have b2:=bounds_i64 w2;have b3:=bounds_u64 w3;have b4:=bounds_u8 w4;refine⟨⟨x0,x1,x2,x3.toNat,x4.toNat⟩,?_,⟨?_,?_,b0,b1,b2⟩⟩
 . rw[show ((x3.toNat:Nat):Int)=x3 by omega,show ((x4.toNat:Nat):Int)=x4 by omega]
 . show x3.toNat<_;omega
 . show x4.toNat<=_;omega
end
theorem zcz {H:Type} {enc:TypeId×Value->H} {a:Assume} {C:Checked} {os:Os} {f:FuncId} {fn:Func} {s:ChangeSpec} {conds:List PathCond} {apart fresh handsOn again:Bool} {X:World->Array Value->Prop}
   (hX:∀ (w w':World) (args:Array Value),w'.heap=w.heap->X w args->X w' args) (own:ownKnob C.prog.godebug=none) (started:os.Started) (noInit:C.prog.inits.idxOf? f=none) (hfn:C.prog.funcs[f]?=some fn)
   (witness:∃ (w:World) (tape:Tape) (i:Input),w.os=os∧(w.forCall tape i).Shaped C.prog∧i.vars=[]∧Input.okWide C.prog (w.forCall tape i) .any w.heap.size f i∧
     ((s.pre enc C.prog fn conds apart (w.forCall tape i).memory i.args∧X (w.forCall tape i).memory i.args)∧sizedMet enc C.prog fn (OpenSpec.ofChange s) apart (w.forCall tape i).memory i.args)∧a.holds C.prog (lone (Frame.enter C.prog f i.args .normal) [] (w.forCall tape i)))
   (walk:∀ (W:World) (base:Nat) (args:Array Value) (ds gs:List (DataW H)) (before:List MemPlace),
     (∀ (j:Nat) t v,fn.params[j]?=some t->args[j]?=some v->Value.okWide C.prog W .any base t v)->
     DataW.Whole enc C.prog fn.params.toList s.vars apart W args.toList ds gs before->
     W.ShapedOpen C.prog->X W args->
     (DataW.weightsEach C.prog (fn.params.toList++s.plain.varTypes C.prog) (ds++gs)).all (· <= reachBytes)=true->
     Calls C.prog f args W fun e W'=>∃ v,e = .returned v∧s.post enc C.prog fn apart fresh handsOn again W args v W'):
   ReturnsInHanded a C os f .any (fun w args=>(s.pre enc C.prog fn conds apart w args∧X w args)∧sizedMet enc C.prog fn (OpenSpec.ofChange s) apart w args) (s.post enc C.prog fn apart fresh handsOn again):=by
 refine returnsInHanded_of_calls own started noInit witness ?_;rintro w tape i _ hshape _ ⟨_,_,_,fn',hfn',_,_,_,_,hval⟩ ⟨⟨⟨ds,gs,before,hw,_⟩,hx⟩,hz⟩ _;obtain rfl:fn'=fn:=Option.some.inj (hfn'.symm.trans hfn);refine (walk (w.forCall tape i) w.heap.size i.args ds gs before hval (DataW.Whole.of_heap (by rfl) hw) hshape (hX _ _ _ (by rfl) hx) (hz.weights hw)).mono ?_;rintro e W' ⟨v,rfl,hp⟩;exact ChangeSpec.post_blind hp
end
end Go.Proofs.YtgbdanddbgomhaaGreatDoor
