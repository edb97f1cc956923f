import Derived.Test.YtipfgpfplakhiaaDoorTw6
import Derived.Lib.BufferMore
import Derived.Maps.OwnSet
import Derived.StringKeys
import Derived.Deep.RegionHeld
import Derived.Deep.Cut
set_option linter.unusedVariables false
set_option linter.unusedSimpArgs false
set_option maxRecDepth 20000
set_option maxHeartbeats 4000000
namespace Go.Proofs.YtipfgpfplakhiaaDoor
open Go Go.RowKit
section
attribute [local go_sem ↓] Go.wp_at_zero Go.wp_at_succ
theorem zxz (l:List (Nat×Nat)):∀ u∈wdsC l,u.oneCell'=true:=by
 intro u hu;simp only[wdsC,List.mem_flatMap,yfi,yfk,or_false] at hu;obtain⟨x,_,rfl|rfl⟩:=hu <;> rfl
theorem zy0 {w:World} {D:Nat} {v:Value} {l:List (Nat×Nat)} (h:Wds w D v l) (hl:l.length<=100000):
 Calls Tryd.prog 42 #[v] w fun e w'=>∃ v',e = .returned v'∧Wds w' w.heap.size v' l∧Below w.heap.size w w':=by
 obtain⟨i0,hi,hz0,hz1,hz2⟩:=info_parts Tryd.infoWords;have h0:=h;rcases h.2 with ⟨rfl,hn⟩|⟨g,cap,cur,rfl,hB,hg,hnc,hcm,hcs,htk⟩
 .have hx:l=[]:=yh9.1 hn;subst hx;have he:=Lib.run_eql_slice_nil_nil (P:=Tryd.prog) w 0 0 Tryd.underlying88;clear h h0 hi hz0 hz1 hz2;go_enter Tryd.func42,Tryd.ntmps42;go_wp2;go_ret;exact⟨_,rfl,yfx w w.heap.size _ 2,yf6 _ _⟩
 .have he:=Lib.run_eql_slice_some_nil (P:=Tryd.prog) w ⟨g,0,none⟩ l.length cap Tryd.underlying88;have hown:(w.alloc (.cells #[] 124)).ownsRow w.heap.size 124 2 (.slice (some ⟨w.heap.size,0,none⟩) 0 0) 0 []:=yhz w #[] 0 (yez _) yij rfl;have hnews:∀ j u,(wdsC l)[j]?=some u->(w.alloc (.cells #[] 124)).cell? ((⟨g,0,none⟩:Addr).add j)=some u:=by
   intro j u hu;have hj:j<l.length*2:=by
    rcases ygs j (l.length*2) with h' | h'
    .exact h'
    .rw[yfj (by rw[zqn];exact h')] at hu;cases hu
   rw[Addr.add_lit,yg5];refine za4 ?_ ((yf6 _ _).alloc (yez _) _);rw[yf7 h0 j yie];exact hu
  obtain⟨L,hL⟩:∃ L,l.length=L:=⟨_,rfl⟩;have HO:=Zh hown;have HN:=Zh hnews;have HL:=Zh hL;rw[hL] at he hl ⊢;clear hown hnews h h0 hL hg hnc hcs htk;go_enter Tryd.func42,Tryd.ntmps42;go_wp2_with (at_builtin;refine wpList_append_own _ rfl _ _ 88 rfl w.heap.size 124 i0 _ 2 16 Tryd.underlying88 hi hz0 hz1 hz2 rfl yij _ _ _ rfl HO.o ⟨g,0,none⟩ L cap (wdsC l) rfl (by rw[zqn,HL.o]) HN.o (zxz l) ?c3 ?c4 ?c5 ?_)
  case c3=>unfold maxLen;omega
  case c4=>omega
  case c5=>simp
  .intro v' w2 hown' hgrow _;have HO2:=Zh hown';have hB2:Below w.heap.size w w2:=((yf6 _ _).alloc (yez _) _).grown hgrow yii (fun j e=>((HO.o).lt j e).1);have HB2:=Zh hB2;clear hgrow hown' hB2;go_wp2;go_ret;refine⟨v',rfl,?_,HB2.o⟩;have h2:=HO2.o;rw[←HL.o] at h2;exact h2
abbrev Sta:=List (Nat×Nat)
def okSt (s:Sta):Prop:=∀ x∈s,x.1<2 ^ 63∧x.2<2 ^ 64
def keyI (s:Sta):List Int:=(keyB s).map fun (b:Nat)=>(b:Int)
theorem zzk (s:Sta):(keyI s).length=s.length*16:=by simp[keyI,zfw]
def keyS (s:Sta):ByteArray:=strOfNums (keyI s)
theorem zoj (s:Sta):(keyS s).size=s.length*16:=by unfold keyS;rw[strOfNums_size,zzk]
def litK (s:Sta):Lit := .string (keyS s).data.toList
theorem ydc {a b:Nat} (ha:a<256) (hb:b<256) (h:UInt8.ofNat a=UInt8.ofNat b):a=b:=by
 have:=congrArg UInt8.toNat h
 simpa [UInt8.toNat_ofNat',yh8 ha,yh8 hb] using this
theorem zl4:∀ (l k:List Nat),(∀ b∈l,b<256)->(∀ b∈k,b<256)->l.map UInt8.ofNat=k.map UInt8.ofNat->l=k
 | [],[],_,_,_=>rfl
 | a::l,b::k,h1,h2,h=>by
  simp only[ygo,List.cons.injEq] at h;have e1:=ydc (h1 a yii) (h2 b yii) h.1;have e2:=zl4 l k (fun x hx=>h1 x yj4) (fun x hx=>h2 x yj4) h.2;rw[e1,e2]
 | [],_::_,_,_,h=>by simp at h
 | _::_,[],_,_,h=>by simp at h
theorem zze {s t:Sta} (hs:okSt s) (ht:okSt t) (h:litK s=litK t):s=t:=by
 unfold litK at h;injection h with h
 unfold keyS at h;rw[strOfNums_data,strOfNums_data] at h;have e:∀ u:Sta,(keyI u).map (fun n=>UInt8.ofNat n.toNat)=(keyB u).map UInt8.ofNat:=fun u=>by simp[keyI,Function.comp_def]
 rw[e,e] at h;have w1:∀ x∈s,x.1<2 ^ 64∧x.2<2 ^ 64:=fun x hx=>⟨by have:=(hs x hx).1;omega,(hs x hx).2⟩
 have w2:∀ x∈t,x.1<2 ^ 64∧x.2<2 ^ 64:=fun x hx=>⟨by have:=(ht x hx).1;omega,(ht x hx).2⟩
 exact zro s t w1 w2 (zl4 _ _ (zwi s w1) (zwi t w2) h)
structure MapIs (D:DataW Unit) (ss:List Sta):Prop where
 isMap:Maps.IsMap D
 has:∀ s,okSt s->(Maps.has D (litK s)=true↔s∈ss)
 idx:∀ (i:Nat) s,ss[i]?=some s->D.atKey (litK s) (.lit (.int .i64 0)) = .lit (.int .i64 i)
 ok:∀ s∈ss,okSt s
theorem MapIs.nil:MapIs (.map []) []:=⟨⟨[],rfl⟩,fun s _=>by simp[Maps.has_eq],fun i s h=>by simp at h,fun s h=>by simp at h⟩
theorem MapIs.put {D:DataW Unit} {ss:List Sta} (h:MapIs D ss) {s:Sta} (hs:okSt s) (hn:s∉ss):MapIs (D.put (litK s) (.lit (.int .i64 (ss.length:Nat)))) (ss++[s]):=by
 have hk:WideAt.IsKeyLit (litK s):=(by unfold litK;trivial);have hne:∀ t,okSt t->t≠s->litK t≠litK s:=fun t ht e e'=>e (zze ht hs e')
 refine⟨h.isMap.put _ _,fun t ht=>?_,fun i t e=>?_,fun t ht=>?_⟩
 .by_cases e:t=s
  .subst e;simp[Maps.has_put_same h.isMap hk]
  .rw[Maps.has_put_other (hne t ht e),h.has t ht];simp[e]
 .by_cases hi:i<ss.length
  .rw[yfb hi] at e;have hm:=yfh e;rw[Maps.atKey_put_other (hne t (h.ok t hm) fun e'=>hn (e' ▸ hm))];exact h.idx i t e
  .have hi':i=ss.length:=by
    have:=(yf4.1 e).1;simp at this;omega
   subst hi';simp at e;subst e;exact Maps.atKey_put_same h.isMap hk _ _
 .rcases yfm.1 ht with h' | h'
  .exact h.ok t h'
  .rw[yfn] at h';exact h' ▸ hs
structure Known (w:World) (K:Nat->Prop) (gs:Nat) (ss:List Sta):Prop where
 mem:∃ va bm vs D,w.heap[gs]?=some (.cells #[va,.map (some bm)] 86 (0,0))∧vs.length=ss.length∧w.ownsRow 0 88 1 va ss.length vs∧(∀ (i:Nat) v s,vs[i]?=some v->ss[i]?=some s->Wds w 0 v s)∧
  w.ownsMap (H:=Unit) Tryd.prog 9 (plainElem Tryd.prog 3) bm ss.length D∧MapIs D ss∧K gs∧K bm∧(∀ b,va.ownBlock=some b->K b)∧∀ v∈vs,∀ b,v.ownBlock=some b->K b
 lt:∀ b,K b->b<w.heap.size
 nodup:ss.Nodup
theorem Known.off {w w':World} {K Q:Nat->Prop} {gs:Nat} {ss:List Sta} (h:Known w K gs ss) (hk:Kept Q w w') (hq:∀ b,Q b->¬ K b):Known w' K gs ss:=by
 obtain⟨va,bm,vs,D,h1,h2,h3,h4,h5,h6,k1,k2,k3,k4⟩:=h.mem;have hb:∀ b,K b->w'.heap[b]?=w.heap[b]?:=fun b hb=>hk.block b (h.lt b hb) fun q=>hq b q hb
 refine⟨⟨va,bm,vs,D,(hb gs k1).trans h1,h2,za8 h3 fun b e _=>hb b (k3 b e),fun i v s e1 e2=>(h4 i v s e1 e2).block fun b e _=>hb b (k4 v (yfh e1) b e),?_,h6,k1,k2,k3,k4⟩,fun b hb'=>yff (h.lt b hb') hk.size,h.nodup⟩;obtain⟨es,clock,hm,r⟩:=h5;exact⟨es,clock,(hb bm k2).trans hm,r⟩
end
section
open Go Go.RowKit Go.Maps
attribute [local go_sem ↓] Go.wp_at_zero Go.wp_at_succ
attribute [local go_sem ↓] zgq
def zxs (w:World) (K:Nat->Prop) (gs:Nat) (ss:List Sta) (st:Sta) (e:Ending) (w':World):Prop:=
 ∃ (i:Nat) (ss':List Sta) (K':Nat->Prop),e = .returned (.int .i64 i)∧ss'[i]?=some st∧(ss'=ss∨(st∉ss∧ss'=ss++[st]))∧Known w' K' gs ss'∧(∀ b,K' b->K b∨w.heap.size<=b)∧Kept K w w'
theorem yam:Keyed Tryd.prog 9:=string_keyed Tryd.underlying9
theorem Tryd.zeroIntM (w:World):(zeroValue 3).run Tryd.prog w = .ok (.int .i64 0) w:=by kernel_rfl
theorem Tryd.infoSlM:(Tryd.prog.info? 88).map (fun i=>(i.zero,i.size,i.bytes))=some (some (.slice none 0 0),1,24):=by kernel_rfl
theorem yag (x:Int) (h0:0<=x) (h1:x<=100000):(Lit.int .i64 x).wf=true:=by
 have e1:IntKind.i64.min = -9223372036854775808:=yij;have e2:IntKind.i64.max=9223372036854775807:=by decide
 show (decide (IntKind.i64.min<=x)&&decide (x<=IntKind.i64.max))=true
 rw[e1,e2];simp;omega
theorem ycs {w:World} {B:Nat} {v:Value} {s:Sta} (h:Bts w B v (keyB s)):Bys w B v (keyI s):=by
 unfold Bts at h;unfold Bys;have e:(keyI s).map (Value.int .u8)=zd0 (keyB s):=(by simp[keyI,zd0]);rw[e,show (keyI s).length=(keyB s).length by simp[keyI]];exact h
theorem zre {w:World} {bm n:Nat} {D:DataW Unit} (h:w.ownsMap (H:=Unit) Tryd.prog 9 (plainElem Tryd.prog 3) bm n D) {s:Sta} (hs:s.length<=100000) {c:Int} (hc:D.atKey (litK s) (.lit (.int .i64 0)) = .lit (.int .i64 c)):
 (Instr.lookup 83 (.map (some bm)) (.string (keyS s)) true).run Tryd.prog w = .ok (.tuple #[.int .i64 c,.bool (Maps.has D (litK s))]) w:=by
 obtain⟨v,ps,hrun,hv⟩:=h.look_ok yam Tryd.underlying83 (Tryd.zeroIntM w) (plainElem_int Tryd.underlying3 (a:=0) yij) (Go.WideMaps.keyOf_string_mk Tryd.underlying9 (s:=keyS s) (by rw[zoj];unfold maxLen;omega));obtain⟨a,rfl,h2,_⟩:=plainElem_int_inv Tryd.underlying3 hv;have h3:D.atKey (litK s) (.lit (.int .i64 0)) = .lit (.int .i64 a):=congrArg Prod.fst h2;rw[hc] at h3;injection h3 with h3
 injection h3 with _ h3
 subst h3;exact hrun
theorem zvn {w:World} {K:Nat->Prop} {gs D0:Nat} {ss:List Sta} {va0:Value} {st:Sta} (hk:Known w K gs ss) (ha:Wds w D0 va0 st) (hap:∀ b,va0.ownBlock=some b->¬ K b) (hst:okSt st) (hl:st.length<=100000) (hn:ss.length<=100000):
 Calls Tryd.prog 23 #[.pointer (some ⟨gs,0,none⟩),va0] w (zxs w K gs ss st):=by
 obtain⟨va,bm,vs,D,h1,h2,h3,h4,h5,h6,k1,k2,k3,k4⟩:=hk.mem;have hkey:=ydq ha hl hst;have HKEY:=Zh hkey;obtain⟨As,cs,rfl⟩:=zas h3;have hA0:=ha;obtain⟨A0,c0,rfl⟩:=ha.form;have hgs:=za0 h1;have hbm:bm<w.heap.size:=h5.lt;have H1:Hid (HasO w gs (.cells #[.slice As ss.length cs,.map (some bm)] 86 (0,0))):=h1;have H3:=Zh h3;have H4:=Zh h4;have H5:=Zh h5;have H6:=Zh h6;have HK:=Zh hk;have HA:=Zh hA0;have HAP:=Zh hap;have HST:=Zh hst;have HVS:=Zh h2;have K3:=Zh k3;have K4:=Zh k4;obtain⟨L,hL⟩:∃ L,st.length=L:=⟨_,rfl⟩;have HL:=Zh hL;obtain⟨S,hS⟩:∃ S,ss.length=S:=⟨_,rfl⟩;have HS:=Zh hS;have hconv:∀ (W:World) (v:Value),Bts W 0 v (keyB st)->(convert 24 9 v).run Tryd.prog W = .ok (.string (keyS st)) W:=fun W v h=>by
  have hb:=ycs h;obtain⟨A,c,rfl⟩:=hb.form;exact zzy hb
 have HCV:=Zh hconv;clear hkey h1 h2 h3 h4 h5 h6 hk hA0 ha hap hst k3 k4 hconv
 by_cases hin:st∈ss
 .obtain⟨i,hi,hie⟩:=List.mem_iff_getElem.1 hin;have hi?:ss[i]?=some st:=(by rw[←hie];exact yey hi);have hat:=H6.o.idx i st hi?;have hhas:Maps.has (H:=Unit) D (litK st)=true:=(H6.o.has st HST.o).2 hin;have hlk:∀ W,Below w.heap.size w W->(Instr.lookup 83 (.map (some bm)) (.string (keyS st)) true).run Tryd.prog W = .ok (.tuple #[.int .i64 (i:Int),.bool true]) W:=fun W hW=>by
   have hm:W.ownsMap (H:=Unit) Tryd.prog 9 (plainElem Tryd.prog 3) bm ss.length D:=by
    obtain⟨es,clock,hm,r⟩:=H5.o;exact⟨es,clock,(hW.block bm hbm).trans hm,r⟩
   have:=zre hm yj2 hat;rw[hhas] at this;exact this
  have HLK:=Zh hlk;have HI:=Zh hi?;clear hin hi hie hi? hat hhas hlk;rw[hL];rw[hL] at HKEY;go_enter Tryd.func23,Tryd.ntmps23;go_wp2_with (first
   | (go_at_call 41;(with_reducible refine HKEY.o.mono ?_);rintro e w1 ⟨v1,rfl,b1,hb1⟩;have hcv:=fun n=>HCV.o (w1.drewN n) v1 (zbh (b1.stays (zbg (yf6 _ _) n)) (yf8 _));have hlk:=fun n=>HLK.o (w1.drewN n) (zbg hb1 n);have hm1:∀ n,(w1.drewN n).cell? ⟨gs,1,none⟩=some (.map (some bm)):=(fun n=>cell_of_row _ gs 1 _ _ (0,0) (zbj H1.o (zbg hb1 n)));have hm10:=hm1 0;have HB1:=Zh hb1;clear b1 hb1)
   | fail)
  go_quiet (fail);go_wp2;go_ret;exact⟨i,ss,K,rfl,HI.o,.inl rfl,HK.o.off (Kept.of_below (fun _=>False) (zbg HB1.o nq)) (fun b q=>q.elim),fun b h => .inl h,Kept.of_below K (zbg HB1.o nq)⟩
 .have hhas:Maps.has (H:=Unit) D (litK st)=false:=by
   cases h:Maps.has (H:=Unit) D (litK st)
   .rfl
   .exact absurd ((H6.o.has st HST.o).1 h) hin
  have hat:D.atKey (litK st) (.lit (.int .i64 0)) = .lit (.int .i64 0):=Maps.atKey_of_not_has hhas _;have hlk:∀ W,Below w.heap.size w W->(Instr.lookup 83 (.map (some bm)) (.string (keyS st)) true).run Tryd.prog W = .ok (.tuple #[.int .i64 0,.bool false]) W:=fun W hW=>by
   have hm:W.ownsMap (H:=Unit) Tryd.prog 9 (plainElem Tryd.prog 3) bm ss.length D:=by
    obtain⟨es,clock,hm,r⟩:=H5.o;exact⟨es,clock,(hW.block bm hbm).trans hm,r⟩
   have:=zre hm yj2 hat;rw[hhas] at this;exact this
  have HLK:=Zh hlk;have HIN:=Zh hin;have hkO:keyOf Tryd.prog 9 (.string (keyS st))=some (litK st):=Go.WideMaps.keyOf_string_mk Tryd.underlying9 (by rw[zoj,HL.o];unfold maxLen;omega);have hpe:plainElem (H:=Unit) Tryd.prog 3 (.int .i64 (S:Int))=some (.lit (.int .i64 (S:Int)),[]):=plainElem_int Tryd.underlying3 (yag _ yie yie);have HKO:=Zh hkO;have HPE:=Zh hpe;have hmu:∀ W,Below w.heap.size w W->W.ownsMap (H:=Unit) Tryd.prog 9 (plainElem Tryd.prog 3) bm ss.length D:=fun W hW=>by
   obtain⟨es,clock,hm,r⟩:=H5.o;exact⟨es,clock,(hW.block bm hbm).trans hm,r⟩
  have HMU:=Zh hmu;have hnm:ss.length<maxLen:=yin;have HNM:=Zh hnm;clear hin hat hhas hlk hkO hpe hmu hnm;rw[hL];rw[hL] at HKEY;rw[hS] at H1;go_enter Tryd.func23,Tryd.ntmps23;go_wp2_with (first
   | (go_at_call 41;(with_reducible refine HKEY.o.mono ?_);rintro e w1 ⟨v1,rfl,b1,hb1⟩;have hcv:=fun n=>HCV.o (w1.drewN n) v1 (zbh (b1.stays (zbg (yf6 _ _) n)) (yf8 _));have hlk:=fun n=>HLK.o (w1.drewN n) (zbg hb1 n);have hm1:∀ n,(w1.drewN n).cell? ⟨gs,1,none⟩=some (.map (some bm)):=(fun n=>cell_of_row _ gs 1 _ _ (0,0) (zbj H1.o (zbg hb1 n)));have hm10:=hm1 0;have hm00:w1.cell? ⟨gs,0,none⟩=some (.slice As S cs):=(cell_of_row _ gs 0 _ _ (0,0) (zbj H1.o hb1));have HB1:=Zh hb1;have BT1:=Zh b1;clear b1 hb1)
   | fail)
  go_quiet (fail);go_upto_region 5 with fail
  have hb2:Below w.heap.size w (w1.drewN nq):=zbg HB1.o nq;have hm2:=hm1 nq;have hm02:(w1.drewN nq).cell? ⟨gs,0,none⟩=some (.slice As S cs):=hm00;have hcvn:∀ n,(convert 24 9 v1).run Tryd.prog ((w1.drewN nq).drewN n) = .ok (.string (keyS st)) ((w1.drewN nq).drewN n):=fun n=>by rw[World.drewN_drewN];exact hcv (nq+n)
  have hcvd:(convert 24 9 v1).run Tryd.prog (w1.drewN nq).drew = .ok (.string (keyS st)) (w1.drewN nq).drew:=hcv (nq+1);clear hcv hlk hm1 hm10 hm00;generalize w1.drewN nq=w2 at *;have HB2:=Zh hb2;clear hb2;go_still_tail 7,yih;change wpList _ _ _ _ _ (World.drew _);go_wp2_with (first
   | (at_mapUpdate;refine wpList_mapUpdate_in _ rfl _ _ _ 83 rfl 9 3 yam Tryd.underlying83 _ bm ss.length D rfl (HMU.o _ HB2.o.drew) HNM.o _ _ _ rfl rfl HKO.o _ [] HPE.o ?_;intro w3 o3 t3;have O3:=Zh o3;have T3:=Zh t3;clear o3 t3)
   | fail)
  have hne:gs≠bm:=fun e=>by
   obtain⟨es,clock,hm,_⟩:=H5.o;have h1:=H1.o;unfold HasO at h1;rw[e,hm] at h1;cases h1
  have hk3:Kept (fun b=>b=bm) w w3:=((Kept.of_below (fun b=>b=bm) HB2.o).drew).grown T3.o.grown fun b e => .inl yjg
  have hnc:∀ b cur ty,w.heap[b]?=some (.cells cur ty (0,0))->b≠bm:=fun b cur ty h e=>by
   obtain⟨es,clock,hm,_⟩:=H5.o;rw[e,hm] at h;cases h
  have hb3:w3.heap[gs]?=w.heap[gs]?:=hk3.block gs hgs hne;have H13:Hid (HasO w3 gs (.cells #[.slice As S cs,.map (some bm)] 86 (0,0))):=hb3.trans H1.o;have h33:w3.ownsRow 0 88 1 (.slice As S cs) S vs:=by
   have h:=H3.o;rw[HS.o] at h;exact za8 h fun b e hb=>hk3.block b hb (by obtain⟨cur,hc⟩:=za7 h e;exact hnc b cur _ hc)
  have h43:∀ (i:Nat) v s,vs[i]?=some v->ss[i]?=some s->Wds w3 0 v s:=fun i v s e1 e2=>(H4.o i v s e1 e2).off hk3 fun b e=>by obtain⟨cur,hc⟩:=(H4.o i v s e1 e2).kind e;exact hnc b cur _ hc
  have ha3:Wds w3 D0 (.slice A0 st.length c0) st:=HA.o.off hk3 fun b e q=>HAP.o b e (by subst q;exact k2)
  have hcl:∀ W,Below w3.heap.size w3 W->Calls Tryd.prog 42 #[.slice A0 L c0] W fun e w'=>∃ A c,e = .returned (.slice A L c)∧Wds w' W.heap.size (.slice A L c) st∧Below w3.heap.size w3 w':=fun W hW=>by
   have h:=zy0 (ha3.stays hW) yj2;rw[HL.o] at h;refine h.mono fun e w' h'=>?_
   obtain⟨v',e1,e2,e3⟩:=h';obtain⟨A,c,e4⟩:=e2.form;rw[HL.o] at e4;subst e4;exact⟨A,c,e1,e2,gro hW e3⟩
  obtain⟨i0,hi,hz0,hz1,hz2⟩:=info_parts Tryd.infoSlM;have happ:∀ (W:World) (A5:Option Addr) (c5:Nat),Below w3.heap.size w3 W->∃ A6 c6 w6,App 84 84 (W.alloc (.cells #[.slice A5 L c5] 88)) (.slice As S cs) (.slice (some ⟨W.heap.size,0,none⟩) 1 1)∧
   appV 84 84 (W.alloc (.cells #[.slice A5 L c5] 88)) (.slice As S cs) (.slice (some ⟨W.heap.size,0,none⟩) 1 1) = .slice A6 (S+1) c6∧
   appW 84 84 (W.alloc (.cells #[.slice A5 L c5] 88)) (.slice As S cs) (.slice (some ⟨W.heap.size,0,none⟩) 1 1)=w6∧
   w6.ownsRow 0 88 1 (.slice A6 (S+1) c6) (S+1) (vs++[.slice A5 L c5])∧(W.alloc (.cells #[.slice A5 L c5] 88)).grownBy w6 (Value.slice As S cs).ownBlock∧((Value.slice A6 (S+1) c6).ownBlock=(Value.slice As S cs).ownBlock∨(Value.slice A6 (S+1) c6).ownBlock=some (W.heap.size+1)):=fun W A5 c5 hW=>by
   have hal:Below W.heap.size W (W.alloc (.cells #[.slice A5 L c5] 88)):=(yf6 _ _).alloc (yez _) _;obtain⟨v6,w6,hr,r1,r2,_,r3⟩:=run_append_own_at (P:=Tryd.prog) (W.alloc (.cells #[.slice A5 L c5] 88)) 0 84 84 88 i0 _ 1 24 Tryd.underlying84 hi hz0 hz1 hz2 rfl yij _ S vs (za6 (za6 h33 hW) hal) ⟨W.heap.size,0,none⟩ 1 1 [.slice A5 L c5] rfl
    (by
      intro j u hu;rw[Addr.add_lit,yg5,cell_of_row _ _ j _ 88 (0,0) (heap_alloc_new W _)]
      simpa using hu)
    (by
      intro u hu;simp at hu;subst hu;rfl) yin yie (yf8 _)
   obtain⟨A6,c6,rfl⟩:=zas r1;obtain⟨q1,q2,q3⟩:=zic (ty:=84) hr;exact⟨A6,c6,w6,q1,q2,q3,r1,r2,by simpa using r3⟩
  have x00:w3.cell? ⟨gs,0,none⟩=some (.slice As S cs):=cell_of_row _ gs 0 _ _ (0,0) H13.o;have HCL:=Zh hcl;have HAPP:=Zh happ;have H33:=Zh h33;have H43:=Zh h43;have HKK3:=Zh hk3;have HNE:=Zh hne;have hng:some gs≠(Value.slice As S cs).ownBlock:=fun e=>by
   obtain⟨cur,hc⟩:=za7 H33.o e.symm;exact za1 H13.o hc yij rfl
  have HNG:=Zh hng;clear hng;clear hcl happ h33 h43 hk3 hnc hb3 ha3 hi hz0 hz1 hz2 hm2 hm02 hcvn hcvd hne;go_region_law (first
   | (go_simp;go_at_call 42;(with_reducible refine (HCL.o _ (by repeat (first | with_reducible exact yf6 _ _ | with_reducible refine Below.drew ?_))).mono ?_);rintro e w5 ⟨A5,c5,rfl,y5,b5⟩;have x05:w5.cell? ⟨gs,0,none⟩=some (.slice As S cs):=cell_of_row _ gs 0 _ _ (0,0) (zbj H13.o b5);have x05a:=zcr x05 (.cells #[.slice A5 L c5] 88);obtain⟨A6,c6,w6,a1,a2,a3,a4,a5,a6⟩:=HAPP.o w5 A5 c5 b5;have hx6:=zbp a5 (zbq (.cells #[.slice A5 L c5] 88) (zbj H13.o b5)) HNG.o;have x06:w6.cell? ⟨gs,0,none⟩=some (.slice As S cs):=cell_of_row _ gs 0 _ _ (0,0) hx6;have f06:w6.frozen? ⟨gs,0,none⟩=false:=frozen_of_row w6 gs 0 _ _ hx6;have HX6:=Zh hx6;have Y5:=Zh y5;have B5:=Zh b5;have R6:=Zh a4;have G6:=Zh a5;have O6:=Zh a6;clear y5 b5 a4 a5 a6 hx6)
   | fail)
  all_goals
   go_wp2;go_ret;obtain⟨w2',hw2'⟩:∃ w2',w6.setCell ⟨gs,0,none⟩ (.slice A6 (S+1) c6)=w2':=⟨_,rfl⟩;rw[hw2'];have kq5:Kept (fun b=>b=gs∨(Value.slice As S cs).ownBlock=some b) w5 w2':=by
    rw[←hw2'];exact (((Kept.refl (fun b=>b=gs∨(Value.slice As S cs).ownBlock=some b) w5).alloc (.cells #[.slice A5 L c5] 88)).grown G6.o fun b e => .inl (.inr e)).setCell (a:=⟨gs,0,none⟩) (.inl (.inl rfl)) _
   have kq3:Kept (fun b=>b=gs∨(Value.slice As S cs).ownBlock=some b) w3 w2':=(Kept.of_below (fun b=>b=gs∨(Value.slice As S cs).ownBlock=some b) B5.o).trans kq5 fun b e => .inl e
   have s5:=B5.o.size;have s3:=HKK3.o.size;have s2:=kq5.size;have s6:w2'.heap.size=w6.heap.size:=(by rw[←hw2'];simp[World.setCell]);have g6s:=G6.o.size;rw[yfe] at g6s;have hnw:∀ (v:Value) (s:Sta),Wds w3 0 v s->Wds w2' 0 v s:=fun v s h=>h.off kq3 fun b e q=>by
    obtain⟨cur,hc⟩:=h.kind e;rcases q with q|q
    .subst q;exact za1 H13.o hc yij rfl
    .obtain⟨cur2,hc2⟩:=za7 H33.o q;exact za1 hc2 hc yij rfl
   have hy5:Wds w2' 0 (.slice A5 L c5) st:=(Y5.o.low (yf8 _)).off kq5 fun b e q=>by
    obtain⟨cur,hc⟩:=Y5.o.kind e;rcases q with q|q
    .subst q;exact za1 (zbj H13.o B5.o) hc yij rfl
    .obtain⟨cur2,hc2⟩:=za7 (za6 H33.o B5.o) q;exact za1 hc2 hc yij rfl
   have hr6:w2'.ownsRow 0 88 1 (.slice A6 (S+1) c6) (S+1) (vs++[.slice A5 L c5]):=za8 R6.o fun b e _=>by
    rw[←hw2'];refine yf9 _ _ _ _ fun e2=>?_
    have e3:b=gs:=e2;subst e3;obtain⟨cur,hc⟩:=za7 R6.o e;exact za1 HX6.o hc yij rfl
   have hbm6:w2'.heap[bm]?=w3.heap[bm]?:=kq3.block bm yie fun q=>by
    rcases q with q|q
    .exact HNE.o q.symm
    .obtain⟨cur2,hc2⟩:=za7 H33.o q;obtain⟨es,clock,hm,_⟩:=O3.o;rw[hm] at hc2;cases hc2
   have hgs6:w2'.heap[gs]?=some (.cells #[.slice A6 (S+1) c6,.map (some bm)] 86 (0,0)):=by
    rw[←hw2'];have h:=HX6.o;unfold HasO at h;simp[World.setCell,yg2,h]
   have hlt6:=fun b e=>yf5 hr6 b e
   refine⟨S,ss++[st],fun b=>K b∨(w.heap.size<=b∧b<w2'.heap.size),rfl,by rw[←HS.o];simp,.inr ⟨HIN.o,rfl⟩,⟨⟨.slice A6 (S+1) c6,bm,vs++[.slice A5 L c5],D.put (litK st) (.lit (.int .i64 (ss.length:Nat))),hgs6,by simp[HVS.o],by rw[yfd,HS.o];exact hr6,fun i v s e1 e2=>?_,?_,H6.o.put HST.o HIN.o,.inl k1,.inl k2,fun b e=>?_,fun v hv b e=>?_⟩,fun b hb=>?_,?_⟩,fun b hb=>hb.imp id fun h=>h.1,?_⟩
   .by_cases hiS:i<ss.length
    .rw[yfb (by rw[HVS.o];exact hiS)] at e1;rw[yfb hiS] at e2;exact hnw v s (H43.o i v s e1 e2)
    .have hi':i=ss.length:=by
      have:=(yf4.1 e2).1;simp at this;omega
     subst hi';rw[yfc (by rw[HVS.o];exact yez _)] at e1;simp[HVS.o] at e1 e2;subst e1 e2;exact hy5
   .obtain⟨es,clock,hm,r⟩:=O3.o;rw[yfd,HS.o] at *;exact⟨es,clock,hbm6.trans hm,r⟩
   .rcases O6.o with h|h
    .exact .inl (K3.o b (by have:=h.symm.trans e;rw[←HS.o] at this;exact this))
    .have h2:w5.heap.size+1=b:=(by have:=h.symm.trans e;injection this);exact .inr ⟨by omega,(hlt6 b e).2⟩
   .rcases yfm.1 hv with h|h
    .exact .inl (K4.o v h b e)
    .rw[yfn] at h;subst h;have:=Y5.o.in e;simp only[World.size_drew] at this;exact .inr ⟨by omega,by omega⟩
   .rcases hb with h|h
    .have:=HK.o.lt b h;omega
    .exact h.2
   .rw[ygn];exact⟨HK.o.nodup,by simp,fun a ha b hb=>by rw[yfn] at hb;subst hb;exact fun e=>HIN.o (e▸ha)⟩
   .refine (HKK3.o.mono (Q':=K) fun b e => .inl (by subst e;exact k2)).trans kq3 fun b q=>?_
    rcases q with q|q
    .exact .inl (q▸k1)
    .exact .inl (K3.o b (by rw[←HS.o] at q;exact q))
end
end Go.Proofs.YtipfgpfplakhiaaDoor
