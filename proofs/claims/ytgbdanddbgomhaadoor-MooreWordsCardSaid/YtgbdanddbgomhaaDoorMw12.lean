import Derived.Test.YtgbdanddbgomhaaDoorMw11
import Derived.Lib.BufferMore
import Derived.Maps.OwnSet
import Derived.StringKeys
set_option linter.unusedVariables false
set_option linter.unusedSimpArgs false
namespace Go.Proofs.YtgbdanddbgomhaaDoor
open Go Go.RowKit
section
attribute [local go_sem ↓] Go.wp_at_zero Go.wp_at_succ
theorem zsc (l:List (Nat×Nat)):∀ u∈wdsC l,u.oneCell'=true:=by
 intro u hu;simp only[wdsC,List.mem_flatMap,List.mem_cons,List.not_mem_nil,or_false] at hu;obtain⟨x,_,rfl|rfl⟩:=hu <;> rfl
set_option maxRecDepth 20000 in
set_option maxHeartbeats 1000000 in
theorem zsd {w:World} {D:Nat} {v:Value} {l:List (Nat×Nat)} (h:Wds w D v l) (hl:l.length<=100000):
   Calls Tryd.prog 82 #[v] w fun e w'=>∃ v',e = .returned v'∧Wds w' w.heap.size v' l∧Below w.heap.size w w':=by
 obtain⟨i0,hi,hz0,hz1,hz2⟩:=info_parts Tryd.infoWords;have h0:=h;rcases h.2 with ⟨rfl,hn⟩|⟨g,cap,cur,rfl,hB,hg,hnc,hcm,hcs,htk⟩
 . have hx:l=[]:=List.length_eq_zero_iff.1 hn;subst hx;have he:=Lib.run_eql_slice_nil_nil (P:=Tryd.prog) w 0 0 Tryd.underlying119;clear h h0 hi hz0 hz1 hz2;go_enter Tryd.func82,Tryd.ntmps82;go_wp2;go_ret;exact⟨_,rfl,World.ownsRow_nil w w.heap.size _ 2,Below.refl _ _⟩
 . have he:=Lib.run_eql_slice_some_nil (P:=Tryd.prog) w ⟨g,0,none⟩ l.length cap Tryd.underlying119;have hown:(w.alloc (.cells #[] 167)).ownsRow w.heap.size 167 2 (.slice (some ⟨w.heap.size,0,none⟩) 0 0) 0 []:=World.ownsRow_lit w #[] 0 (Nat.le_refl _) (by decide) rfl;have hnews:∀ j u,(wdsC l)[j]?=some u->(w.alloc (.cells #[] 167)).cell? ((⟨g,0,none⟩:Addr).add j)=some u:=by
     intro j u hu;have hj:j<l.length*2:=by
       rcases Nat.lt_or_ge j (l.length*2) with h' | h'
       . exact h'
       . rw[List.getElem?_eq_none (by rw[zl7];exact h')] at hu;cases hu
     rw[Addr.add_lit,Nat.zero_add];refine za2 ?_ ((Below.refl _ _).alloc (Nat.le_refl _) _);rw[World.ownsRow.cellAt h0 j (by omega)];exact hu
   obtain⟨L,hL⟩:∃ L,l.length=L:=⟨_,rfl⟩;have HO:=Zh hown;have HN:=Zh hnews;have HL:=Zh hL;rw[hL] at he hl ⊢;clear hown hnews h h0 hL hg hnc hcs htk;go_enter Tryd.func82,Tryd.ntmps82;go_wp2_with (at_builtin;refine wpList_append_own _ rfl _ _ 119 rfl w.heap.size 167 i0 _ 2 16 Tryd.underlying119 hi hz0 hz1 hz2 rfl (by decide) _ _ _ rfl HO.out ⟨g,0,none⟩ L cap (wdsC l) rfl (by rw[zl7,HL.out]) HN.out (zsc l) ?c3 ?c4 ?c5 ?_)
   case c3=>unfold maxLen;omega
   case c4=>omega
   case c5=>simp
   . intro v' w2 hown' hgrow _;have HO2:=Zh hown';have hB2:Below w.heap.size w w2:=((Below.refl _ _).alloc (Nat.le_refl _) _).grown hgrow (by simp) (fun j e=>((HO.out).lt j e).1);have HB2:=Zh hB2;clear hgrow hown' hB2;go_wp2;go_ret;refine⟨v',rfl,?_,HB2.out⟩;have h2:=HO2.out;rw[←HL.out] at h2;exact h2
abbrev Sta:=List (Nat×Nat)
def okSt (s:Sta):Prop:=∀ x∈s,x.1<2 ^ 63∧x.2<2 ^ 64
def keyI (s:Sta):List Int:=(keyB s).map fun (b:Nat)=>(b:Int)
theorem ztl (s:Sta):(keyI s).length=s.length*16:=by simp[keyI,zd4]
def keyS (s:Sta):ByteArray:=strOfNums (keyI s)
theorem zji (s:Sta):(keyS s).size=s.length*16:=by unfold keyS;rw[strOfNums_size,ztl]
def litK (s:Sta):Lit := .string (keyS s).data.toList
theorem zwc {a b:Nat} (ha:a<256) (hb:b<256) (h:UInt8.ofNat a=UInt8.ofNat b):a=b:=by
 have:=congrArg UInt8.toNat h
 simpa [UInt8.toNat_ofNat',Nat.mod_eq_of_lt ha,Nat.mod_eq_of_lt hb] using this
theorem zgv:∀ (l k:List Nat),(∀ b∈l,b<256)->(∀ b∈k,b<256)->l.map UInt8.ofNat=k.map UInt8.ofNat->l=k
 | [],[],_,_,_=>rfl
 | a::l,b::k,h1,h2,h=>by
   simp only[List.map_cons,List.cons.injEq] at h;have e1:=zwc (h1 a (by simp)) (h2 b (by simp)) h.1;have e2:=zgv l k (fun x hx=>h1 x (by simp[hx])) (fun x hx=>h2 x (by simp[hx])) h.2;rw[e1,e2]
 | [],_::_,_,_,h=>by simp at h
 | _::_,[],_,_,h=>by simp at h
theorem zth {s t:Sta} (hs:okSt s) (ht:okSt t) (h:litK s=litK t):s=t:=by
 unfold litK at h;injection h with h
 unfold keyS at h;rw[strOfNums_data,strOfNums_data] at h;have e:∀ u:Sta,(keyI u).map (fun n=>UInt8.ofNat n.toNat)=(keyB u).map UInt8.ofNat:=fun u=>by simp[keyI,Function.comp_def]
 rw[e,e] at h;have w1:∀ x∈s,x.1<2 ^ 64∧x.2<2 ^ 64:=fun x hx=>⟨by have:=(hs x hx).1;omega,(hs x hx).2⟩
 have w2:∀ x∈t,x.1<2 ^ 64∧x.2<2 ^ 64:=fun x hx=>⟨by have:=(ht x hx).1;omega,(ht x hx).2⟩
 exact zm9 s t w1 w2 (zgv _ _ (zqy s w1) (zqy t w2) h)
structure MapIs (D:DataW Unit) (ss:List Sta):Prop where
 isMap:Maps.IsMap D
 has:∀ s,okSt s->(Maps.has D (litK s)=true↔s∈ss)
 idx:∀ (i:Nat) s,ss[i]?=some s->D.atKey (litK s) (.lit (.int .i64 0)) = .lit (.int .i64 i)
 ok:∀ s∈ss,okSt s
theorem MapIs.nil:MapIs (.map []) []:=⟨⟨[],rfl⟩,fun s _=>by simp[Maps.has_eq],fun i s h=>by simp at h,fun s h=>by simp at h⟩
theorem MapIs.put {D:DataW Unit} {ss:List Sta} (h:MapIs D ss) {s:Sta} (hs:okSt s) (hn:s∉ss):MapIs (D.put (litK s) (.lit (.int .i64 (ss.length:Nat)))) (ss++[s]):=by
 have hk:WideAt.IsKeyLit (litK s):=(by unfold litK;trivial);have hne:∀ t,okSt t->t≠s->litK t≠litK s:=fun t ht e e'=>e (zth ht hs e')
 refine⟨h.isMap.put _ _,fun t ht=>?_,fun i t e=>?_,fun t ht=>?_⟩
 . by_cases e:t=s
   . subst e;simp[Maps.has_put_same h.isMap hk]
   . rw[Maps.has_put_other (hne t ht e),h.has t ht];simp[e]
 . by_cases hi:i<ss.length
   . rw[List.getElem?_append_left hi] at e;have hm:=List.mem_of_getElem? e;rw[Maps.atKey_put_other (hne t (h.ok t hm) fun e'=>hn (e' ▸ hm))];exact h.idx i t e
   . have hi':i=ss.length:=by
       have:=(List.getElem?_eq_some_iff.1 e).1;simp at this;omega
     subst hi';simp at e;subst e;exact Maps.atKey_put_same h.isMap hk _ _
 . rcases List.mem_append.1 ht with h' | h'
   . exact h.ok t h'
   . rw[List.mem_singleton] at h';exact h' ▸ hs
structure Known (w:World) (K:Nat->Prop) (gs:Nat) (ss:List Sta):Prop where
 mem:∃ va bm vs D,w.heap[gs]?=some (.cells #[va,.map (some bm)] 117 (0,0))∧vs.length=ss.length∧w.ownsRow 0 119 1 va ss.length vs∧(∀ (i:Nat) v s,vs[i]?=some v->ss[i]?=some s->Wds w 0 v s)∧
   w.ownsMap (H:=Unit) Tryd.prog 9 (plainElem Tryd.prog 3) bm ss.length D∧MapIs D ss∧K gs∧K bm∧(∀ b,va.ownBlock=some b->K b)∧∀ v∈vs,∀ b,v.ownBlock=some b->K b
 lt:∀ b,K b->b<w.heap.size
 nodup:ss.Nodup
theorem Known.off {w w':World} {K Q:Nat->Prop} {gs:Nat} {ss:List Sta} (h:Known w K gs ss) (hk:Kept Q w w') (hq:∀ b,Q b->¬ K b):Known w' K gs ss:=by
 obtain⟨va,bm,vs,D,h1,h2,h3,h4,h5,h6,k1,k2,k3,k4⟩:=h.mem;have hb:∀ b,K b->w'.heap[b]?=w.heap[b]?:=fun b hb=>hk.block b (h.lt b hb) fun q=>hq b q hb
 refine⟨⟨va,bm,vs,D,(hb gs k1).trans h1,h2,za3 h3 fun b e _=>hb b (k3 b e),fun i v s e1 e2=>(h4 i v s e1 e2).block fun b e _=>hb b (k4 v (List.mem_of_getElem? e1) b e),?_,h6,k1,k2,k3,k4⟩,fun b hb'=>Nat.lt_of_lt_of_le (h.lt b hb') hk.size,h.nodup⟩;obtain⟨es,clock,hm,r⟩:=h5;exact⟨es,clock,(hb bm k2).trans hm,r⟩
end
end Go.Proofs.YtgbdanddbgomhaaDoor
