import Derived.OrdersHeld
import Derived.Deep.RegionHeld3
import Derived.Lib.Hide
set_option linter.unusedVariables false
set_option linter.unusedSimpArgs false
namespace Go.Proofs.YtipfgpfplakhiaaDoor
open Go Go.RowKit
section
section
variable {P:Program} {ops:Array Oper} {Q:Exit->Act->World->Prop} {md:Region.Mode} {R S:World->Prop} {T:List Nat}
def zfm (T:List Nat) (listed:Array Bool):Prop:=∀ t∈T,listed.getD t true=false
def AnyT (P:Program) (md:Region.Mode) (ops:Array Oper) (Q:Exit->Act->World->Prop) (R S:World->Prop) (T:List Nat):Nat->Array Bool->Act->World->Prop
 | 0,l,a,w=>Region.ready md ops l=[]∧Q .normal a w
 | f+1,l,a,w=>(Region.ready md ops l=[]->Q .normal a w)∧∀ i∈Region.ready md ops l,wpOp P ops Q i (fun a' w'=>(R w'∧(zfm T (l.setIfInBounds i true)->S w'))∧AnyT P md ops Q R S T f (l.setIfInBounds i true) a' w') a w
theorem zlj:∀ (f:Nat) (l:Array Bool) (a:Act) (w:World),AnyT P md ops Q R S T f l a w->wpAny P md ops Q f l a w
 | 0,_,_,_,h=>h
 | f+1,_,_,_,h=>⟨h.1,fun i hi=>wpOp_mono (fun a' w' k=>zlj f _ a' w' k.2) (h.2 i hi)⟩
theorem zx1 {l:Array Bool} {j:Nat} (h:zfm T l) (hj:j∉T):zfm T (l.setIfInBounds j true):=fun t ht=>by
 have hne:j≠t:=fun e=>hj (e▸ht)
 rw[getD_set_ne true hne];exact h t ht
theorem zle {l:Array Bool} {j:Nat} (h:zfm T (l.setIfInBounds j true)) (hj:j∉T):zfm T l:=fun t ht=>by
 have hne:j≠t:=fun e=>hj (e▸ht)
 rw[←getD_set_ne true hne];exact h t ht
theorem zlf {l:Array Bool} {i j:Nat} (h:zfm T (l.setIfInBounds j true)) (hi:i∉T):zfm T ((l.setIfInBounds i true).setIfInBounds j true):=fun t ht=>by
 have hne:i≠t:=fun e=>hi (e▸ht)
 by_cases e:j=t
 .have h1:=h t ht;subst e
  by_cases hl:j<l.size
  .simp[hl] at h1
  .simp[hl] at h1
 .rw[getD_set_ne true e,getD_set_ne true hne];rw[←getD_set_ne true e];exact h t ht
theorem zll {i:Nat} {oi:Oper} {v:Value} (hi:ops[i]?=some oi) (hsel:∀ (j:Nat) (o:Oper) cs b,ops[j]?=some o->o.op ≠ .select cs b)
 (hQ:∀ c a w,Q (.panic c) (a.put oi.dst v) w->Q (.panic c) a w) (hiT:i∉T):
 ∀ (f:Nat) (l:Array Bool) (a:Act) (w:World),
  (∀ j oj,ops[j]?=some oj->j≠i->l.getD j true=false->(∀ e∈oj.after,Region.binds md e=true->e.on≠i)->oi.apart ops oj=true)->
  i∈Region.ready md ops l->YieldsIf P ops R oi v a->R w->(zfm T l->S w)->AnyT P md ops Q R S T f (l.setIfInBounds i true) (a.put oi.dst v) w->AnyT P md ops Q R S T (f+1) l a w
 | 0,l,a,w,_,hr,hy,hR,hS,H=>⟨fun e=>(by rw[e] at hr;cases hr),fun j hj=>by
  by_cases e:j=i
  .subst e;exact hy.wpOp hi hR ⟨⟨hR,fun h=>hS (zle h hiT)⟩,H⟩
  .have h0:=ready_mono hj e;rw[H.1] at h0;cases h0⟩
 | f+1,l,a,w,hfr,hr,hy,hR,hS,H=>⟨fun e=>(by rw[e] at hr;cases hr),fun j hj=>by
  by_cases e:j=i
  .subst e;exact hy.wpOp hi hR ⟨⟨hR,fun h=>hS (zle h hiT)⟩,H⟩
  .obtain⟨hjl,oj,hoj,hall⟩:=mem_ready.1 hj;have hil:=(mem_ready.1 hr).1;have hno:∀ e∈oj.after,Region.binds md e=true->e.on≠i:=fun e he hb heq=>by
    have h1:=hall e he hb;rw[heq] at h1;rcases Nat.lt_or_ge i l.size with hlt|hge
    .simp[hlt] at hil h1;rw[hil] at h1;cases h1
    .simp[Array.getElem?_eq_none hge] at hil
   have hput:=wpOp_putIf hoj (hfr j oj hoj e hjl hno) (fun cs b=>hsel i oi cs b hi) (fun cs b=>hsel j oj cs b hoj) hQ hy (H.2 j (ready_mono hj e));refine wpOp_mono (fun a' w' k=>?_) hput;obtain⟨k1,⟨k2,k4⟩,k3⟩:=k;have hS':zfm T (l.setIfInBounds j true)->S w':=fun h=>k4 (zlf h hiT)
   refine⟨⟨k2,hS'⟩,zll hi hsel hQ hiT f (l.setIfInBounds j true) a' w' (fun k ok hk hki hun hno'=>hfr k ok hk hki ?_ hno') (ready_mono hr (Ne.symm e)) k1 k2 hS' ?_⟩
   .by_cases hjk:j=k
    .subst hjk;exact hjl
    .rw[getD_set_ne true hjk] at hun;exact hun
   .rw[Array.setIfInBounds_comm _ _ e];exact k3⟩
theorem zlk {i:Nat} {oi:Oper} {v:Value} (hi:ops[i]?=some oi) (hsel:∀ (j:Nat) (o:Oper) cs b,ops[j]?=some o->o.op ≠ .select cs b)
 (hQ:∀ c a w,Q (.panic c) (a.put oi.dst v) w->Q (.panic c) a w) (hT:∀ t∈T,∀ ot,ops[t]?=some ot->∃ e∈ot.after,Region.binds md e=true∧e.on=i) (hiT:i∉T):
 ∀ (f:Nat) (l:Array Bool) (a:Act) (w:World),
  (∀ j oj,ops[j]?=some oj->j≠i->l.getD j true=false->(∀ e∈oj.after,Region.binds md e=true->e.on≠i)->oi.apart ops oj=true)->
  i∈Region.ready md ops l->YieldsIf P ops S oi v a->R w->S w->zfm T l->AnyT P md ops Q R S T f (l.setIfInBounds i true) (a.put oi.dst v) w->AnyT P md ops Q R S T (f+1) l a w
 | 0,l,a,w,_,hr,hy,hR,hS,hE,H=>⟨fun e=>(by rw[e] at hr;cases hr),fun j hj=>by
  by_cases e:j=i
  .subst e;exact hy.wpOp hi hS ⟨⟨hR,fun _=>hS⟩,H⟩
  .have h0:=ready_mono hj e;rw[H.1] at h0;cases h0⟩
 | f+1,l,a,w,hfr,hr,hy,hR,hS,hE,H=>⟨fun e=>(by rw[e] at hr;cases hr),fun j hj=>by
  by_cases e:j=i
  .subst e;exact hy.wpOp hi hS ⟨⟨hR,fun _=>hS⟩,H⟩
  .obtain⟨hjl,oj,hoj,hall⟩:=mem_ready.1 hj;have hil:=(mem_ready.1 hr).1;have hno:∀ e∈oj.after,Region.binds md e=true->e.on≠i:=fun e he hb heq=>by
    have h1:=hall e he hb;rw[heq] at h1;rcases Nat.lt_or_ge i l.size with hlt|hge
    .simp[hlt] at hil h1;rw[hil] at h1;cases h1
    .simp[Array.getElem?_eq_none hge] at hil
   have hjT:j∉T:=fun ht=>by
    obtain⟨e,he,hb,heq⟩:=hT j ht oj hoj;exact hno e he hb heq
   have hput:=wpOp_putIf hoj (hfr j oj hoj e hjl hno) (fun cs b=>hsel i oi cs b hi) (fun cs b=>hsel j oj cs b hoj) hQ hy (H.2 j (ready_mono hj e));refine wpOp_mono (fun a' w' k=>?_) hput;obtain⟨k1,⟨k2,k4⟩,k3⟩:=k;have hE':zfm T (l.setIfInBounds j true):=zx1 hE hjT;have hS':S w':=k4 (zlf hE' hiT);refine⟨⟨k2,fun _=>hS'⟩,zlk hi hsel hQ hT hiT f (l.setIfInBounds j true) a' w' (fun k ok hk hki hun hno'=>hfr k ok hk hki ?_ hno') (ready_mono hr (Ne.symm e)) k1 k2 hS' hE' ?_⟩
   .by_cases hjk:j=k
    .subst hjk;exact hjl
    .rw[getD_set_ne true hjk] at hun;exact hun
   .rw[Array.setIfInBounds_comm _ _ e];exact k3⟩
theorem zxo {i:Nat} {oi:Oper} {v:Value} {f:Nat} {l:Array Bool} {a:Act} {w:World} (hi:ops[i]?=some oi) (hs:Region.noSelect ops=true) (hf:Region.free md ops l i=true) (hr:(Region.ready md ops l).contains i=true)
 (hQ:∀ c a w,Q (.panic c) (a.put oi.dst v) w->Q (.panic c) a w) (hiT:i∉T)
 (hy:YieldsIf P ops R oi v a) (hR:R w) (hS:zfm T l->S w) (h:AnyT P md ops Q R S T f (l.setIfInBounds i true) (a.put oi.dst v) w):AnyT P md ops Q R S T (f+1) l a w:=
 zll hi (Region.noSelect_spec hs) hQ hiT f l a w (Region.free_spec hi hf) (by simpa using hr) hy hR hS h
theorem zxn {i:Nat} {oi:Oper} {v:Value} {f:Nat} {l:Array Bool} {a:Act} {w:World} (hi:ops[i]?=some oi) (hs:Region.noSelect ops=true) (hf:Region.free md ops l i=true) (hr:(Region.ready md ops l).contains i=true)
 (hQ:∀ c a w,Q (.panic c) (a.put oi.dst v) w->Q (.panic c) a w) (hT:(T.all fun t=>match ops[t]? with | some ot=>ot.after.any fun e=>Region.binds md e&&e.on==i | none=>true)=true) (hiT:i∉T) (hE:(T.all fun t => !(l.getD t true))=true)
 (hy:YieldsIf P ops S oi v a) (hR:R w) (hS:S w) (h:AnyT P md ops Q R S T f (l.setIfInBounds i true) (a.put oi.dst v) w):AnyT P md ops Q R S T (f+1) l a w:=by
 refine zlk hi (Region.noSelect_spec hs) hQ (fun t ht ot hot=>?_) hiT f l a w (Region.free_spec hi hf) (by simpa using hr) hy hR hS (fun t ht=>by simpa using List.all_eq_true.1 hE t ht) h;have h1:=List.all_eq_true.1 hT t ht;rw[hot] at h1;simp only at h1;obtain⟨e,he,hb⟩:=Array.any_eq_true'.1 h1;simp only[Bool.and_eq_true,beq_iff_eq] at hb;exact⟨e,he,hb.1,hb.2⟩
theorem za2 {rs:List Nat} {f:Nat} {l:Array Bool} {a:Act} {w:World} (hr:Region.ready md ops l=rs) (hne:rs≠[])
 (h:∀ i∈rs,wpOp P ops Q i (fun a' w'=>(R w'∧(zfm T (l.setIfInBounds i true)->S w'))∧AnyT P md ops Q R S T f (l.setIfInBounds i true) a' w') a w):AnyT P md ops Q R S T (f+1) l a w:=⟨fun e=>absurd (hr▸e) hne,hr▸h⟩
theorem za3 {i f:Nat} {o:Oper} {l:Array Bool} {a:Act} {w:World} (ho:ops[i]?=some o)
 (h:∀ K':Act->World->Prop,Hid (∀ a w,R w->(zfm T (l.setIfInBounds i true)->S w)->AnyT P md ops Q R S T f (l.setIfInBounds i true) a w->K' a w)->if Region.wanted o (yielded ops a.tmps)=true then Oper.wp P o a w K' Q else K' (a.put o.dst undef) w):
 wpOp P ops Q i (fun a' w'=>(R w'∧(zfm T (l.setIfInBounds i true)->S w'))∧AnyT P md ops Q R S T f (l.setIfInBounds i true) a' w') a w:=wpOp_step ho fun K' hK=>h K' (Lib.hid fun a w hR hS hW=>hK a w ⟨⟨hR,hS⟩,hW⟩)
theorem za5 {p:Nat->Prop} {i:Nat} (h:p i):∀ j∈[i],p j:=fun j hj=>by
 rw[List.mem_singleton] at hj;subst hj;exact h
theorem zc6 {p:Nat->Prop} {i k:Nat} (h:p i) (h':p k):∀ j∈[i,k],p j:=fun j hj=>by
 simp at hj;rcases hj with rfl|rfl
 .exact h
 .exact h'
theorem zci {l:Array Bool} {a:Act} {w:World} (hr:Region.ready md ops l=[]) (h:Q .normal a w):∀ f,AnyT P md ops Q R S T f l a w
 | 0=>⟨hr,h⟩
 | _+1=>⟨fun _=>h,by rw[hr];simp⟩
theorem zdb {id:Nat} {a:Act} {w:World} (hm:P.follows .mixedOrders=true) (h:AnyT P .any ops Q R S T ops.size (Array.replicate ops.size false) a w.drew):(Code.region id ops true).wp P Q a w:=wp_region_any hm (zlj _ _ _ _ h)
theorem zai {l:Array Bool} {t:Nat} {p:Prop} (ht:t∈T) (hl:l.getD t true=true):zfm T l->p:=fun h=>by
 have:=h t ht;rw[hl] at this;cases this
end
theorem zmh {B B':Nat} {vN vO v1:Value} (hne:∀ b,vN.ownBlock=some b->vO.ownBlock=some b->False) (hlt:∀ b,vO.ownBlock=some b->b<B) (ho:v1.ownBlock=vN.ownBlock∨v1.ownBlock=some B') (hB:B<=B'):
 (∀ b,v1.ownBlock=some b->vO.ownBlock=some b->False)∧∀ b,v1.ownBlock=some b->vN.ownBlock=some b∨B<=b:=by
 refine⟨fun b e e'=>?_,fun b e=>?_⟩
 .rcases ho with h|h
  .exact hne b (h.symm.trans e) e'
  .have:b=B':=by rw[h] at e;injection e with e;exact e.symm
   have:=hlt b e';omega
 .rcases ho with h|h
  .exact .inl (h.symm.trans e)
  .have:b=B':=by rw[h] at e;injection e with e;exact e.symm
   exact .inr (by omega)
theorem anyR_tk {P:Program} {ops:Array Oper} {Q:Exit->Act->World->Prop} {md:Region.Mode} {R S:World->Prop} {T:List Nat} {i:Nat} {oi:Oper} {v:Value} {f:Nat} {l:Array Bool} {a:Act} {w:World} (hi:ops[i]?=some oi)
 (hy:YieldsIf P ops R oi v a) (hR:R w) (hS:zfm T l->S w) (h:AnyT P md ops Q R S T f (l.setIfInBounds i true) (a.put oi.dst v) w) (hs:Region.noSelect ops=true:=by kernel_rfl) (hf:Region.free md ops l i=true:=by kernel_rfl) (hr:(Region.ready md ops l).contains i=true:=by kernel_rfl)
 (hQ:∀ c a w,Q (.panic c) (a.put oi.dst v) w->Q (.panic c) a w:=by exact fun _ _ _ h=>h) (hiT:i∉T:=by first | decide | simp):AnyT P md ops Q R S T (f+1) l a w:=zxo hi hs hf hr hQ hiT hy hR hS h
theorem anyT_tk {P:Program} {ops:Array Oper} {Q:Exit->Act->World->Prop} {md:Region.Mode} {R S:World->Prop} {T:List Nat} {i:Nat} {oi:Oper} {v:Value} {f:Nat} {l:Array Bool} {a:Act} {w:World} (hi:ops[i]?=some oi)
 (hy:YieldsIf P ops S oi v a) (hR:R w) (hS:S w) (h:AnyT P md ops Q R S T f (l.setIfInBounds i true) (a.put oi.dst v) w) (hs:Region.noSelect ops=true:=by kernel_rfl) (hf:Region.free md ops l i=true:=by kernel_rfl) (hr:(Region.ready md ops l).contains i=true:=by kernel_rfl)
 (hQ:∀ c a w,Q (.panic c) (a.put oi.dst v) w->Q (.panic c) a w:=by exact fun _ _ _ h=>h) (hT:(T.all fun t=>match ops[t]? with | some ot=>ot.after.any fun e=>Region.binds md e&&e.on==i | none=>true)=true:=by kernel_rfl) (hiT:i∉T:=by decide) (hE:(T.all fun t => !(l.getD t true))=true:=by kernel_rfl):AnyT P md ops Q R S T (f+1) l a w:=zxn hi hs hf hr hQ hT hiT hE hy hR hS h
end
end Go.Proofs.YtipfgpfplakhiaaDoor
