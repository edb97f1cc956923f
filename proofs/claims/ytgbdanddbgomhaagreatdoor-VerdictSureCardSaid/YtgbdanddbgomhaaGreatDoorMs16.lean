import Derived.Test.YtgbdanddbgomhaaGreatDoorMs14
set_option linter.unusedVariables false
set_option linter.unusedSimpArgs false
namespace Go.Proofs.YtgbdanddbgomhaaGreatDoor
open Go Go.RowKit
section
def ruleC (r:T×Bool) (k:Value):List Value:=[.int .i64 r.1.op,.int .u64 (word r.1.set 0),.int .u64 (word r.1.set 1),.int .u64 (word r.1.set 2),.int .u64 (word r.1.set 3),.int .i64 r.1.lo,.int .i64 r.1.hi,k,.bool r.2]
theorem zas (r:T×Bool) (k:Value):(ruleC r k).length=9:=rfl
def rulesC:List (T×Bool)->List Value->List Value
 | r::rs,k::ks=>ruleC r k++rulesC rs ks
 | _,_=>[]
theorem zce:∀ (l:List (T×Bool)) (ks:List Value) (i q:Nat) (r:T×Bool) (k:Value),l[i]?=some r->ks[i]?=some k->q<9->(rulesC l ks)[i*9+q]?=(ruleC r k)[q]?
 | [],ks,i,q,r,k,h1,h2,hq=>by simp at h1
 | r'::l,[],i,q,r,k,h1,h2,hq=>by simp at h2
 | r'::l,k'::ks,0,q,r,k,h1,h2,hq=>by
   simp at h1 h2;subst h1 h2;rw[rulesC,List.getElem?_append_left (by rw[zas];omega)];simp
 | r'::l,k'::ks,i+1,q,r,k,h1,h2,hq=>by
   rw[rulesC,List.getElem?_append_right (by rw[zas];omega),zas,show (i+1)*9+q-9=i*9+q by omega];exact zce l ks i q r k (by simpa using h1) (by simpa using h2) hq
def RuleRow (ty:TypeId) (w:World) (B:Nat) (v:Value) (l:List (T×Bool)):Prop:=
 ∃ ks,ks.length=l.length∧w.ownsRow B ty 9 v l.length (rulesC l ks)∧∀ (i:Nat) r k,l[i]?=some r->ks[i]?=some k->Tree w (fun b=>B<=b) r.1 k
def RdRules (w:World) (A:Option Addr) (l:List (T×Bool)):Prop:=
 ∀ i r,l[i]?=some r->∃ g off k,A=some ⟨g,off,none⟩∧g<w.heap.size∧(∀ q u,(ruleC r k)[q]?=some u->w.cell? ⟨g,off+i*9+q,none⟩=some u)∧Tree w (fun _=>True) r.1 k
section
variable {w w':World} {B:Nat} {v:Value} {l:List (T×Bool)} {ty ty':TypeId} {A:Option Addr}
theorem RdRules.stays (h:RdRules w A l) (hb:Below w.heap.size w w'):RdRules w' A l:=fun i r hi=>by
 obtain⟨g,off,k,e,hg,hc,ht⟩:=h i r hi;exact⟨g,off,k,e,Nat.lt_of_lt_of_le hg hb.size,fun q u hu=>(hb.cell (p:=⟨g,off+i*9+q,none⟩) hg).trans (hc q u hu),ht.stays hb⟩
theorem RuleRow.kind (h:RuleRow ty w B v l) {b:Nat} (hb:v.ownBlock=some b):∃ cur,w.heap[b]?=some (.cells cur ty (0,0)):=by
 obtain⟨ks,h1,h2,h3⟩:=h;exact zle h2 hb
theorem RuleRow.stays (h:RuleRow ty w B v l) (hb:Below w.heap.size w w'):RuleRow ty w' B v l:=by
 obtain⟨ks,h1,h2,h3⟩:=h;exact⟨ks,h1,zc3 h2 hb,fun i r k e1 e2=>(h3 i r k e1 e2).stays hb⟩
theorem RuleRow.rd (h:RuleRow ty w B v l) {n c:Nat} (hv:v = .slice A n c):RdRules w A l:=fun i r hi=>by
 obtain⟨ks,h1,h2,h3⟩:=h;have hl:i<l.length:=(List.getElem?_eq_some_iff.1 hi).1;obtain⟨k,hk⟩:∃ k,ks[i]?=some k:=⟨_,List.getElem?_eq_getElem (by omega)⟩;have ht:=h3 i r k hi hk;rcases h2.2 with ⟨_,h0⟩|⟨g,cap,cur,e,hB,hg,_⟩
 . omega
 . rw[e] at hv h2;injection hv with e1 e2 e3
   refine⟨g,0,k,e1.symm,za0 hg,fun q u hu=>?_,ht.mono fun b _ _ _=>⟨rfl,trivial⟩⟩;have hq:q<9:=by
     have:=(List.getElem?_eq_some_iff.1 hu).1;rw[zas] at this;exact this
   rw[Nat.zero_add,World.ownsRow.cellAt h2 (i*9+q) (by omega),zce l ks i q r k hi hk hq];exact hu
end
def RuleBox (ty:TypeId) (w:World) (b:Nat) (r:T×Bool) (k:Value):Prop:=w.heap[b]?=some (.cells #[.int .i64 r.1.op,.int .u64 (word r.1.set 0),.int .u64 (word r.1.set 1),.int .u64 (word r.1.set 2),.int .u64 (word r.1.set 3),.int .i64 r.1.lo,.int .i64 r.1.hi,k,.bool r.2] ty (0,0))
section
variable {w w':World} {b:Nat} {r:T×Bool} {k:Value} {ty:TypeId}
end
structure RuleTy (ty tys:TypeId):Prop where
 und:Tryz.prog.underlying tys=some (.slice ty)
 info:(Tryz.prog.info? ty).map (fun i=>(i.zero,i.size,i.bytes))=some (some (.agg #[.int .i64 0,.int .u64 0,.int .u64 0,.int .u64 0,.int .u64 0,.int .i64 0,.int .i64 0,.slice none 0 0,.bool false]),9,88)
 node:ty≠41
end
theorem zg2:RuleTy 43 26:=⟨Tryz.underlying26,by kernel_rfl,by decide⟩
section
def setL (xs:List Value) (o:Nat):List Value->List Value
 | []=>xs
 | v::vs=>setL (xs.set o v) (o+1) vs
theorem zcw (x:Value):∀ (vs xs:List Value) (o:Nat),setL (x::xs) (o+1) vs=x::setL xs o vs
 | [],xs,o=>rfl
 | v::vs,xs,o=>by simp only[setL,List.set_cons_succ];rw[zcw x vs]
theorem zgt:∀ (ys vs xs:List Value) (o:Nat),setL (ys++xs) (ys.length+o) vs=ys++setL xs o vs
 | [],vs,xs,o=>by simp
 | y::ys,vs,xs,o=>by
   rw[List.cons_append,List.length_cons,show ys.length+1+o=ys.length+o+1 by omega,zcw,zgt ys];rfl
theorem zgu:∀ (vs ys xs:List Value),ys.length=vs.length->setL (ys++xs) 0 vs=vs++xs
 | [],[],xs,_=>rfl
 | v::vs,y::ys,xs,h=>by
   simp only[List.cons_append,setL,List.set_cons_zero];rw[zcw,zgu vs ys xs (by simpa using h)]
 | [],_::_,_,h=>by simp at h
 | _::_,[],_,h=>by simp at h
theorem zcd:∀ (l:List (T×Bool)) (ks:List Value),ks.length=l.length->(rulesC l ks).length=l.length*9
 | [],[],_=>rfl
 | r::l,k::ks,h=>by simp only[rulesC,List.length_append,zas,List.length_cons];rw[zcd l ks (by simpa using h)];omega
 | [],_::_,h=>by simp at h
 | _::_,[],h=>by simp at h
theorem zdh:∀ (l:List (T×Bool)) (ks:List Value) (i:Nat) (r:T×Bool) (k:Value),ks.length=l.length->i<l.length->setL (rulesC l ks) (i*9) (ruleC r k)=rulesC (l.set i r) (ks.set i k)
 | [],ks,i,r,k,h,hi=>by simp at hi
 | x::l,[],i,r,k,h,hi=>by simp at h
 | x::l,y::ks,0,r,k,h,hi=>by
   simp only[rulesC,List.set_cons_zero,Nat.zero_mul];exact zgu _ _ _ (by rw[zas,zas])
 | x::l,y::ks,i+1,r,k,h,hi=>by
   simp only[rulesC,List.set_cons_succ];have:=zgt (ruleC x y) (ruleC r k) (rulesC l ks) (i*9);rw[zas,show 9+i*9=(i+1)*9 by omega] at this;rw[this,zdh l ks i r k (by simpa using h) (by simpa using hi)]
theorem zch {B g n cap size:Nat} {e:TypeId}:∀ (vs:List Value) (o:Nat) (xs:List Value) (w:World),w.ownsRow B e size (.slice (some ⟨g,0,none⟩) n cap) n xs->(w.setCells g o vs).ownsRow B e size (.slice (some ⟨g,0,none⟩) n cap) n (setL xs o vs)
 | [],o,xs,w,h=>h
 | v::vs,o,xs,w,h=>zch vs (o+1) _ _ (World.ownsRow.stored h o v).1
theorem zbv {g b:Nat} (hb:b≠g):∀ (vs:List Value) (o:Nat) (w:World),(w.setCells g o vs).heap[b]?=w.heap[b]?
 | [],o,w=>rfl
 | v::vs,o,w=>(zbv hb vs (o+1) _).trans (Below.heap_setCell w _ _ b hb)
theorem zdx {B g:Nat} {a:World} (hb:B<=g):∀ (vs:List Value) (o:Nat) (w:World),Below B a w->Below B a (w.setCells g o vs)
 | [],o,w,h=>h
 | v::vs,o,w,h=>zdx hb vs (o+1) _ (h.setCell (p:=⟨g,o,none⟩) hb v)
def rule0:T×Bool:=(T.zero,false)
theorem zi1 (z:Nat):(madeCells (Value.agg #[.int .i64 0,.int .u64 0,.int .u64 0,.int .u64 0,.int .u64 0,.int .i64 0,.int .i64 0,.slice none 0 0,.bool false]).cells (z*9)).toList=rulesC (List.replicate z rule0) (List.replicate z (.slice none 0 0)):=by
 apply List.ext_getElem?;intro j
 by_cases hj:j<z*9
 . have hd:j=j / 9*9+j % 9:=(by omega);have hlt:j / 9<z:=(by omega);have h1:=zce (List.replicate z rule0) (List.replicate z (.slice none 0 0)) (j / 9) (j % 9) rule0 (.slice none 0 0) (by rw[List.getElem?_replicate,if_pos hlt]) (by rw[List.getElem?_replicate,if_pos hlt]) (by omega);rw[←hd] at h1;rw[h1];have h9:j % 9=0∨j % 9=1∨j % 9=2∨j % 9=3∨j % 9=4∨j % 9=5∨j % 9=6∨j % 9=7∨j % 9=8:=(by omega);simp only[madeCells,Value.cells,Array.toList_map,Array.toList_range,List.getElem?_map,List.getElem?_range hj,Option.map_some];rcases h9 with h|h|h|h|h|h|h|h|h <;> simp[h,ruleC,rule0,T.zero,za6,T.op,T.set,T.lo,T.hi]
 . rw[List.getElem?_eq_none (by simp[madeCells];omega),List.getElem?_eq_none (by rw[zcd _ _ (by simp),List.length_replicate];omega)]
def ruleV (r:T×Bool) (k:Value):Value := .agg #[.int .i64 r.1.op,.int .u64 (word r.1.set 0),.int .u64 (word r.1.set 1),.int .u64 (word r.1.set 2),.int .u64 (word r.1.set 3),.int .i64 r.1.lo,.int .i64 r.1.hi,k,.bool r.2]
section
variable {ty tys:TypeId} {w:World} {B g cap:Nat} {l:List (T×Bool)}
theorem RuleRow.made (hT:RuleTy ty tys) (w:World) (n:Nat) (hn:n<=100000):
   ∃ w',(Instr.makeSlice tys (.int .i64 (n:Int)) (.int .i64 (n:Int))).run Tryz.prog w = .ok (.slice (some ⟨w.heap.size,0,none⟩) n n) w'∧RuleRow ty w' w.heap.size (.slice (some ⟨w.heap.size,0,none⟩) n n) (List.replicate n rule0)∧Below w.heap.size w w':=by
 obtain⟨i0,hi,hi0,hi1,hi2⟩:=info_parts hT.info;obtain⟨wm,hmk,hown,hgm⟩:=run_make_full (P:=Tryz.prog) w w.heap.size tys ty i0 _ 9 hT.und hi hi0 hi1 .i64 .i64 n (by rw[hi2];omega) (by unfold maxLen;omega) (Nat.le_refl _);refine⟨wm,hmk,?_,(Below.refl _ _).grown hgm (Nat.le_refl _) fun q e=>by cases e⟩;rw[zi1] at hown;refine⟨List.replicate n (.slice none 0 0),by simp,by simpa using hown,fun i r k e1 e2=>?_⟩;rw[List.getElem?_replicate] at e1 e2;split at e1
 . rename_i h;rw[if_pos h] at e2;injection e1 with e1
   injection e2 with e2
   subst e1 e2;exact .nil _ rfl
 . cases e1
theorem RuleRow.frozenAt (h:RuleRow ty w B (.slice (some ⟨g,0,none⟩) l.length cap) l) (j:Nat):w.frozen? ⟨g,j,none⟩=false:=by
 obtain⟨ks,h1,h2,h3⟩:=h;exact World.ownsRow.frozenAt h2 j
theorem RuleRow.there (h:RuleRow ty w B (.slice (some ⟨g,0,none⟩) l.length cap) l) {i:Nat} (hi:i<l.length):w.there g (i*9) 9:=fun j hj=>by
 have hf:=h.frozenAt (i*9+j);obtain⟨ks,h1,h2,h3⟩:=h;refine⟨?_,hf⟩;rw[World.ownsRow.cellAt h2 (i*9+j) (by omega)];rw[List.getElem?_eq_getElem (by rw[zcd _ _ h1];omega)];rfl
set_option maxRecDepth 20000 in
theorem RuleRow.stoM (hT:RuleTy ty tys) (h:RuleRow ty w B (.slice (some ⟨g,0,none⟩) l.length cap) l) {i:Nat} (hi:i<l.length) (r:T×Bool) (A:Option Addr) (n c:Nat):StoM ty w (.pointer (some ⟨g,i*9,none⟩)) (ruleV r (.slice A n c)):=by
 unfold ruleV;obtain⟨i0,hi',hi0,hi1,hi2⟩:=info_parts hT.info;refine zmp ?_ ?_ ?_
 . simpa using h.there hi
 . rw[hi'];simp[hi1]
 . simp[Value.oneCell']
theorem RuleRow.setM (hT:RuleTy ty tys) (h:RuleRow ty w B (.slice (some ⟨g,0,none⟩) l.length cap) l) {i:Nat} (hi:i<l.length) (r:T×Bool) (k:Value) (ht:Tree w (fun b=>B<=b) r.1 k):
   RuleRow ty (Go.Proofs.YtgbdanddbgomhaaGreatDoor.stoM w (.pointer (some ⟨g,i*9,none⟩)) (ruleV r k)) B (.slice (some ⟨g,0,none⟩) l.length cap) (l.set i r):=by
 obtain⟨cg,hcg⟩:=h.kind (b:=g) rfl;obtain⟨ks,h1,h2,h3⟩:=h;have s:=zch (ruleC r k) (i*9) _ _ h2;rw[zdh l ks i r k h1 hi] at s;refine⟨ks.set i k,by rw[List.length_set,List.length_set,h1],by rw[List.length_set];exact s,fun j r' k' e1 e2=>?_⟩;have ht':Tree w (fun b=>B<=b) r'.1 k':=by
   rw[List.getElem?_set] at e1 e2
   by_cases e:i=j
   . subst e;rw[if_pos rfl,if_pos (by omega)] at e1 e2;injection e1 with e1
     injection e2 with e2
     rw[←e1,←e2];exact ht
   . rw[if_neg e] at e1 e2;exact h3 j r' k' e1 e2
 refine ht'.mono fun b hb hlt ⟨cur,hc⟩=>?_
 have hne:b≠g:=fun e=>by
   subst e;exact zid hcg hc hT.node rfl
 exact⟨zbv hne _ _ _,hb⟩
theorem zgk {B:Nat} {w0 w:World} {b o:Nat} {r:T×Bool} {k:Value} (h:Below B w0 w) (hb:B<=b):Below B w0 (Go.Proofs.YtgbdanddbgomhaaGreatDoor.stoM w (.pointer (some ⟨b,o,none⟩)) (ruleV r k)):=zdx hb _ _ _ h
end
end
end Go.Proofs.YtgbdanddbgomhaaGreatDoor
