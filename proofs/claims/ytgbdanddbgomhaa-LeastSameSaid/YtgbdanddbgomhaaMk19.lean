import Derived.Test.YtgbdanddbgomhaaMk16
set_option linter.unusedVariables false
set_option linter.unusedSimpArgs false
namespace Go.Proofs.Ytgbdanddbgomhaa
open Go Go.RowKit
theorem Try.infoWd:(Try.prog.info? 127).map (fun i=>(i.zero,i.size,i.bytes))=some (some (.agg #[.int .i64 0,.int .i64 0,.int .i64 0]),3,24):=by kernel_rfl
def Ws (w:World) (B:Nat) (v:Value) (l:List Wd):Prop:=w.ownsRow B 127 3 v l.length (wdL l)
theorem Ws.nil (w:World) (B:Nat):Ws w B (.slice none 0 0) []:=World.ownsRow_nil w B _ 3
theorem Ws.stays {w w':World} {B:Nat} {v:Value} {l:List Wd} (h:Ws w B v l) (hb:Below w.heap.size w w'):Ws w' B v l:=zaa h fun b e hl=>hb.block b hl
theorem Ws.form {w:World} {B:Nat} {v:Value} {l:List Wd} (h:Ws w B v l):∃ A c,v = .slice A l.length c:=by
 rcases h.2 with ⟨rfl,h0⟩|⟨g,cap,cur,rfl,_⟩
 . exact⟨none,0,by rw[h0]⟩
 . exact⟨_,_,rfl⟩
theorem Ws.rd {w:World} {B n c:Nat} {A:Option Addr} {l:List Wd} (h:Ws w B (.slice A n c) l):RdW w A l:=by
 obtain⟨A',c',e⟩:=h.form;injection e with e1 e2 e3
 subst e1 e2 e3;exact RdW.of_row h rfl
theorem zx6 {w:World} {B:Nat} {v:Value} {l:List Wd} (h:Ws w B v l) (hB:B<=w.heap.size) (hl:l.length<=100000) (x:Wd) (ty:TypeId) (ad:Addr) (c:Nat)
   (hc:∀ (j:Nat) u,(wdC x)[j]?=some u->w.cell? (ad.add j)=some u):
   ∃ v' w',(Builtin.append_ #[87,87] ty #[v,.slice (some ad) 1 c]).run Try.prog w = .ok v' w'∧Ws w' B v' (l++[x])∧w.grownBy w' v.ownBlock∧(v'.ownBlock=v.ownBlock∨v'.ownBlock=some w.heap.size):=by
 obtain⟨i0,hi,hz0,hz1,hz2⟩:=info_parts Try.infoWd;obtain⟨v',w',hr,h4,h5,_,h6⟩:=run_append_own_at (P:=Try.prog) w B 87 ty 127 i0 _ 3 24 Try.underlying87 hi hz0 hz1 hz2 rfl (by decide) v l.length (wdL l) h ad 1 c (wdC x) rfl hc
   (by
     intro u hu;simp[wdC] at hu;rcases hu with rfl|rfl|rfl
     all_goals rfl) (by unfold maxLen;omega) (by omega) hB
 refine⟨v',w',hr,?_,h5,h6⟩;have e:wdL l++wdC x=wdL (l++[x]):=(by rw[zxa];simp[wdL]);unfold Ws;rw[←e]
 simpa using h4
theorem zjr {w:World} {ops:Array Oper} {rest:List Oper} {o:Oper} {a:Act} {Q:Exit->Act->World->Prop} (hgd:o.guard=none) (s x:Operand)
   (ho:o.op = .call {callee := .builtin .append,args:=#[s,x],argTypes:=#[87,87]})
   {B:Nat} {v:Value} {l:List Wd} (hs:a.eval s=v) (h:Ws w B v l) (hB:B<=w.heap.size) (hl:l.length<=100000) (y:Wd)
   (ad:Addr) (c:Nat) (hx:a.eval x = .slice (some ad) 1 c) (hc:∀ (j:Nat) u,(wdC y)[j]?=some u->w.cell? (ad.add j)=some u)
   (hk:∀ v' w',Ws w' B v' (l++[y])->w.grownBy w' v.ownBlock->(v'.ownBlock=v.ownBlock∨v'.ownBlock=some w.heap.size)->wpList Try.prog ops Q rest (a.put o.dst v') w'):wpList Try.prog ops Q (o::rest) a w:=by
 obtain⟨v',w',hr,h2,h3,h4⟩:=zx6 h hB hl y o.type ad c hc;refine wpList_plain hgd fun _ hK=>?_
 unfold Oper.wp execOp;simp only[ho,resolve,invoke,builtin,Sem.run_bind,Sem.run_pure,Result.andThen_ok,List.map_toArray,List.map_cons,List.map_nil,hs,hx,hr];exact hK _ _ (hk v' w' h2 h3 h4)
theorem zww (w:World) (x:Wd):∀ (j:Nat) u,(wdC x)[j]?=some u->(w.alloc (.cells #[.int .i64 (x.rule:Int),.int .i64 (x.place:Int),.int .i64 (x.age:Int)] 127)).cell? ((⟨w.heap.size,0,none⟩:Addr).add j)=some u:=by
 intro j u hu;rw[Addr.add_lit,Nat.zero_add,cell_of_row _ _ j _ 127 (0,0) (heap_alloc_new w _)]
 simpa [wdC] using hu
theorem Ws.in {w:World} {B:Nat} {v:Value} {l:List Wd} (h:Ws w B v l):∀ b,v.ownBlock=some b->B<=b∧b<w.heap.size:=fun b e=>World.ownsRow.lt h b e
def fstOne (r:Nat) (s:Lay) (b:Nat) (l:List Nat):List Wd:=(l.filter fun p=>s.sets.getD p noneP b).map fun p=>⟨r,p,1⟩
theorem zm8 (r:Nat) (s:Lay) (b:Nat) (l:List Nat) (k p:Nat) (h:l[k]?=some p):fstOne r s b (l.take (k+1))=fstOne r s b (l.take k)++(if s.sets.getD p noneP b=true then [⟨r,p,1⟩] else []):=by
 unfold fstOne;rw[List.take_add_one,h,Option.toList_some,List.filter_append,List.map_append];cases hs:s.sets.getD p noneP b
 . rw[List.filter_cons_of_neg (by rw[hs];decide)];simp
 . rw[List.filter_cons_of_pos (by rw[hs])];simp
def fstN (L:List (Lay×Str)) (b:Nat):Nat->List Wd
 | 0=>[]
 | k+1=>fstN L b k++(match L[k]? with | some (s,x)=>fstOne k s b x.first | none=>[])
theorem zsy (L:List (Lay×Str)) (b:Nat) {k m:Nat} (h:k<=m):(fstN L b k).length<=(fstN L b m).length:=by
 induction m with
 | zero =>
           have:k=0:=by omega
           subst this;exact Nat.le_refl _
 | succ m ih =>
   by_cases e:k=m+1
   . subst e;exact Nat.le_refl _
   . exact Nat.le_trans (ih (by omega)) (by rw[fstN,List.length_append];omega)
theorem zsx (L:List (Lay×Str)) (b k:Nat) (s:Lay) (x:Str) (h:L[k]?=some (s,x)) (q:Nat):(fstN L b k++fstOne k s b (x.first.take q)).length<=(fstN L b L.length).length:=by
 have h1:=(List.getElem?_eq_some_iff.1 h).1;refine Nat.le_trans ?_ (zsy L b (k:=k+1) h1);rw[fstN,h,List.length_append,List.length_append];have:(fstOne k s b (x.first.take q)).length<=(fstOne k s b x.first).length:=by
   unfold fstOne;rw[List.length_map,List.length_map];exact ((List.take_sublist q x.first).filter _).length_le
 simp only;omega
def folPut (s:Lay) (b:Nat) (x:Wd) (q:Nat) (o:List Wd):List Wd:=if s.sets.getD q noneP b=true∧¬ (⟨x.rule,q,x.age+1⟩:Wd)∈o then o++[⟨x.rule,q,x.age+1⟩] else o
def folOne (s:Lay) (b:Nat) (x:Wd):List Nat->List Wd->List Wd
 | [],o=>o
 | q::l,o=>folOne s b x l (folPut s b x q o)
def stepOne (L:List (Lay×Str)) (lam b:Nat) (x:Wd) (o:List Wd):List Wd:=match L[x.rule]? with
 | some (s,_)=>if x.age<lam then folOne s b x (s.follow.getD x.place []) o else o
 | none=>o
def stepW (L:List (Lay×Str)) (lam b:Nat):List Wd->List Wd->List Wd
 | [],o=>o
 | x::st,o=>stepW L lam b st (stepOne L lam b x o)
theorem zl0 (s:Lay) (b:Nat) (x:Wd) (q:Nat) (o:List Wd):o.length<=(folPut s b x q o).length:=by
 unfold folPut
 by_cases h:s.sets.getD q noneP b=true∧¬ (⟨x.rule,q,x.age+1⟩:Wd)∈o
 . rw[if_pos h,List.length_append];omega
 . rw[if_neg h];exact Nat.le_refl _
theorem zgz (s:Lay) (b:Nat) (x:Wd):∀ (l:List Nat) (o:List Wd),o.length<=(folOne s b x l o).length
 | [],o=>Nat.le_refl _
 | q::l,o=>Nat.le_trans (zl0 s b x q o) (zgz s b x l _)
theorem zon (L:List (Lay×Str)) (lam b:Nat) (x:Wd) (o:List Wd):o.length<=(stepOne L lam b x o).length:=by
 unfold stepOne;rcases L[x.rule]? with _|⟨s,t⟩
 . exact Nat.le_refl _
 . simp only
   by_cases h:x.age<lam
   . rw[if_pos h];exact zgz _ _ _ _ _
   . rw[if_neg h];exact Nat.le_refl _
theorem ziy (L:List (Lay×Str)) (lam b:Nat):∀ (st o:List Wd),o.length<=(stepW L lam b st o).length
 | [],o=>Nat.le_refl _
 | x::st,o=>Nat.le_trans (zon L lam b x o) (ziy L lam b st _)
theorem zm9 (s:Lay) (b:Nat) (x:Wd) (l:List Nat) (k q:Nat) (h:l[k]?=some q) (o:List Wd):folOne s b x (l.drop k) o=folOne s b x (l.drop (k+1)) (folPut s b x q o):=by
 obtain⟨hk,e⟩:=List.getElem?_eq_some_iff.1 h;rw[List.drop_eq_getElem_cons hk,folOne,e]
theorem zom (L:List (Lay×Str)) (lam b:Nat) (st:List Wd) (k:Nat) (x:Wd) (h:st[k]?=some x) (o:List Wd):stepW L lam b (st.drop k) o=stepW L lam b (st.drop (k+1)) (stepOne L lam b x o):=by
 obtain⟨hk,e⟩:=List.getElem?_eq_some_iff.1 h;rw[List.drop_eq_getElem_cons hk,stepW,e]
def OkRef (L:List (Lay×Str)):Prop:=∀ (i:Nat) s x,L[i]?=some (s,x)->(∀ p∈x.first,p<s.sets.length)∧x.first.length<=100000∧∀ p,p<s.sets.length->(∀ q∈s.follow.getD p [],q<s.sets.length)∧(s.follow.getD p []).length<=100000
def OkSt (L:List (Lay×Str)) (st:List Wd):Prop:=∀ x∈st,∃ s t,L[x.rule]?=some (s,t)∧x.place<s.sets.length∧x.age<=63
end Go.Proofs.Ytgbdanddbgomhaa
