import Derived.Test.YtgbdanddbgomhaaGreatDoorMs11
import Derived.Test.YtgbdanddbgomhaaGreatDoorMs12
import Derived.Test.YtgbdanddbgomhaaGreatDoorMs14
import Derived.Test.YtgbdanddbgomhaaGreatDoorMs4
set_option linter.unusedVariables false
set_option linter.unusedSimpArgs false
namespace Go.Proofs.YtgbdanddbgomhaaGreatDoor
open Go Go.RowKit
section
attribute [local go_sem ↓] Go.wp_at_zero Go.wp_at_succ
def RetSet (w:World) (g:Nat) (s:ByteArray) (o:R (Nat->Bool)) (st:St) (e:Ending) (w':World):Prop:=
 ∃ q st',e = .returned (setV q)∧Rdr w' g s st'∧w.grownBy w' (some g)∧Rel s o st q st'
end
section
attribute [local go_sem ↓] Go.wp_at_zero Go.wp_at_succ
theorem zl5 {w:World} {B:Nat} {v:Value} {l:List T} (h:Row w B v l) (hB:B<=w.heap.size) (hl:l.length<=100000) (t:T) (k:Value) (ht:Tree w (fun b=>B<=b∧some b≠v.ownBlock) t k)
   (ty:TypeId) (ad:Addr) (c:Nat) (hc:∀ (j:Nat) u,(nodeC t k)[j]?=some u->w.cell? (ad.add j)=some u):
   ∃ v' w',(Builtin.append_ #[39,39] ty #[v,.slice (some ad) 1 c]).run Tryz.prog w = .ok v' w'∧Row w' B v' (l++[t])∧w.grownBy w' v.ownBlock∧B<=w'.heap.size:=by
 obtain⟨ks,h1,h2,h3⟩:=h;obtain⟨i0,hi,hz0,hz1,hz2⟩:=info_parts Tryz.infoNode;obtain⟨v',w',hr,h4,h5,_,h6⟩:=run_append_own_at (P:=Tryz.prog) w B 39 ty 41 i0 _ 8 80 Tryz.underlying39 hi hz0 hz1 hz2 rfl (by decide) v l.length (cellsOf l ks) h2 ad 1 c (nodeC t k) rfl hc
   (by
     intro u hu;simp[nodeC] at hu;rcases hu with rfl|rfl|rfl|rfl|rfl|rfl|rfl|rfl
     all_goals first | rfl | exact ht.one) (by unfold maxLen;omega) (by omega) hB
 refine⟨v',w',hr,⟨ks++[k],by simp[h1],?_,fun i t' k' e1 e2=>?_⟩,h5,Nat.le_trans hB h5.size⟩
 . rw[zd6 l ks t k h1]
   simpa using h4
 . have hkeep:∀ t' k',Tree w (fun b=>B<=b∧some b≠v.ownBlock) t' k'->Tree w' (fun b=>B<=b∧some b≠v'.ownBlock) t' k':=by
     intro t' k' h;refine h.mono fun b hb hlt _=>⟨h5.block b hlt hb.2,hb.1,?_⟩
     rcases h6 with h6|h6
     . rw[h6];exact hb.2
     . rw[h6];simp;omega
   by_cases hi:i<l.length
   . rw[List.getElem?_append_left hi] at e1;rw[List.getElem?_append_left (by omega)] at e2;exact hkeep _ _ (h3 i t' k' e1 e2)
   . rw[List.getElem?_append_right (by omega)] at e1;rw[List.getElem?_append_right (by omega)] at e2;have hi':i=l.length:=by
       have:=List.getElem?_eq_some_iff.1 e1;simp at this;omega
     subst hi';simp[h1] at e1 e2;subst e1 e2;exact hkeep _ _ ht
theorem zcs {w:World} {ops:Array Oper} {rest:List Oper} {o:Oper} {a:Act} {Q:Exit->Act->World->Prop} (hgd:o.guard=none) (s x:Operand)
   (ho:o.op = .call {callee := .builtin .append,args:=#[s,x],argTypes:=#[39,39]})
   {B:Nat} {v:Value} {l:List T} (hs:a.eval s=v) (h:Row w B v l) (hB:B<=w.heap.size) (hl:l.length<=100000) (t:T) (k:Value) (ht:Tree w (fun b=>B<=b∧some b≠v.ownBlock) t k)
   (ad:Addr) (c:Nat) (hx:a.eval x = .slice (some ad) 1 c) (hc:∀ (j:Nat) u,(nodeC t k)[j]?=some u->w.cell? (ad.add j)=some u)
   (hk:∀ v' w',Row w' B v' (l++[t])->w.grownBy w' v.ownBlock->B<=w'.heap.size->wpList Tryz.prog ops Q rest (a.put o.dst v') w'):wpList Tryz.prog ops Q (o::rest) a w:=by
 obtain⟨v',w',hr,h2,h3,h4⟩:=zl5 h hB hl t k ht o.type ad c hc;refine wpList_plain hgd fun _ hK=>?_
 unfold Oper.wp execOp;simp only[ho,resolve,invoke,builtin,Sem.run_bind,Sem.run_pure,Result.andThen_ok,List.map_toArray,List.map_cons,List.map_nil,hs,hx,hr];exact hK _ _ (hk v' w' h2 h3 h4)
def RetMany (w:World) (B:Nat) (t:T) (e:Ending) (w':World):Prop:=∃ k,e = .returned (nodeV t k)∧Tree w' (fun b=>B<=b) t k∧Below w.heap.size w w'
end
section
def RetNode (w:World) (g:Nat) (s:ByteArray) (o:R T) (st:St) (e:Ending) (w':World):Prop:=
 ∃ t k st',e = .returned (nodeV t k)∧Tree w' (fun b=>w.heap.size<=b) t k∧Rdr w' g s st'∧w.grownBy w' (some g)∧Rel s o st t st'
structure Mid (w:World) (g:Nat) (s:ByteArray) (st:St) (wx:World):Prop where
 lt:g<w.heap.size
 rdr:Rdr wx g s st
 box:Box8 wx w.heap.size T.zero (.slice none 0 0)
 only:w.grownBy wx (some g)
section
variable {w wx wy:World} {g:Nat} {s:ByteArray} {st st':St}
end
theorem zll (c:Int):memP [c]=rangeP c c:=by
 funext x
 unfold memP rangeP;rw[Bool.eq_iff_iff];simp;omega
end
section
attribute [local go_sem ↓] Go.wp_at_zero Go.wp_at_succ
def Rx (w:World) (g:Nat) (s:ByteArray) (pos:Nat) (opn:Int):Prop:=
 w.heap[g]?=some (.cells #[.string s,.int .i64 (pos:Int),.int .i64 opn] 121 (0,0))
section
variable {w w':World} {g:Nat} {s:ByteArray} {pos:Nat} {opn:Int}
theorem Rx.cell (h:Rx w g s pos opn):w.cell? ⟨g,0,none⟩=some (.string s)∧w.cell? ⟨g,1,none⟩=some (.int .i64 (pos:Int))∧w.cell? ⟨g,2,none⟩=some (.int .i64 opn):=by
 unfold Rx at h;refine⟨?_,?_,?_⟩ <;> exact cell_of_row w g _ _ 121 (0,0) h
theorem Rx.frozen (h:Rx w g s pos opn):w.frozen? ⟨g,0,none⟩=false∧w.frozen? ⟨g,1,none⟩=false∧w.frozen? ⟨g,2,none⟩=false:=by
 unfold Rx at h;refine⟨?_,?_,?_⟩ <;> simp[World.frozen?,h]
theorem Rx.lt (h:Rx w g s pos opn):g<w.heap.size:=za0 h
theorem Rx.drewN (h:Rx w g s pos opn) (n:Nat):Rx (w.drewN n) g s pos opn:=h
theorem Rx.setPos (h:Rx w g s pos opn) (k:Nat):Rx (w.setCell ⟨g,1,none⟩ (.int .i64 (k:Int))) g s k opn:=by
 unfold Rx at *;simp[World.setCell,Array.getElem?_modify,h]
theorem Rx.setOpn (h:Rx w g s pos opn) (k:Int):Rx (w.setCell ⟨g,2,none⟩ (.int .i64 k)) g s pos k:=by
 unfold Rx at *;simp[World.setCell,Array.getElem?_modify,h]
theorem Rx.stays (h:Rx w g s pos opn) (hb:Below w.heap.size w w'):Rx w' g s pos opn:=(hb.block g h.lt).trans h
theorem Rx.alloc (h:Rx w g s pos opn) (o:Obj):Rx (w.alloc o) g s pos opn:=(Below.heap_alloc w o g h.lt).trans h
theorem Rx.block (h:Rx w g s pos opn) (hb:w'.heap[g]?=w.heap[g]?):Rx w' g s pos opn:=hb.trans h
end
def Fault (w':World) (B:Nat) (c a:Int) (e:Ending):Prop:=
 ∃ gs,B<=gs∧e = .panicked [{v := .iface 69 (.pointer (some ⟨gs,0,none⟩)),recovered:=false}]∧w'.heap[gs]?=some (.cells #[.int .i64 a,.int .i64 c] 73 (0,0))
theorem Fault.more {w':World} {B B':Nat} {c a:Int} {e:Ending} (h:Fault w' B c a e) (hB:B'<=B):Fault w' B' c a e:=by
 obtain⟨gs,h1,h2,h3⟩:=h;exact⟨gs,Nat.le_trans hB h1,h2,h3⟩
def XRet {α:Type} (w:World) (g:Nat) (s:ByteArray) (opn:Int) (r:R α) (val:α->Value->World->Prop) (e:Ending) (w':World):Prop:=match r with
 | .ok (a,p)=>(∃ v,e = .returned v∧val a v w')∧Rx w' g s p opn∧w.grownBy w' (some g)
 | .error (c,q)=>Fault w' w.heap.size c q e∧w.grownBy w' (some g)
def preB (a t:ByteArray):Bool:=decide (t.size<=a.size)&&((a.extract 0 t.size).toList==t.toList)
theorem zgw (s:ByteArray) (pos n:Nat) (h:pos+n<=s.size):((s.extract pos s.size).extract 0 n).toList=(s.data.toList.drop pos).take n:=by
 rw[ByteArray.toList_eq,ByteArray.data_extract,ByteArray.data_extract,Array.toList_extract,Array.toList_extract];have hl:s.data.toList.length=s.size:=rfl;simp only[List.extract,List.drop_zero,Nat.sub_zero];rw[List.take_take]
 congr 1
 omega
theorem pre1 (s:ByteArray) (pos:Nat) (c:UInt8) (hp:pos<=s.size):preB (s.extract pos s.size) ⟨#[c]⟩=isB s pos c.toNat:=by
 have hz:(s.extract pos s.size).size=s.size-pos:=(by simp);have hl:s.data.toList.length=s.size:=rfl;unfold preB isB;rw[hz,ByteArray.toList_eq ⟨#[c]⟩]
 show (decide (1<=s.size-pos)&&(((s.extract pos s.size).extract 0 1).toList==[c]))=_
 by_cases h:pos<s.size
 . rw[zgw s pos 1 (by omega),List.drop_eq_getElem_cons (by omega)];have e:bt s pos=(s.data.toList[pos]'(by omega)).toNat:=by
     unfold bt;rw[List.getD_eq_getElem?_getD,List.getElem?_eq_getElem (by omega)];rfl
   rw[e];generalize s.data.toList[pos]'(by omega)=x;rw[Bool.eq_iff_iff];simp[h,show 1<=s.size-pos by omega,UInt8.toNat_inj]
 . simp[h,show ¬ (1<=s.size-pos) by omega]
theorem pre2 (s:ByteArray) (pos:Nat) (c d:UInt8) (hp:pos<=s.size):preB (s.extract pos s.size) ⟨#[c,d]⟩=(isB s pos c.toNat&&isB s (pos+1) d.toNat):=by
 have hz:(s.extract pos s.size).size=s.size-pos:=(by simp);have hl:s.data.toList.length=s.size:=rfl;unfold preB isB;rw[hz,ByteArray.toList_eq ⟨#[c,d]⟩]
 show (decide (2<=s.size-pos)&&(((s.extract pos s.size).extract 0 2).toList==[c,d]))=_
 by_cases h:pos+1<s.size
 . rw[zgw s pos 2 (by omega),List.drop_eq_getElem_cons (by omega),List.drop_eq_getElem_cons (by omega)];have e:∀ k,(hk:k<s.size)->bt s k=(s.data.toList[k]'(by omega)).toNat:=by
     intro k hk;unfold bt;rw[List.getD_eq_getElem?_getD,List.getElem?_eq_getElem (by omega)];rfl
   rw[e pos (by omega),e (pos+1) h];generalize s.data.toList[pos]'(by omega)=x;generalize s.data.toList[pos+1]'(by omega)=y;rw[Bool.eq_iff_iff];simp[h,show pos<s.size by omega,show 2<=s.size-pos by omega,UInt8.toNat_inj]
 . simp[h,show ¬ (2<=s.size-pos) by omega]
set_option maxHeartbeats 400000 in
theorem xhp_p (a t:ByteArray) (w:World) (ha:a.size<=1000) (ht:t.size<=2):
   Calls Tryz.prog 117 #[.string a,.string t] w fun e w'=>e = .returned (.bool (preB a t))∧w=w':=by
 by_cases hle:t.size<=a.size
 . have e:preB a t=((a.extract 0 t.size).toList==t.toList):=(by unfold preB;simp[hle]);rw[e];clear e;go_enter Tryz.func117,Tryz.ntmps117;go_wp2;go_ret;exact⟨rfl,rfl⟩
 . have e:preB a t=false:=(by unfold preB;simp[hle]);rw[e];clear e;go_enter Tryz.func117,Tryz.ntmps117;go_wp2;go_ret;exact⟨rfl,rfl⟩
theorem xhp_q (a t:ByteArray) (w:World) (ha:a.size<=1000) (ht:t.size<=2):
   Calls Tryz.prog 117 #[.string a,.string t] w fun e w'=>e = .returned (.bool (preB a t))∧∃ n,w'=w.drewN n:=
 (xhp_p a t w ha ht).mono fun e w' ⟨h1,h2⟩=>⟨h1,0,h2.symm⟩
set_option maxHeartbeats 400000 in
theorem zb0 (w:World) (g:Nat) (s:ByteArray) (pos:Nat) (opn:Int) (h:Rx w g s pos opn) (hs:s.size<=1000):
   Calls Tryz.prog 64 #[.pointer (some ⟨g,0,none⟩)] w fun e w'=>e = .returned (.bool (pos==s.size))∧∃ n,w'=w.drewN n:=by
 obtain⟨c0,c1,c2⟩:=h.cell;go_enter Tryz.func64,Tryz.ntmps64;go_wp2;go_quiet (fail);go_wp2;go_ret;refine⟨congrArg Ending.returned (congrArg Value.bool ?_),_,rfl⟩;rw[Bool.eq_iff_iff];simp;omega
set_option maxHeartbeats 400000 in
theorem zmf (w:World) (g:Nat) (s:ByteArray) (pos:Nat) (opn:Int) (h:Rx w g s pos opn) (hs:s.size<=1000) (hp:pos<=s.size) (t:ByteArray) (ht:t.size<=2):
   Calls Tryz.prog 105 #[.pointer (some ⟨g,0,none⟩),.string t] w fun e w'=>e = .returned (.bool (preB (s.extract pos s.size) t))∧∃ n,w'=w.drewN n:=by
 obtain⟨c0,c1,c2⟩:=h.cell;have k0:(0:Int)<=(pos:Int):=(by omega);have k1:(pos:Int)<=(s.size:Int):=(by omega);have hx:(s.extract pos s.size).size<=1000:=(by simp;omega);go_enter Tryz.func105,Tryz.ntmps105;go_wp2;go_quiet ((go_at_call 117;exact Calls.quiet_of (xhp_q _ _ _ hx ht)));go_wp2;go_ret;exact⟨rfl,_,rfl⟩
set_option maxHeartbeats 400000 in
theorem zag (w:World) (g:Nat) (s:ByteArray) (pos:Nat) (opn:Int) (c:Int) (h:Rx w g s pos opn):
   Calls Tryz.prog 65 #[.pointer (some ⟨g,0,none⟩),.int .i64 c] w fun e w'=>e = .returned (.pointer (some ⟨w.heap.size,0,none⟩))∧w'=w.alloc (.cells #[.int .i64 (pos:Int),.int .i64 c] 73):=by
 obtain⟨c0,c1,c2⟩:=h.cell;go_enter Tryz.func65,Tryz.ntmps65;go_wp2;go_ret;exact⟨rfl,rfl⟩
end
section
attribute [local go_sem ↓] Go.wp_at_zero Go.wp_at_succ
end
end Go.Proofs.YtgbdanddbgomhaaGreatDoor
