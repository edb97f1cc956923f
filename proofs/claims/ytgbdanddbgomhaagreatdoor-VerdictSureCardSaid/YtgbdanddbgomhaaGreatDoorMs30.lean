import Derived.Test.YtgbdanddbgomhaaGreatDoorMs28
set_option linter.unusedVariables false
set_option linter.unusedSimpArgs false
namespace Go.Proofs.YtgbdanddbgomhaaGreatDoor
open Go Go.RowKit
section
attribute [local go_sem ↓] Go.wp_at_zero Go.wp_at_succ
def Deep (g:Nat) (s:ByteArray) (deep:Option (Nat->R T)) (n:Int):Prop:=
 (deep=none∧n=20)∨∃ f,deep=some f∧0<=n∧n<20∧∀ w st',Rdr w g s st'->st'.opn=n+1->st'.pos<=s.size->
   Calls Tryz.prog 46 #[.pointer (some ⟨g,0,none⟩)] w (RetNode w g s (f st'.pos) st')
end
section
attribute [local go_sem ↓] Go.wp_at_zero Go.wp_at_succ
theorem Tree.kid {w:World} {ok:Nat->Prop} {t:T} {k:Value} (h:Tree w ok t k) (hok:ok w.heap.size) (op:Int) (p:Nat->Bool) (lo hi:Int):
   Tree (w.alloc (.cells #[.int .i64 t.op,.int .u64 (word t.set 0),.int .u64 (word t.set 1),.int .u64 (word t.set 2),.int .u64 (word t.set 3),.int .i64 t.lo,.int .i64 t.hi,k] 41)) ok (.mk op p lo hi [t]) (.slice (some ⟨w.heap.size,0,none⟩) 1 1):=by
 refine .row (.mk op p lo hi [t]) w.heap.size 1 _ [k] (heap_alloc_new w _) hok rfl (by simp) (Nat.le_refl _) (by decide) rfl rfl fun i t' k' e1 e2=>?_
 match i,e1,e2 with
 | 0,e1,e2 =>
   have e1:t=t':=(by simpa [T.kids] using e1);have e2:k=k':=(by simpa using e2);subst e1 e2;exact h.alloc _
def St.times (s:ByteArray) (st:St):(Int×Int)×St:=
 let lo:=(st.number s).1
 let st1:=(st.number s).2
 let hi:=if st1.peek s=44 then ((st1.step 1).number s).1 else lo
 let st2:=if st1.peek s=44 then ((st1.step 1).number s).2 else st1
 let d:=(st2.next s).1
 let st3:=(st2.next s).2
 ((lo,hi),if d=125∧1<=hi∧hi<=32∧lo<=hi then st3 else st3.fail ((st3.pos:Int)-1) 2)
end
end Go.Proofs.YtgbdanddbgomhaaGreatDoor
