import Derived.Test.YtgbdanddbgomhaaGreatDoorMs30
set_option linter.unusedVariables false
set_option linter.unusedSimpArgs false
namespace Go.Proofs.YtgbdanddbgomhaaGreatDoor
open Go Go.RowKit
section
attribute [local go_sem ↓] Go.wp_at_zero Go.wp_at_succ
section
variable {w wx wy:World} {g:Nat} {s:ByteArray} {st:St} {B:Nat} {v:Value} {l:List T}
theorem Row.lt (h:Row w B v l):∀ b,v.ownBlock=some b->B<=b∧b<w.heap.size:=by
 obtain⟨ks,h1,h2,h3⟩:=h;exact h2.lt
theorem zfb (w:World) (t:T) (k:Value):∀ (j:Nat) u,(nodeC t k)[j]?=some u->(w.alloc (.cells #[.int .i64 t.op,.int .u64 (word t.set 0),.int .u64 (word t.set 1),.int .u64 (word t.set 2),.int .u64 (word t.set 3),.int .i64 t.lo,.int .i64 t.hi,k] 41)).cell? ((⟨w.heap.size,0,none⟩:Addr).add j)=some u:=by
 intro j u hu;have hj:j<8:=by
   have:=List.getElem?_eq_some_iff.1 hu
   simpa [nodeC] using this.1
 have hadd:(⟨w.heap.size,0,none⟩:Addr).add j=⟨w.heap.size,j,none⟩:=by unfold Addr.add;split <;> simp_all
 rw[hadd,cell_of_row _ _ j _ 41 (0,0) (heap_alloc_new w _),←hu];simp[nodeC]
theorem zh5 {t:T} {k:Value} (hrow:Row wx B v l) (hB:B<=wx.heap.size) (ht:Tree w (fun b=>wx.heap.size<=b) t k):Tree w (fun b=>B<=b∧some b≠v.ownBlock) t k:=
 ht.weak fun b hb _=>⟨by omega,fun e=>by have:=hrow.lt b e.symm;omega⟩
end
def Pieces (g:Nat) (s:ByteArray) (deep:Option (Nat->R T)) (n:Int):Prop:=∀ w st',Rdr w g s st'->st'.opn=n->st'.pos<=s.size->
 Calls Tryz.prog 93 #[.pointer (some ⟨g,0,none⟩)] w (RetNode w g s (cPiece s deep st'.pos) st')
end
end Go.Proofs.YtgbdanddbgomhaaGreatDoor
