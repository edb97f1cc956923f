import Derived.Test.YtgbdanddbgomhaaDoorMw46
import Derived.Deep.Strs
import Derived.Deep.Grids
set_option linter.unusedVariables false
set_option linter.unusedSimpArgs false
set_option maxRecDepth 20000
namespace Go.Proofs.YtgbdanddbgomhaaDoor
open Go Go.ChangeShapes Go.WideShapes Go.ChangeAt Go.RowKit Go.Deep
section
theorem zhf {W:World} {a:Addr} {v:Value} (h:W.cell? (a.add 0)=some v):∃ b off,a=⟨b,off,none⟩:=by
 obtain⟨b,off,spot⟩:=a;have:spot=none:=by simpa [Addr.add] using World.cell?_spot h
 subst this;exact⟨b,off,rfl⟩
section
variable {H:Type} {enc:TypeId×Value->H} {W:World} {base:Nat} {held:Bool} {v:Value} {d:DataW H} {ps:List MemPlace}
theorem znn (hv:Value.okWide Tryd.prog W .any base 48 v) (h:DataW.Trod enc Tryd.prog W 0 (fun _=>true) held 48 v d ps):
   ∃ A n cap L,v = .slice A n cap∧n=L.length∧RdStr W A L∧n<=cap∧cap<=maxLen∧∀ s∈L,s.size<=maxLen:=by
 obtain⟨A,n,cap,rfl⟩:=okWide_slice Tryd.underlying48 hv;obtain⟨fuel,hf⟩:=h;rcases open_strs Tryd.underlying48 Tryd.underlying9 (by kernel_rfl) hf with ⟨hcs,_⟩|⟨a,len,c,m,Sx,hcs,_,hl,hm,hmm,_,hcell⟩
 . simp[Value.cells] at hcs;obtain⟨rfl,rfl,rfl⟩:=hcs;exact⟨none,0,0,[],rfl,rfl,fun k s hk=>by simp at hk,Nat.le_refl _,Nat.zero_le _,fun s hs=>by simp at hs⟩
 . simp[Value.cells] at hcs;obtain⟨rfl,rfl,rfl⟩:=hcs;have hnm:n<=m:=(by rw[hmm];simp;omega);refine⟨_,n,cap,(List.range n).map Sx,rfl,by simp,fun i s hi=>?_,hl,hm,fun s hs=>?_⟩
   . have hlt:i<n:=(by have:=(List.getElem?_eq_some_iff.1 hi).1;simpa using this);simp[hlt] at hi;subst hi;obtain⟨b,off,rfl⟩:=zhf (hcell 0 (by omega)).1;have hc:=(hcell i (by omega)).1;rw[Go.WideShapes.add_plain] at hc;exact⟨b,off,rfl,World.block_lt_of_cell? W ⟨b,off+i,none⟩ hc,hc⟩
   . simp at hs;obtain⟨i,hi,rfl⟩:=hs;exact (hcell i (by omega)).2
theorem zki (hv:Value.okWide Tryd.prog W .any base 39 v) (h:DataW.Trod enc Tryd.prog W 0 (fun _=>true) held 39 v d ps):
   ∃ A n cap L,v = .slice A n cap∧n=L.length∧RdBo W A L∧n<=cap∧cap<=maxLen:=by
 obtain⟨A,n,cap,rfl⟩:=okWide_slice Tryd.underlying39 hv;obtain⟨fuel,hf⟩:=h;rcases open_bools Tryd.underlying39 Tryd.underlying4 (by kernel_rfl) hf with ⟨hcs,_⟩|⟨a,len,c,B,hcs,_,hl,hm,_,hcell⟩
 . simp[Value.cells] at hcs;obtain⟨rfl,rfl,rfl⟩:=hcs;exact⟨none,0,0,[],rfl,rfl,fun k s hk=>by simp at hk,Nat.le_refl _,Nat.zero_le _⟩
 . simp[Value.cells] at hcs;obtain⟨rfl,rfl,rfl⟩:=hcs;refine⟨_,n,cap,(List.range n).map B,rfl,by simp,fun i s hi=>?_,hl,hm⟩;have hlt:i<n:=(by have:=(List.getElem?_eq_some_iff.1 hi).1;simpa using this);simp[hlt] at hi;subst hi;obtain⟨b,off,rfl⟩:=zhf (hcell 0 (by omega));have hc:=hcell i (by omega);rw[Go.WideShapes.add_plain] at hc;exact⟨b,off,rfl,World.block_lt_of_cell? W ⟨b,off+i,none⟩ hc,hc⟩
end
end
end Go.Proofs.YtgbdanddbgomhaaDoor
