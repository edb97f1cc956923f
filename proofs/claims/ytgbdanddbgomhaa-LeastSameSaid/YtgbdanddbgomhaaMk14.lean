import Derived.Test.YtgbdanddbgomhaaMk13
set_option linter.unusedVariables false
set_option linter.unusedSimpArgs false
namespace Go.Proofs.Ytgbdanddbgomhaa
open Go
theorem zgc:∀ (l:List T),(∀ t∈l,plN t=min (plR t) 1000)->min (plSum l) 1000=min (plRL l) 1000
 | [],_=>rfl
 | t::ts,h=>by
   have h1:=h t (by simp);have h2:=zgc ts fun u hu=>h u (by simp[hu])
   simp only[plSum,plRL];omega
theorem zr7 {t:T} (hwf:WF t):plN t=min (plR t) 1000:=by
 induction hwf with
 | one p=>simp[plN,plR,plSum]
 | cat l h2 hN h ih =>
   have:=zgc l ih;simp only[plN,plR]
   simpa using this
 | alt l h2 hN h ih =>
   have:=zgc l ih;simp only[plN,plR]
   simpa using this
 | rep m n u h0 h1 h2 h3 hu ih =>
   have e1:plN (.mk 4 noneP m n [u])=min (plN u*n.toNat) 1000:=(by simp[plN,plSum]);have e2:plR (.mk 4 noneP m n [u])=n.toNat*plR u:=(by simp[plR,plRL]);rw[e1,e2,ih];have hn:1<=n.toNat:=(by omega);rcases Nat.le_total (plR u) 1000 with h|h
   . rw[Nat.min_eq_left h,Nat.mul_comm]
   . rw[Nat.min_eq_right h];have a1:1000<=1000*n.toNat:=Nat.le_mul_of_pos_right _ hn;have a2:plR u<=n.toNat*plR u:=Nat.le_mul_of_pos_left _ hn;omega
end Go.Proofs.Ytgbdanddbgomhaa
