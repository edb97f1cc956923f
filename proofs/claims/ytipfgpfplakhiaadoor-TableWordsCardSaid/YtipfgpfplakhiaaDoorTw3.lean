import Derived.Test.YtipfgpfplakhiaaDoorTw2
set_option linter.unusedVariables false
set_option linter.unusedSimpArgs false
namespace Go.Proofs.YtipfgpfplakhiaaDoor
open Go Go.RowKit
theorem zm6 {w:World} {g:Nat} {t:TypeId} {F:Nat->Nat} {n:Int} {vN vO:Value} {fn:Func} {tmps:Array Value} {x:Nat} (hr:fn.results=#[.cell x t]) (hx:tmps.getD x undef = .pointer (some ⟨g,0,none⟩)) {d:TypeDesc} (hu:Tryd.prog.underlying t=some d) (hd:d.isRow=true) (hs:(Tryd.prog.info? t).map (·.size)=some 259)
 (h:BoxM w g t F n vN vO):(results fn tmps).run Tryd.prog w = .ok (.agg (zaf F n vN vO)) w:=by
 have e:(#[ResultVar.cell x t]:Array ResultVar)=[ResultVar.cell x t].toArray:=rfl;rw[ygj] at hx;unfold results;rw[hr,e];simp[Sem.run_bind,hx,znv hu hd hs h,asAddr]
end Go.Proofs.YtipfgpfplakhiaaDoor
