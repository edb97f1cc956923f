import Derived.Test.YtgbdanddbgomhaaGreatDoorMs40
import Derived.Test.YtgbdanddbgomhaaGreatDoorMs8
import Derived.Test.YtgbdanddbgomhaaGreatDoorCards
import Derived.Test.YtgbdanddbgomhaaGreatDoorTie
import Derived.ChangeMaps5
import Derived.LaidMore
import Derived.Lay
import Derived.Stop.Joined
import Derived.Lib.LaidTab
import Derived.SevenTiedAt
import Derived.HandedShaped
import Derived.LaidHandle
import Derived.Deep.Slices
set_option linter.unusedVariables false
set_option linter.unusedSimpArgs false
namespace Go.Proofs.YtgbdanddbgomhaaGreatDoor
open Go Go.ChangeShapes Go.WideShapes Go.ChangeAt Go.RowKit Go.Deep
section
def laidVer : List (String × DataW Unit) := [("math/bits.deBruijn64tab", Rows.laid_math_bits_deBruijn64tab), ("unicode/utf8.acceptRanges", Rows.laid_unicode_utf8_acceptRanges), ("errors.errorType", Rows.laid_errors_errorType), ("unicode/utf8.first", Rows.laid_unicode_utf8_first)]
def plainVer : List (String × DataW Unit) := [("math/bits.deBruijn64tab", Rows.laid_math_bits_deBruijn64tab), ("unicode/utf8.acceptRanges", Rows.laid_unicode_utf8_acceptRanges), ("unicode/utf8.first", Rows.laid_unicode_utf8_first)]
theorem zdg {W : World} (h : laidMetH Tryz.prog laidVer W) : laidMet Tryz.prog plainVer W ∧ handlesMet Tryz.prog [("errors.errorType", Rows.laid_errors_errorType)] W := h
def deInts15:List Int:=deBr.map fun (n:Nat)=>(n:Int)
theorem zk7 {H:Type}:(Rows.laid_math_bits_deBruijn64tab:DataW H)=Lib.tabData .u8 deInts15:=rfl
theorem gDe15 : Tryz.prog.globalNamed "math/bits.deBruijn64tab" = some 3 := by kernel_rfl
theorem tDe15:(Tryz.prog.globals[3]?).map (·.type)=some 168:=by kernel_rfl
theorem tab15 {W:World} (h:laidMetH Tryz.prog laidVer W):Tab W:=by
 have h:=(zdg h).1;unfold plainVer at h;rw[zk7] at h;have ht:=Lib.tabIs_of_head gDe15 tDe15 Tryz.underlying168 Tryz.underlying5 (by kernel_rfl) (by kernel_rfl) h;have hc:∀ k,k<64->W.cell? ⟨3,k,none⟩=some (.int .u8 (deBr.getD k 0:Nat)):=fun k hk=>by
   have hl:deInts15.length=64:=(by decide +kernel);rw[ht.cell gDe15 k (by omega)];have e:deInts15.getD k 0=((deBr.getD k 0:Nat):Int):=by
     unfold deInts15;rw[List.getD_eq_getElem?_getD,List.getD_eq_getElem?_getD,List.getElem?_map];cases deBr[k]? <;> rfl
   rw[e]
 exact⟨World.block_lt_of_cell? W _ (hc 0 (by omega)),hc⟩
theorem et15 : Tryz.prog.globalNamed "errors.errorType" = some 0 := by kernel_rfl
theorem rt15 : (Tryz.prog.cutTypes.find? (·.1 == "internal/reflectlite.rtype")).map (·.2) = some 148 := by kernel_rfl
theorem size15:Tryz.prog.types.size=218:=by kernel_rfl
theorem row15:((List.range 218).filter fun t=>Tryz.prog.rowNamed t [101,114,114,111,114])=[28]:=by kernel_rfl
theorem err15 {W:World} (h:laidMetH Tryz.prog laidVer W):ErrT W:=by
 obtain⟨name,u,ty,e1,e2,e3,e4,e5⟩:=(zdg h).2 _ (List.mem_singleton.2 rfl);have en:name=[101,114,114,111,114]:=(Option.some.inj e1).symm;subst en;obtain rfl:=Option.some.inj (rt15.symm.trans e2);have hm:ty∈(List.range 218).filter fun t=>Tryz.prog.rowNamed t [101,114,114,111,114]:=List.mem_filter.2 ⟨List.mem_range.2 (by rw[←size15];exact e3),e4⟩
 rw[row15] at hm;obtain rfl:=List.mem_singleton.1 hm;have hh:typeHandle Tryz.prog 28 = .pointer (some ⟨6,28,none⟩):=(by kernel_rfl);rw[hh] at e5
 simpa [ErrT] using World.var?_cell et15 e5 0
theorem dor15 {W:World} (h:laidMetH Tryz.prog laidVer W):Dor W:=⟨tab15 h,err15 h⟩
theorem maxl15 {W:World} (h:W.ShapedOpen Tryz.prog):MaxL W:=
 cell_of_shapedOpen_int (P:=Tryz.prog) (g:=2) (t:=3) (zero:=#[.int .i64 0]) h (of_decide_eq_true (by kernel_rfl)) (by kernel_rfl) rfl (by kernel_rfl) (by kernel_rfl) Tryz.underlying3
noncomputable def base15 (os:Os):World:=
 let w0:=World.holding Tryz.prog os ⟨#[],#[],[]⟩
 {w0 with heap:=w0.heap.modify 0 fun
     | .cells _ t frozen => .cells #[.iface 148 (.agg #[.pointer (some ⟨6,28,none⟩)])] t frozen
     | o=>o}
noncomputable def world15 (os:Os):World:=(base15 os).layVars Tryz.prog plainVer
theorem met15 (os:Os) (args:Array Value):laidMetH Tryz.prog laidVer ((world15 os).forCall (fun _ _=>0) ⟨#[],args,[]⟩).memory:=by
 have e1:(plainVer.filter fun x=>(plainVer.map (·.1)).contains x.1)=plainVer:=List.filter_eq_self.2 fun x hx=>List.contains_iff_mem.2 (List.mem_map.2 ⟨x,hx,rfl⟩)
 have e2:(plainVer.filter fun x => !(plainVer.map (·.1)).contains x.1)=[]:=List.filter_eq_nil_iff.2 fun x hx=>by rw[List.contains_iff_mem.2 (List.mem_map.2 ⟨x,hx,rfl⟩)];simp
 have hf:(base15 os).layFits Tryz.prog plainVer []=true:=(by kernel_rfl);have hi:(base15 os).layIfaces Tryz.prog plainVer (world15 os)=true:=(by kernel_rfl);have h:laidMet Tryz.prog plainVer (world15 os):=laidMet_layVars (w0:=base15 os) (plainVer.map (·.1)) [] (by rw[e1];rfl) (by rw[e1];exact hf) (by rw[e1];exact hi) (by rw[e2];exact LaidIn.none);exact laidMetH_of_parts (h.of_heap (by simp[World.memory,World.forCall,Input.heap])) (by kernel_rfl)
theorem zh9 {α:Type} {cs:List α} (h:cs.length=5):∃ c0 c1 c2 c3 c4,cs=[c0,c1,c2,c3,c4]:=by
 match cs,h with
 | [c0,c1,c2,c3,c4],_=>exact⟨c0,c1,c2,c3,c4,rfl⟩
theorem zn9:Tryz.prog.cellsOf 24=5:=by kernel_rfl
theorem zit:Tryz.prog.cellsOf 3=1:=by kernel_rfl
theorem zm0:Tryz.prog.cellsOf 22=1:=by kernel_rfl
theorem zn8:Tryz.prog.cellsOf 5=1:=by kernel_rfl
section
set_option maxRecDepth 20000
variable {H:Type} {enc:TypeId×Value->H} {W:World} {base:Nat} {held:Bool} {v:Value} {d:DataW H} {ps:List MemPlace}
theorem zmx (hv:Value.okWide Tryz.prog W .any base 24 v) (h:DataW.Trod enc Tryz.prog W 0 (fun _=>true) held 24 v d ps):∃ c:Cf,v = .agg #[.int .i64 c.lam,.int .i64 c.q,.int .i64 c.cap,.int .u64 (c.rate:Int),.int .u8 (c.mask:Int)]∧CfW c:=by
 obtain⟨cs,rfl,hsz,_⟩:∃ cs,v = .agg cs∧cs.size=Tryz.prog.cellsOf 24∧Row.okWide Tryz.prog W .any base 24 cs:=by
   simpa [Value.okWide,Tryz.underlying24] using hv
 rw[zn9] at hsz;obtain⟨l⟩:=cs;obtain⟨c0,c1,c2,c3,c4,rfl⟩:=zh9 (show l.length=5 from hsz);obtain⟨fuel,hf⟩:=h;obtain⟨xs,n,_,_,_,hlen,hf⟩:=DataW.trod_struct Tryz.underlying24 hf;obtain⟨y0,y1,y2,y3,y4,rfl⟩:=zh9 (show xs.length=5 from hlen);have h0:=hf 0 _ rfl;have h1:=hf 1 _ rfl;have h2:=hf 2 _ rfl;have h3:=hf 3 _ rfl;have h4:=hf 4 _ rfl;simp[zit,zm0,zn8,Value.cells] at h0 h1 h2 h3 h4;obtain⟨x0,e0,_,w0⟩:=DataW.trod_int Tryz.underlying3 h0;obtain⟨x1,e1,_,w1⟩:=DataW.trod_int Tryz.underlying3 h1;obtain⟨x2,e2,_,w2⟩:=DataW.trod_int Tryz.underlying3 h2;obtain⟨x3,e3,_,w3⟩:=DataW.trod_int Tryz.underlying22 h3;obtain⟨x4,e4,_,w4⟩:=DataW.trod_int Tryz.underlying5 h4;simp at e0 e1 e2 e3 e4;subst e0 e1 e2 e3 e4;have b0:=bounds_i64 w0;have b1:=bounds_i64 w1;have b2:=bounds_i64 w2;have b3:=bounds_u64 w3;have b4:=bounds_u8 w4;refine⟨⟨x0,x1,x2,x3.toNat,x4.toNat⟩,?_,⟨?_,?_,b0,b1,b2⟩⟩
 . rw[show ((x3.toNat:Nat):Int)=x3 by omega,show ((x4.toNat:Nat):Int)=x4 by omega]
 . show x3.toNat<_;omega
 . show x4.toNat<=_;omega
end
theorem zby {H:Type} {enc:TypeId×Value->H} {a:Assume} {C:Checked} {os:Os} {f:FuncId} {fn:Func} {s:ChangeSpec} {conds:List PathCond} {apart fresh handsOn again:Bool} {X:World->Array Value->Prop}
   (hX:∀ (w w':World) (args:Array Value),w'.heap=w.heap->X w args->X w' args) (own:ownKnob C.prog.godebug=none) (started:os.Started) (noInit:C.prog.inits.idxOf? f=none) (hfn:C.prog.funcs[f]?=some fn)
   (witness:∃ (w:World) (tape:Tape) (i:Input),w.os=os∧(w.forCall tape i).Shaped C.prog∧i.vars=[]∧Input.okWide C.prog (w.forCall tape i) .any w.heap.size f i∧
     ((s.pre enc C.prog fn conds apart (w.forCall tape i).memory i.args∧X (w.forCall tape i).memory i.args)∧sizedMet enc C.prog fn (OpenSpec.ofChange s) apart (w.forCall tape i).memory i.args)∧a.holds C.prog (lone (Frame.enter C.prog f i.args .normal) [] (w.forCall tape i)))
   (walk:∀ (W:World) (base:Nat) (args:Array Value) (ds gs:List (DataW H)) (before:List MemPlace),
     (∀ (j:Nat) t v,fn.params[j]?=some t->args[j]?=some v->Value.okWide C.prog W .any base t v)->
     DataW.Whole enc C.prog fn.params.toList s.vars apart W args.toList ds gs before->
     W.ShapedOpen C.prog->X W args->
     (DataW.weightsEach C.prog (fn.params.toList++s.plain.varTypes C.prog) (ds++gs)).all (· <= reachBytes)=true->
     Calls C.prog f args W fun e W'=>∃ v,e = .returned v∧s.post enc C.prog fn apart fresh handsOn again W args v W'):
   ReturnsInHanded a C os f .any (fun w args=>(s.pre enc C.prog fn conds apart w args∧X w args)∧sizedMet enc C.prog fn (OpenSpec.ofChange s) apart w args) (s.post enc C.prog fn apart fresh handsOn again):=by
 refine returnsInHanded_of_calls own started noInit witness ?_;rintro w tape i _ hshape _ ⟨_,_,_,fn',hfn',_,_,_,_,hval⟩ ⟨⟨⟨ds,gs,before,hw,_⟩,hx⟩,hz⟩ _;obtain rfl:fn'=fn:=Option.some.inj (hfn'.symm.trans hfn);refine (walk (w.forCall tape i) w.heap.size i.args ds gs before hval (DataW.Whole.of_heap (by rfl) hw) hshape (hX _ _ _ (by rfl) hx) (hz.weights hw)).mono ?_;rintro e W' ⟨v,rfl,hp⟩;exact ChangeSpec.post_blind hp
end
end Go.Proofs.YtgbdanddbgomhaaGreatDoor
