import Derived.Test.YtipfgpfplakhiaaDoorRows
import Derived.WalkKit
import Derived.WalkSpells
import Derived.WalkLawsBesides
import Derived.Maps.AppendAt
import Derived.Deep.AppendLies
import Derived.Laws.Bits64
import Derived.Laws.Bits64b
import Derived.IntWalk
import Derived.Laws.OwnMore
import Derived.Deep.LoopGhost
import Derived.Lib.Hide
import Derived.BigQuiet
import Derived.Deep.DeepCutAuto
import Derived.Deep.DrawnRows
import Derived.Deep.QuietTactic
import Derived.Deep.RegionHeld3
import Derived.Deep.RegionLaw
import Derived.Deep.CutRange
import Derived.StillTailTactics
import Derived.RowKit
import Derived.Laws.BitsLemmas
import Derived.Lib.Split
import Derived.Laws.Tables
import Derived.Laws.CopyOwn
import Derived.Deep.MidRow
import Derived.BigRegion
import Derived.Laws.Cells
import Derived.Laws.BytesArg
import Derived.ProofKit
import Derived.OpenShut
import Derived.Laws.IdiomArrays
import Derived.Lib.SmallJoins
import Derived.RangeFuncNested
import Derived.OrdersIn
import Derived.Test.YtipfgpfplakhiaaDoorCards
import Derived.Test.YtipfgpfplakhiaaDoorTie
import Derived.ChangeMaps5
import Derived.LaidMore
import Derived.Stop.Joined
import Derived.Lib.LaidTab
import Derived.SevenTiedAt
set_option linter.unusedVariables false
set_option linter.unusedSimpArgs false
set_option maxRecDepth 20000
set_option maxRecDepth 20000
set_option maxHeartbeats 4000000
namespace Go.Proofs.YtipfgpfplakhiaaDoor
open Go Go.RowKit
theorem yie {p:Prop} (h:p:=by omega):p:=h
theorem yif {p:Prop} (h:p:=by repeat (first | with_reducible exact Kept.refl _ _ | with_reducible refine Kept.drew ?_ | with_reducible refine Kept.alloc ?_ _ | with_reducible refine Kept.grown ?_ G1.o (fun b e => .inl (.inl e)) | with_reducible refine Kept.grown ?_ G2.o (fun b e => .inl (.inr e)) | with_reducible refine Kept.trans ?_ KB.o (fun b e=>e.elim))):p:=h
theorem yig {p:Prop} (h:p:=by repeat (first | with_reducible exact Kept.refl _ _ | with_reducible refine Kept.drew ?_ | with_reducible refine Kept.alloc ?_ _ | with_reducible refine Kept.grown ?_ G1.o (fun b e => .inl (.inl e)) | with_reducible refine Kept.grown ?_ G2.o (fun b e => .inl (.inr e)))):p:=h
theorem yih {p:Prop} (h:p:=by kernel_rfl):p:=h
theorem yii {p:Prop} (h:p:=by simp):p:=h
theorem yij {p:Prop} (h:p:=by decide):p:=h
theorem yik {p:Prop} (h:p:=by rfl):p:=h
theorem yil {p:Prop} (h:p:=by simp;omega):p:=h
theorem yim {p:Prop} (h:p:=by first | with_reducible exact mid.rdr | with_reducible exact mid.rdr.drewN _):p:=h
theorem yin {p:Prop} (h:p:=by unfold maxLen;omega):p:=h
theorem yio {p:Prop} (h:p:=by repeat (first | with_reducible exact zav _ _ _ _ rfl | exact zav _ _ _ _ (by simp;done) | with_reducible refine zcg ?_ | with_reducible refine zbq _ ?_ | with_reducible refine zbj ?_ BB.o | with_reducible refine G1K.o _ _ ?_ | with_reducible refine G2K.o _ _ ?_)):p:=h
theorem yip {p:Prop} (h:p:=by repeat (first | with_reducible exact Kept.refl _ _ | with_reducible refine Kept.drew ?_ | with_reducible refine Kept.alloc ?_ _ | with_reducible refine Kept.grown ?_ G2.o (fun b e => .inl e) | with_reducible refine Kept.trans ?_ KB.o (fun b e=>e.elim))):p:=h
theorem yiq {p:Prop} (h:p:=by repeat (first | with_reducible exact Kept.refl _ _ | with_reducible refine Kept.drew ?_ | with_reducible refine Kept.alloc ?_ _ | with_reducible refine Kept.grown ?_ G2.o (fun b e => .inl e))):p:=h
theorem yir {p:Prop} (h:p:=by simpa using hgx'):p:=h
theorem yis {p:Prop} (h:p:=by simp only[yfe];omega):p:=h
theorem yit {p:Prop} (h:p:=by simpa using h):p:=h
theorem yiu {p:Prop} (h:p:=by first | with_reducible exact r0.drew.stays hb2 | with_reducible exact (r0.drew.alloc _).stays hb2 | with_reducible exact (r0.alloc _).drew.stays hb2):p:=h
theorem yiv {p:Prop} (h:p:=by have:=yey hks;rw[hx] at this;injection this with this;exact this.symm):p:=h
theorem yiw {p:Prop} (h:p:=by simpa using hgb):p:=h
theorem yix {p:Prop} (h:p:=by simp[h]):p:=h
theorem yiy {p:Prop} (h:p:=by first | with_reducible exact (Box4.new0 w1.drew).stays hb2 | with_reducible exact (Box4.new0 w1).drew.stays hb2):p:=h
theorem yiz {p:Prop} (h:p:=by first | with_reducible exact zay (zb5 (zdm hO) _) hb2 | with_reducible exact zay (zdm (zb5 hO _)) hb2):p:=h
theorem yj0 {p:Prop} (h:p:=by cases e):p:=h
theorem yj1 {p:Prop} (h:p:=by show w.heap.size+1+1≠wr.heap.size;omega):p:=h
theorem yj2 {p:Prop} (h:p:=by rw[HL.o];omega):p:=h
theorem yj3 {p:Prop} (h:p:=by rw[e]):p:=h
theorem yj4 {p:Prop} (h:p:=by simp[hx]):p:=h
theorem yj5 {p:Prop} (h:p:=by intro h;have:wc.heap.size+1=w.heap.size+1:=h;omega):p:=h
theorem yj6 {p:Prop} (h:p:=by show st2.pos+1<=s.size;omega):p:=h
theorem yj7 {p:Prop} (h:p:=by rw[e] at ex;injection ex with ex;simp at ex;omega):p:=h
theorem yj8 {p:Prop} (h:p:=by first | exact r0 | exact r0.drewN _):p:=h
theorem yj9 {p:Prop} (h:p:=by intro h;have:wc.heap.size=w.heap.size+1:=h;omega):p:=h
theorem yja {p:Prop} (h:p:=by have:=HN9.o;omega):p:=h
theorem yjb {p:Prop} (h:p:=by injection ex):p:=h
theorem yjc {p:Prop} (h:p:=by simpa using h1):p:=h
theorem yjd {p:Prop} (h:p:=by simpa using h2):p:=h
theorem yje {p:Prop} (h:p:=by unfold zb8;rw[HE.o.1,HE.o.2];rfl):p:=h
theorem yjf {p:Prop} (h:p:=by rw[←HN.o];exact hlt):p:=h
theorem yjg {p:Prop} (h:p:=by injection e with e;exact e.symm):p:=h
theorem yjh {p:Prop} (h:p:=by rw[←HN.o];omega):p:=h
theorem yji {p:Prop} (h:p:=by simpa using Ne.symm hgx):p:=h
theorem yjj {p:Prop} (h:p:=by rw[←hw1];exact (yf6 _ _).alloc (yez _) _):p:=h
theorem yjk {p:Prop} (h:p:=by have:=HC9.o;omega):p:=h
theorem Zh {p:Prop} (h:p):RowKit.Hid p:=h
theorem _root_.Go.RowKit.Hid.o {p:Prop} (h:RowKit.Hid p):p:=h.out
abbrev yey:=@List.getElem?_eq_getElem
abbrev yez:=@Nat.le_refl
abbrev yf0:=@List.getD_eq_getElem?_getD
abbrev yf4:=@List.getElem?_eq_some_iff
abbrev yf5:=@World.ownsRow.lt
abbrev yf6:=@Below.refl
abbrev yf7:=@World.ownsRow.cellAt
abbrev yf8:=@Nat.zero_le
abbrev yf9:=@Below.heap_setCell
abbrev yfa:=@Nat.le_trans
abbrev yfb:=@List.getElem?_append_left
abbrev yfc:=@List.getElem?_append_right
abbrev yfd:=@List.length_append
abbrev yfe:=@World.size_alloc
abbrev yff:=@Nat.lt_of_lt_of_le
abbrev yfg:=@List.take_succ_eq_append_getElem
abbrev yfh:=@List.mem_of_getElem?
abbrev yfi:=@List.mem_cons
abbrev yfj:=@List.getElem?_eq_none
abbrev yfk:=@List.not_mem_nil
abbrev yfl:=@List.append_assoc
abbrev yfm:=@List.mem_append
abbrev yfn:=@List.mem_singleton
abbrev yfo:=@Below.heap_alloc
abbrev yfp:=@World.cell?_of_block
abbrev yfq:=@List.getElem_mem
abbrev yfr:=@List.length_map
abbrev yfs:=@List.getElem?_map
abbrev yft:=@Int.toNat_natCast
abbrev yfu:=@List.map_append
abbrev yfv:=@List.mem_cons_of_mem
abbrev yfw:=@World.ownsRow.frozenAt
abbrev yfx:=@World.ownsRow_nil
abbrev yfy:=@List.take_length
abbrev yfz:=@List.mem_range
abbrev yg0:=@List.take_of_length_le
abbrev yg1:=@World.ownsRow.stored
abbrev yg2:=@Array.getElem?_modify
abbrev yg3:=@List.pairwise_cons
abbrev yg4:=@Nat.mul_le_mul_right
abbrev yg5:=@Nat.zero_add
abbrev yg6:=@List.mem_map
abbrev yg7:=@List.length_cons
abbrev yg8:=@List.length_take
abbrev yg9:=@List.mem_cons_self
abbrev yga:=@Nat.eq_of_testBit_eq
abbrev ygb:=@List.Pairwise.nil
abbrev ygc:=@Bool.eq_iff_iff
abbrev ygd:=@List.length_singleton
abbrev yge:=@List.drop_eq_getElem_cons
abbrev ygf:=@Nat.sub_self
abbrev ygg:=@List.cons_append
abbrev ygh:=@List.range_succ
abbrev ygi:=@List.ext_getElem?
abbrev ygj:=@Array.getD_eq_getD_getElem?
abbrev ygk:=@World.block_lt_of_cell?
abbrev ygl:=@Nat.mul_one
abbrev ygm:=@List.append_nil
abbrev ygn:=@List.nodup_append
abbrev ygo:=@List.map_cons
abbrev ygp:=@List.nodup_iff_pairwise_ne
abbrev ygq:=@Nat.pow_le_pow_right
abbrev ygr:=@List.getElem?_of_mem
abbrev ygs:=@Nat.lt_or_ge
abbrev ygt:=@List.getElem?_take_of_lt
abbrev ygu:=@List.getElem?_set
abbrev ygv:=@Nat.mul_comm
abbrev ygw:=@List.length_replicate
abbrev ygx:=@World.cell?_setCell_same
abbrev ygy:=@Bool.false_eq_true
abbrev ygz:=@List.map_toArray
abbrev yh0:=@List.map_nil
abbrev yh1:=@Nat.add_zero
abbrev yh2:=@Bool.and_eq_true
abbrev yh3:=@Nat.testBit_eq_decide_div_mod_eq
abbrev yh4:=@Nat.testBit_two_pow
abbrev yh5:=@List.length_nil
abbrev yh6:=@Bool.or_eq_true
abbrev yh7:=@List.filter_append
abbrev yh8:=@Nat.mod_eq_of_lt
abbrev yh9:=@List.length_eq_zero_iff
abbrev yha:=@Nat.succ_mul
abbrev yhb:=@List.map_congr_left
abbrev yhc:=@List.nil_append
abbrev yhd:=@List.nodup_cons
abbrev yhe:=@List.getElem?_range
abbrev yhf:=@Nat.not_lt_zero
abbrev yhg:=@List.length_filter_le
abbrev yhh:=@Nat.le_of_lt
abbrev yhi:=@List.sizeOf_lt_of_mem
abbrev yhj:=@List.take_append_drop
abbrev yhk:=@World.cell?_alloc_new
abbrev yhl:=@Nat.testBit_or
abbrev yhm:=@Array.all_eq_true_iff_forall_mem
abbrev yhn:=@List.pairwise_append
abbrev yho:=@World.alloc_heap_new
abbrev yhp:=@Nat.lt_trichotomy
abbrev yhq:=@Nat.two_pow_pos
abbrev yhr:=@List.eq_nil_of_length_eq_zero
abbrev yhs:=@List.take_zero
abbrev yht:=@Nat.le_mul_of_pos_left
abbrev yhu:=@Nat.eq_zero_or_pos
abbrev yhv:=@Nat.testBit_two_pow_sub_succ
abbrev yhw:=@Array.getElem?_toList
abbrev yhx:=@Bool.true_and
abbrev yhy:=@Nat.or_lt_two_pow
abbrev yhz:=@World.ownsRow_lit
abbrev yi0:=@Int.tmod_eq_emod_of_nonneg
abbrev yi1:=@Array.replicate_succ
abbrev yi2:=@Array.replicate_zero
abbrev yi3:=@List.getElem?_eq_none_iff
abbrev yi4:=@Nat.mul_le_mul
abbrev yi5:=@Option.getD_some
abbrev yi6:=@List.any_eq_true
abbrev yi7:=@List.append_toArray
abbrev yi8:=@List.take_succ_cons
abbrev yi9:=@List.getElem_of_mem
abbrev yia:=@Option.some.inj
abbrev yib:=@Int.natCast_mul
abbrev yic:=@List.size_toArray
abbrev yid:=@List.push_toArray
section
theorem za0 {w:World} {g:Nat} {o:Obj} (h:w.heap[g]?=some o):g<w.heap.size:=by
 rcases ygs g w.heap.size with hlt|hge
 .exact hlt
 .rw[Array.getElem?_eq_none hge] at h;cases h
theorem za6 {w w':World} {B e size n:Nat} {v:Value} {xs:List Value} (h:w.ownsRow B e size v n xs) (hb:Below w.heap.size w w'):w'.ownsRow B e size v n xs:=by
 refine⟨h.1,?_⟩;rcases h.2 with h0|⟨g,cap,cur,hv,hB,hh,r⟩
 .exact Or.inl h0
 .exact Or.inr ⟨g,cap,cur,hv,hB,(hb.block g (za0 hh)).trans hh,r⟩
theorem zbh {w:World} {B B' e size n:Nat} {v:Value} {xs:List Value} (h:w.ownsRow B e size v n xs) (hB:B'<=B):w.ownsRow B' e size v n xs:=by
 refine⟨h.1,?_⟩;rcases h.2 with h0|⟨g,cap,cur,hv,hg,r⟩
 .exact Or.inl h0
 .exact Or.inr ⟨g,cap,cur,hv,by omega,r⟩
theorem gro {w a b:World} (h:Below w.heap.size w a) (hb:Below a.heap.size a b):Below w.heap.size w b:=h.trans (hb.mono h.size)
theorem gro1 {w a b:World} {o:Obj} (h:Below w.heap.size w a) (hb:Below (a.alloc o).heap.size (a.alloc o) b):Below w.heap.size w b:=gro (h.alloc h.size o) hb
theorem zez {w w1:World} (h:Below w.drew.heap.size w.drew w1):Below w.heap.size w w1:=⟨h.os,h.tape,h.output,h.size,h.block⟩
theorem za4 {w w1:World} {a:Addr} {v:Value} (h:w.cell? a=some v) (hb:Below w.heap.size w w1):w1.cell? a=some v:=(hb.cell (ygk w a h)).trans h
def RdB (w:World) (B:Nat) (A:Option Addr) (xs:List Int):Prop:=
 ∀ k,k<xs.length->∃ b off,A=some ⟨b,off,none⟩∧b<B∧w.cell? ⟨b,off+k,none⟩=some (.int .u8 (xs.getD k 0))
section
variable {w w':World} {B B':Nat} {A:Option Addr} {xs:List Int}
theorem RdB.below (h:RdB w B A xs) (hb:Below B w w'):RdB w' B A xs:=fun k hk=>by
 obtain⟨b,off,e,hB,hc⟩:=h k hk;exact⟨b,off,e,hB,(hb.cell (p:=⟨b,off+k,none⟩) hB).trans hc⟩
theorem RdB.more (h:RdB w B A xs) (hB:B<=B'):RdB w B' A xs:=fun k hk=>by
 obtain⟨b,off,e,hb,hc⟩:=h k hk;exact⟨b,off,e,by omega,hc⟩
theorem RdB.at (h:RdB w B A xs) {k:Nat} (hk:k<xs.length):∃ b off,A=some ⟨b,off,none⟩∧b<B∧∀ j,j<xs.length->w.cell? ⟨b,off+j,none⟩=some (.int .u8 (xs.getD j 0)):=by
 obtain⟨b,off,e,hB,_⟩:=h k hk;refine⟨b,off,e,hB,fun j hj=>?_⟩;obtain⟨b',off',e',_,hc⟩:=h j hj;rw[e] at e';injection e' with e'
 injection e' with e1 e2
 subst e1 e2;exact hc
theorem zo1 {base n:Nat} {e:TypeId} {v:Value} (h:w.ownsRow base e 1 v n (xs.map (Value.int .u8))):∃ A cap,v = .slice A n cap∧n=xs.length∧RdB w w.heap.size A xs∧(A=none->n=0∧cap=0):=by
 have hn:n=xs.length:=(by have:=h.1;simp at this;omega);rcases h.2 with ⟨rfl,rfl⟩|⟨g,cap,cur,rfl,hg,hh,hc,hm,hs,ht⟩
 .exact⟨none,0,rfl,hn,fun k hk=>by omega,fun _=>⟨rfl,rfl⟩⟩
 .refine⟨_,cap,rfl,hn,fun k hk=>⟨g,0,rfl,za0 hh,?_⟩,fun h=>by cases h⟩;rw[yg5,cell_of_row w g k cur e (0,0) hh];have e1:(cur.toList.take (n*1))[k]?=(xs.map (Value.int .u8))[k]?:=(by rw[ht]);rw[ygt yie] at e1;rw[←yhw,e1];simp[yf0,yey hk]
end
end
section
section
variable {P:Program} (w:World)
theorem yb7 (t ty:TypeId) (base:Nat) (e:TypeId) (i:TypeInfo) (z:Value) (size bytes:Nat) (ht:P.underlying t=some (.slice e)) (hi:P.info? e=some i) (hz:i.zero=some z)
 (hsize:i.size=size) (hby:i.bytes=bytes) (hzs:z.cells.size=size) (hsz:0<size)
 (v:Value) (n:Nat) (xs:List Value) (hown:w.ownsRow base e size v n xs)
 (A:Option Addr) (m c:Nat) (news:List Value) (hl:news.length=m*size) (hnil:A=none->m=0) (hnews:∀ ad,A=some ad->∀ j u,news[j]?=some u->w.cell? (ad.add j)=some u) (h1:∀ u∈news,u.oneCell'=true)
 (h63:n+m<=maxLen) (hbytes:(n+m)*bytes<=140737488355328) (hbase:base<=w.heap.size):
 ∃ v' w',(Builtin.append_ #[t,t] ty #[v,.slice A m c]).run P w = .ok v' w'∧w'.ownsRow base e size v' (n+m) (xs++news)∧w.grownBy w' v.ownBlock:=by
 cases A with
 | none =>
  have hm:=hnil rfl;subst hm;have hn:news=[]:=yhr (by simpa using hl);subst hn;refine⟨v,w,?_,by simpa using hown,⟨rfl,rfl,rfl,yez _,fun _ _ _=>rfl⟩⟩;rcases hown.2 with ⟨rfl,rfl⟩|⟨g,cap,cur,rfl,_,_,hnc,_⟩
  .simp[Builtin.append_,run_underlying ht,sizeOf,typeInfo,hi,Builtin.lenOf,Builtin.firstCells]
  .simp[Builtin.append_,run_underlying ht,sizeOf,typeInfo,hi,Builtin.lenOf,Builtin.firstCells,hnc,storeCells]
 | some ad =>
  obtain⟨v',w',hr,h2,h3,_⟩:=run_append_own_at (P:=P) w base t ty e i z size bytes ht hi hz hsize hby hzs hsz v n xs hown ad m c news hl (hnews ad rfl) h1 h63 hbytes hbase;exact⟨v',w',hr,h2,h3⟩
theorem yda {o:Oper} {a:Act} {K:Act->World->Prop} {Q:Exit->Act->World->Prop} (s x:Operand) (t:TypeId)
 (ho:o.op = .call {callee := .builtin .append,args:=#[s,x],argTypes:=#[t,t]})
 (base:Nat) (e:TypeId) (i:TypeInfo) (z:Value) (size bytes:Nat) (ht:P.underlying t=some (.slice e)) (hi:P.info? e=some i) (hz:i.zero=some z)
 (hsize:i.size=size) (hby:i.bytes=bytes) (hzs:z.cells.size=size) (hsz:0<size)
 (v:Value) (n:Nat) (xs:List Value) (hs:a.eval s=v) (hown:w.ownsRow base e size v n xs)
 (A:Option Addr) (m c:Nat) (news:List Value) (hx:a.eval x = .slice A m c) (hl:news.length=m*size) (hnil:A=none->m=0) (hnews:∀ ad,A=some ad->∀ j u,news[j]?=some u->w.cell? (ad.add j)=some u) (h1:∀ u∈news,u.oneCell'=true)
 (h63:n+m<=maxLen) (hbytes:(n+m)*bytes<=140737488355328) (hbase:base<=w.heap.size)
 (h:∀ v' w',w'.ownsRow base e size v' (n+m) (xs++news)->w.grownBy w' v.ownBlock->K (a.put o.dst v') w'):o.wp P a w K Q:=by
 obtain⟨v',w',hr,h2,h3⟩:=yb7 (P:=P) w t o.type base e i z size bytes ht hi hz hsize hby hzs hsz v n xs hown A m c news hl hnil hnews h1 h63 hbytes hbase;unfold Oper.wp execOp;simp only[ho,resolve,invoke,builtin,Sem.run_bind,Sem.run_pure,Result.andThen_ok,ygz,ygo,yh0,hs,hx,hr];exact h v' w' h2 h3
theorem zyc {ops:Array Oper} {o:Oper} {a:Act} {K:Act->World->Prop} {Q:Exit->Act->World->Prop} {E:Prop} (hgd:o.guard=none) (s x:Operand) (t:TypeId)
 (ho:o.op = .call {callee := .builtin .append,args:=#[s,x],argTypes:=#[t,t]})
 (base:Nat) (e:TypeId) (i:TypeInfo) (z:Value) (size bytes:Nat) (ht:P.underlying t=some (.slice e)) (hi:P.info? e=some i) (hz:i.zero=some z)
 (hsize:i.size=size) (hby:i.bytes=bytes) (hzs:z.cells.size=size) (hsz:0<size)
 (v:Value) (n:Nat) (xs:List Value) (hs:a.eval s=v) (hown:w.ownsRow base e size v n xs)
 (A:Option Addr) (m c:Nat) (news:List Value) (hx:a.eval x = .slice A m c) (hl:news.length=m*size) (hnil:A=none->m=0) (hnews:∀ ad,A=some ad->∀ j u,news[j]?=some u->w.cell? (ad.add j)=some u) (h1:∀ u∈news,u.oneCell'=true)
 (h63:n+m<=maxLen) (hbytes:(n+m)*bytes<=140737488355328) (hbase:base<=w.heap.size)
 (h:∀ v' w',w'.ownsRow base e size v' (n+m) (xs++news)->w.grownBy w' v.ownBlock->K (a.put o.dst v') w'):
 if Region.wanted o (yielded ops a.tmps)=true then Oper.wp P o a w K Q else E:=by
 have hw:Region.wanted o (yielded ops a.tmps)=true:=(by simp[Region.wanted,hgd]);rw[if_pos hw];exact yda w s x t ho base e i z size bytes ht hi hz hsize hby hzs hsz v n xs hs hown A m c news hx hl hnil hnews h1 h63 hbytes hbase h
end
theorem ybn {w:World} {B:Nat} {A:Option Addr} {xs:List Int} (h:RdB w B A xs):∀ ad,A=some ad->∀ j u,(xs.map (Value.int .u8))[j]?=some u->w.cell? (ad.add j)=some u:=by
 intro ad hA j u hu;have hj:j<xs.length:=by
  rcases ygs j xs.length with h|h
  .exact h
  .rw[yfj yit] at hu;cases hu
 obtain⟨b,off,e,_,hc⟩:=h j hj;rw[hA] at e;injection e with e
 subst e;have hadd:(⟨b,off,none⟩:Addr).add j=⟨b,off+j,none⟩:=by unfold Addr.add;split <;> simp_all
 rw[hadd,hc];simp only[yfs,yey hj,Option.map_some,Option.some.injEq] at hu;rw[←hu,yf0,yey hj];rfl
theorem zn3 (xs:List Int):∀ u∈xs.map (Value.int .u8),u.oneCell'=true:=by
 intro u hu;simp only[yg6] at hu;obtain⟨x,_,rfl⟩:=hu;rfl
end
section
section
variable {P:Program} (w:World)
end
def HasO (w:World) (g:Nat) (o:Obj):Prop:=w.heap[g]?=some o
theorem zav (w:World) (cs:Array Value) (t:TypeId) (g:Nat) (h:w.heap.size=g):HasO (w.alloc (.cells cs t)) g (.cells cs t (0,0)):=by
 subst h;exact heap_alloc_new w _
theorem zbq {w:World} {g:Nat} {o:Obj} (o':Obj) (h:HasO w g o):HasO (w.alloc o') g o:=(yfo w o' g (za0 h)).trans h
theorem zcg {w:World} {g:Nat} {o:Obj} (h:HasO w g o):HasO w.drew g o:=h
theorem zbp {w w':World} {g:Nat} {o:Obj} {row:Option Nat} (hg:w.grownBy w' row) (h:HasO w g o) (hne:some g≠row):HasO w' g o:=(hg.block g (za0 h) hne).trans h
theorem zbj {w w':World} {g:Nat} {o:Obj} (h:HasO w g o) (hb:Below w.heap.size w w'):HasO w' g o:=(hb.block g (za0 h)).trans h
theorem zse {B:Nat} {a w:World} (h:Below B a w) (hB:B=a.heap.size) (o:Obj):Below B a (w.alloc o):=h.alloc (hB▸h.size) o
theorem zcr {w:World} {a:Addr} {v:Value} (h:w.cell? a=some v) (o:Obj):(w.alloc o).cell? a=some v:=(yfp (yfo w o a.block (ygk w a h))).trans h
theorem zb4 {w:World} {a:Addr} {v:Value} (h:w.cell? a=some v):w.drew.cell? a=some v:=h
theorem zbg {B:Nat} {a w:World} (h:Below B a w) (n:Nat):Below B a (w.drewN n):=⟨h.os,h.tape,h.output,h.size,h.block⟩
theorem zbf {w:World} {g:Nat} {o:Obj} {a:Addr} (u:Value) (h:HasO w g o) (hne:g=a.block->False):HasO (w.setCell a u) g o:=(yf9 w a u g hne).trans h
end
section
open Go
def zdv (q:Nat->Bool):Nat->Nat
 | 0=>0
 | n+1=>(q 0).toNat+2*zdv (fun j=>q (j+1)) n
theorem zn5:∀ (n:Nat) (q:Nat->Bool),zdv q n<2 ^ n
 | 0,_=>by simp[zdv]
 | n+1,q=>by
  have h:=zn5 n (fun j=>q (j+1));have:(q 0).toNat<=1:=by cases q 0 <;> simp
  rw[zdv,Nat.pow_succ];omega
theorem zei:∀ (n:Nat) (q:Nat->Bool) (j:Nat),(zdv q n).testBit j=(decide (j<n)&&q j)
 | 0,q,j=>by simp[zdv]
 | n+1,q,0=>by
  rw[zdv,Nat.testBit_zero];cases q 0 <;> simp <;> omega
 | n+1,q,j+1=>by
  have h:=zei n (fun j=>q (j+1)) j;rw[zdv,Nat.testBit_add_one,show ((q 0).toNat+2*zdv (fun j=>q (j+1)) n) / 2=zdv (fun j=>q (j+1)) n by cases q 0 <;> simp <;> omega,h];simp
theorem zds (n:Nat) (q r:Nat->Bool) (h:∀ j,j<n->q j=r j):zdv q n=zdv r n:=by
 apply yga;intro j;rw[zei,zei]
 by_cases hj:j<n
 .simp[hj,h j hj]
 .simp[hj]
def zbl (p:Nat->Bool) (i:Nat):Nat:=zdv (fun j=>p (64*i+j)) 64
def word (p:Nat->Bool) (i:Nat):Int:=(zbl p i:Int)
theorem zcd (p:Nat->Bool) (i:Nat):zbl p i<18446744073709551616:=zn5 64 _
theorem ziw (p:Nat->Bool) (i:Nat):0<=word p i:=by unfold word;omega
theorem zue (p:Nat->Bool) (i:Nat):word p i<=18446744073709551615:=by have:=zcd p i;unfold word;omega
theorem zau (p:Nat->Bool) (i j:Nat):(zbl p i).testBit j=(decide (j<64)&&p (64*i+j)):=zei 64 _ j
theorem zdg (p q:Nat->Bool) (i:Nat) (h:∀ j,j<64->p (64*i+j)=q (64*i+j)):zbl p i=zbl q i:=zds 64 _ _ h
theorem zc7 {p q:Nat->Bool} (h:∀ x,x<256->p x=q x) {i:Nat} (hi:i<4):word p i=word q i:=by
 unfold word;rw[zdg p q i fun j hj=>h _ yie]
def add1 (p:Nat->Bool) (b:Nat):Nat->Bool:=fun x=>p x||x==b
def orP (p q:Nat->Bool):Nat->Bool:=fun x=>p x||q x
def notP (p:Nat->Bool):Nat->Bool:=fun x => !p x
def za9:Nat->Bool:=fun _=>false
def zam (lo hi:Int):Nat->Bool:=fun x=>decide (lo<=x)&&decide ((x:Int)<=hi)
def memP (l:List Int):Nat->Bool:=fun x=>l.any fun y=>y==(x:Int)
theorem zak (i:Nat):word za9 i=0:=by
 have:zbl za9 i=0:=by
  apply yga;intro j;rw[zau];simp[za9]
 simp[word,this]
theorem zdc {n:Int} (h0:0<=n) (h1:n<=18446744073709551615):IntKind.u64.wrap n=n:=by
 simp[IntKind.wrap,IntKind.bits,IntKind.signed];omega
theorem zv2 (b:Int) (h0:0<=b):((2:Int) ^ (b % 64).toNat)=((2 ^ (b % 64).toNat:Nat):Int)∧2 ^ (b % 64).toNat<18446744073709551616:=by
 refine⟨by simp,?_⟩;have:(b % 64).toNat<=63:=by omega
 have h:=ygq (n:=2) yie this;have e:(2:Nat) ^ 63=9223372036854775808:=yij;omega
theorem zmx (p:Nat->Bool) (b:Int) (h0:0<=b) (h1:b<=255):
 (bits .and .u64 (word p (b / 64).toNat / 2 ^ (b % 64).toNat) 1==1)=p b.toNat:=by
 have e:=(zv2 b h0).1;have lt:zbl p (b / 64).toNat / 2 ^ (b % 64).toNat<18446744073709551616:=Nat.lt_of_le_of_lt (Nat.div_le_self _ _) (zcd _ _);unfold word;rw[e,←Int.natCast_ediv,show (1:Int)=((1:Nat):Int) from rfl,bits_and_u64_nat _ _ lt yie];have t:=zau p (b / 64).toNat (b % 64).toNat;rw[yh3] at t;have hm:(b % 64).toNat<64:=yie;have hx:64*(b / 64).toNat+(b % 64).toNat=b.toNat:=yie;rw[hx] at t;simp only[hm,decide_true,yhx] at t;rw[←t,Nat.and_one_is_mod];generalize zbl p (b / 64).toNat / 2 ^ (b % 64).toNat=m;rw[ygc,beq_iff_eq,decide_eq_true_iff];omega
theorem ycc (p:Nat->Bool) (b:Int) (h0:0<=b) (h1:b<=255):
 ((word p (b / 64).toNat / 2 ^ (b % 64).toNat).tmod 2==1)=p b.toNat:=by
 have e:=(zv2 b h0).1;unfold word;rw[e,←Int.natCast_ediv];have t:=zau p (b / 64).toNat (b % 64).toNat;rw[yh3] at t;have hm:(b % 64).toNat<64:=yie;have hx:64*(b / 64).toNat+(b % 64).toNat=b.toNat:=yie;rw[hx] at t;simp only[hm,decide_true,yhx] at t;rw[←t];generalize zbl p (b / 64).toNat / 2 ^ (b % 64).toNat=m;rw[yi0 yie,ygc,beq_iff_eq,decide_eq_true_iff];omega
theorem zlq (p:Nat->Bool) (b:Nat) (i:Nat) (hi:i≠b / 64):word (add1 p b) i=word p i:=by
 unfold word;rw[zdg (add1 p b) p i fun j hj=>?_];have:¬ (64*i+j=b):=by omega
 simp[add1,this]
theorem zu6 (p:Nat->Bool) (b:Nat):zbl (add1 p b) (b / 64)=zbl p (b / 64) ||| 2 ^ (b % 64):=by
 apply yga;intro j;rw[yhl,zau,zau,yh4]
 by_cases hj:j<64
 .have:(64*(b / 64)+j==b)=decide (b % 64=j):=by
   rw[ygc];simp;omega
  simp[hj,add1,this]
 .have:¬ (b % 64=j):=by omega
  simp[hj,this]
theorem zp4:∀ (n:Nat) (q:Nat->Bool) (b:Nat),b<n->q b=false->zdv (fun j=>q j||j==b) n=zdv q n+2 ^ b
 | n+1,q,0,_,hq=>by
  have e:zdv (fun j=>(q (j+1)||j+1==0)) n=zdv (fun j=>q (j+1)) n:=zds _ _ _ fun j _=>by simp
  simp only[zdv,e,hq];simp;omega
 | n+1,q,b+1,hb,hq=>by
  have h:=zp4 n (fun j=>q (j+1)) b yie hq;have e:zdv (fun j=>(q (j+1)||j+1==b+1)) n=zdv (fun j=>(q (j+1)||j==b)) n:=zds _ _ _ fun j _=>by simp
  have e0:(q 0||0==b+1)=q 0:=yii;simp only[zdv,e,e0,h,Nat.pow_succ];omega
theorem yaf (p:Nat->Bool) (b:Int) (h0:0<=b) (h1:b<=255) (hp:p b.toNat=false):
 IntKind.u64.wrap (word p (b / 64).toNat+IntKind.u64.wrap (2 ^ (b % 64).toNat))=word (add1 p b.toNat) (b / 64).toNat:=by
 obtain⟨e,lt⟩:=zv2 b h0;have key:zbl (add1 p b.toNat) (b / 64).toNat=zbl p (b / 64).toNat+2 ^ (b % 64).toNat:=by
  have hx:64*(b / 64).toNat+(b % 64).toNat=b.toNat:=yie;have h:=zp4 64 (fun j=>p (64*(b / 64).toNat+j)) (b % 64).toNat yie (by rw[hx];exact hp);unfold zbl;rw[←h];apply zds;intro j hj;have:(64*(b / 64).toNat+j==b.toNat)=(j==(b % 64).toNat):=by
   rw[ygc];simp;omega
  simp[add1,this]
 have bd:=zcd (add1 p b.toNat) (b / 64).toNat;unfold word;rw[e,key];generalize 2 ^ (b % 64).toNat=m at *;rw[zdc (n:=(m:Int)) yie yie,zdc yie yie];omega
theorem zyv (p q:Nat->Bool) (i:Nat):bits .or .u64 (word p i) (word q i)=word (orP p q) i:=by
 unfold word;have e:zbl p i ||| zbl q i=zbl (orP p q) i:=by
  apply yga;intro j;rw[yhl,zau,zau,zau];cases decide (j<64) <;> simp[orP]
 rw[bits_or_u64_nat _ _ (zcd _ _) (zcd _ _),e]
end
section
def setV (p:Nat->Bool):Value := .agg #[.int .u64 (word p 0),.int .u64 (word p 1),.int .u64 (word p 2),.int .u64 (word p 3)]
theorem zfp {p q:Nat->Bool} (h:∀ x,x<256->p x=q x):setV p=setV q:=by
 unfold setV;rw[zc7 h (i:=0) yie,zc7 h (i:=1) yie,zc7 h (i:=2) yie,zc7 h (i:=3) yie]
def Box4 (w:World) (g:Nat) (p:Nat->Bool):Prop:=w.heap[g]?=some (.cells #[.int .u64 (word p 0),.int .u64 (word p 1),.int .u64 (word p 2),.int .u64 (word p 3)] 53 (0,0))
section
variable {w w':World} {g B:Nat} {p q:Nat->Bool}
theorem Box4.cell (h:Box4 w g p):
 w.cell? ⟨g,0,none⟩=some (.int .u64 (word p 0))∧w.cell? ⟨g,1,none⟩=some (.int .u64 (word p 1))∧w.cell? ⟨g,2,none⟩=some (.int .u64 (word p 2))∧w.cell? ⟨g,3,none⟩=some (.int .u64 (word p 3)):=by
 unfold Box4 at h;refine⟨?_,?_,?_,?_⟩ <;> exact cell_of_row w g _ _ 53 (0,0) h
theorem Box4.frozen (h:Box4 w g p):
 w.frozen? ⟨g,0,none⟩=false∧w.frozen? ⟨g,1,none⟩=false∧w.frozen? ⟨g,2,none⟩=false∧w.frozen? ⟨g,3,none⟩=false:=by
 unfold Box4 at h;refine⟨?_,?_,?_,?_⟩ <;> simp[World.frozen?,h]
theorem Box4.below (h:Box4 w g p) (hb:Below B w w') (hg:g<B):Box4 w' g p:=(hb.block g hg).trans h
theorem Box4.lt (h:Box4 w g p):g<w.heap.size:=za0 h
theorem Box4.stays (h:Box4 w g p) (hb:Below w.heap.size w w'):Box4 w' g p:=h.below hb h.lt
theorem Box4.alloc (h:Box4 w g p) (o:Obj):Box4 (w.alloc o) g p:=(yfo w o g h.lt).trans h
theorem Box4.grown {row:Option Nat} (h:Box4 w g p) (hb:w.grownBy w' row) (hg:some g≠row):Box4 w' g p:=(hb.block g h.lt hg).trans h
theorem Box4.far (h:Box4 w g p) {a:Addr} (ha:g≠a.block) (u:Value):Box4 (w.setCell a u) g p:=(yf9 w a u g ha).trans h
theorem Box4.new (w:World) (p:Nat->Bool):Box4 (w.alloc (.cells #[.int .u64 (word p 0),.int .u64 (word p 1),.int .u64 (word p 2),.int .u64 (word p 3)] 53)) w.heap.size p:=heap_alloc_new w _
theorem Box4.new0 (w:World):Box4 (w.alloc (.cells #[.int .u64 0,.int .u64 0,.int .u64 0,.int .u64 0] 53)) w.heap.size za9:=by
 have h:=Box4.new w za9
 simpa only [zak] using h
theorem Box4.congr (h:Box4 w g p) (hq:∀ x,x<256->p x=q x):Box4 w g q:=by
 unfold Box4 at h ⊢
 rwa [←zc7 hq (i:=0) yie,←zc7 hq (i:=1) yie,←zc7 hq (i:=2) yie,←zc7 hq (i:=3) yie]
def put4 (w:World) (g:Nat) (q:Nat->Bool):World:=
 (((w.setCell ⟨g,0,none⟩ (.int .u64 (word q 0))).setCell ⟨g,1,none⟩ (.int .u64 (word q 1))).setCell ⟨g,2,none⟩ (.int .u64 (word q 2))).setCell ⟨g,3,none⟩ (.int .u64 (word q 3))
theorem Box4.put (h:Box4 w g p) (q:Nat->Bool):Box4 (put4 w g q) g q:=by
 unfold Box4 put4 at *;simp[World.setCell,yg2,h]
theorem Box4.set1 (h:Box4 w g p) (i:Nat) (hi:i<4) (hq:∀ j,j≠i->word q j=word p j):Box4 (w.setCell ⟨g,i,none⟩ (.int .u64 (word q i))) g q:=by
 unfold Box4 at *
 match i,hi with
 | 0,_=>rw[hq 1 yie,hq 2 yie,hq 3 yie];simp[World.setCell,yg2,h]
 | 1,_=>rw[hq 0 yie,hq 2 yie,hq 3 yie];simp[World.setCell,yg2,h]
 | 2,_=>rw[hq 0 yie,hq 1 yie,hq 3 yie];simp[World.setCell,yg2,h]
 | 3,_=>rw[hq 0 yie,hq 1 yie,hq 2 yie];simp[World.setCell,yg2,h]
theorem Box4.drew (h:Box4 w g p):Box4 w.drew g p:=h
theorem Box4.putFar {g':Nat} (h:Box4 w g p) (hg:g≠g') (q:Nat->Bool):Box4 (put4 w g' q) g p:=
 (((h.far (a:=⟨g',0,none⟩) hg _).far (a:=⟨g',1,none⟩) hg _).far (a:=⟨g',2,none⟩) hg _).far (a:=⟨g',3,none⟩) hg _
theorem zc9 {a:World} (h:Below B a w) (hg:B<=g) (q:Nat->Bool):Below B a (put4 w g q):=
 (((h.setCell (p:=⟨g,0,none⟩) hg _).setCell (p:=⟨g,1,none⟩) hg _).setCell (p:=⟨g,2,none⟩) hg _).setCell (p:=⟨g,3,none⟩) hg _
end
end
section
theorem Tryd.infoInt:(Tryd.prog.info? 3).map (fun i=>(i.zero,i.size,i.bytes))=some (some (.int .i64 0),1,8):=by kernel_rfl
def Ints (w:World) (B:Nat) (v:Value) (l:List Int):Prop:=w.ownsRow B 3 1 v l.length (l.map (Value.int .i64))
section
variable {w w':World} {B:Nat} {v:Value} {l:List Int}
theorem Ints.nil (w:World) (B:Nat):Ints w B (.slice none 0 0) []:=yfx w B _ 1
theorem Ints.stays (h:Ints w B v l) (hb:Below w.heap.size w w'):Ints w' B v l:=za6 h hb
theorem Ints.alloc (h:Ints w B v l) (o:Obj):Ints (w.alloc o) B v l:=h.stays ((yf6 _ _).alloc (yez _) _)
theorem Ints.kept {row:Option Nat} (h:Ints w B v l) (hg:w.grownBy w' row) (hr:∀ g,v.ownBlock=some g->row≠some g):Ints w' B v l:=by
 refine World.ownsRow.kept h hg ?_;cases e:v.ownBlock with
 | none=>exact .inl rfl
 | some g=>exact .inr fun e'=>hr g e e'.symm
theorem Ints.form (h:Ints w B v l):∃ A c,v = .slice A l.length c:=by
 rcases h.2 with ⟨rfl,h0⟩|⟨g,cap,cur,rfl,_⟩
 .exact⟨none,0,by rw[h0]⟩
 .exact⟨_,_,rfl⟩
theorem Ints.at (h:Ints w B v l) (j:Nat) (hj:j<l.length):∃ g c,v = .slice (some ⟨g,0,none⟩) l.length c∧B<=g∧g<w.heap.size∧w.cell? ⟨g,j,none⟩=some (.int .i64 (l[j]'hj)):=by
 rcases h.2 with ⟨rfl,h0⟩|⟨g,cap,cur,rfl,hB,hg,_⟩
 .omega
 .refine⟨g,cap,rfl,hB,za0 hg,?_⟩;rw[yf7 h j yie];simp[hj]
end
end
section
structure Kept (Q:Nat->Prop) (w w':World):Prop where
 os:w'.os=w.os
 tape:w'.tape=w.tape
 output:w'.output=w.output
 size:w.heap.size<=w'.heap.size
 block:∀ b,b<w.heap.size->¬ Q b->w'.heap[b]?=w.heap[b]?
section
variable {Q Q':Nat->Prop} {w w' w'':World}
theorem Kept.refl (Q:Nat->Prop) (w:World):Kept Q w w:=⟨rfl,rfl,rfl,yez _,fun _ _ _=>rfl⟩
theorem Kept.trans (h:Kept Q w w') (k:Kept Q' w' w'') (hq:∀ b,Q' b->Q b∨w.heap.size<=b):Kept Q w w'':=
 ⟨k.os.trans h.os,k.tape.trans h.tape,k.output.trans h.output,yfa h.size k.size,fun b hb hn=>(k.block b (yff hb h.size) fun e=>(hq b e).elim hn (fun e=>by omega)).trans (h.block b hb hn)⟩
theorem Kept.mono (h:Kept Q w w') (hq:∀ b,Q b->Q' b∨w.heap.size<=b):Kept Q' w w':=⟨h.os,h.tape,h.output,h.size,fun b hb hn=>h.block b hb fun e=>(hq b e).elim hn (fun e=>by omega)⟩
theorem Kept.of_below (Q:Nat->Prop) (h:Below w.heap.size w w'):Kept Q w w':=⟨h.os,h.tape,h.output,h.size,fun b hb _=>h.block b hb⟩
theorem Kept.below {B:Nat} (h:Kept Q w w') (hB:B<=w.heap.size) (hq:∀ b,Q b->B<=b):Below B w w':=⟨h.os,h.tape,h.output,h.size,fun b hb=>h.block b yie fun e=>by have:=hq b e;omega⟩
theorem Kept.alloc (h:Kept Q w w') (o:Obj):Kept Q w (w'.alloc o):=⟨h.os,h.tape,h.output,by have:=h.size;simp;omega,fun b hb hn=>by rw[yfo _ _ _ (yff hb h.size)];exact h.block b hb hn⟩
theorem Kept.drew (h:Kept Q w w'):Kept Q w w'.drew:=⟨h.os,h.tape,h.output,h.size,h.block⟩
theorem Kept.grown {row:Option Nat} (h:Kept Q w w') (hg:w'.grownBy w'' row) (hr:∀ b,row=some b->Q b∨w.heap.size<=b):Kept Q w w'':=
 ⟨hg.os.trans h.os,hg.tape.trans h.tape,hg.output.trans h.output,yfa h.size hg.size,fun b hb hn=>(hg.block b (yff hb h.size) fun e=>(hr b e.symm).elim hn (fun e=>by omega)).trans (h.block b hb hn)⟩
theorem Kept.setCell (h:Kept Q w w') {a:Addr} (ha:Q a.block∨w.heap.size<=a.block) (u:Value):Kept Q w (w'.setCell a u):=
 ⟨h.os,h.tape,h.output,by have:=h.size;simpa [World.setCell] using this,fun b hb hn=>(yf9 _ _ _ _ (by intro e;subst e;exact ha.elim hn (fun e'=>by omega))).trans (h.block b hb hn)⟩
theorem Kept.cell {a:Addr} {v:Value} (h:Kept Q w w') (hc:w.cell? a=some v) (hn:¬ Q a.block):w'.cell? a=some v:=
 (yfp (w:=w) (h.block a.block (ygk w a hc) hn)).trans hc
end
theorem za8 {w w':World} {B e size n:Nat} {v:Value} {xs:List Value} (h:w.ownsRow B e size v n xs) (hb:∀ b,v.ownBlock=some b->b<w.heap.size->w'.heap[b]?=w.heap[b]?):w'.ownsRow B e size v n xs:=by
 refine⟨h.1,?_⟩;rcases h.2 with h0|⟨g,cap,cur,rfl,hB,hh,r⟩
 .exact Or.inl h0
 .exact Or.inr ⟨g,cap,cur,rfl,hB,(hb g rfl (za0 hh)).trans hh,r⟩
theorem zvb {w:World} {B B' e size n:Nat} {v:Value} {xs:List Value} (h:w.ownsRow B e size v n xs) (hb:∀ b,v.ownBlock=some b->B'<=b):w.ownsRow B' e size v n xs:=by
 refine⟨h.1,?_⟩;rcases h.2 with h0|⟨g,cap,cur,rfl,hB,r⟩
 .exact Or.inl h0
 .exact Or.inr ⟨g,cap,cur,rfl,hb g rfl,r⟩
theorem za7 {w:World} {B e size n:Nat} {v:Value} {xs:List Value} (h:w.ownsRow B e size v n xs) {b:Nat} (hb:v.ownBlock=some b):∃ cur,w.heap[b]?=some (.cells cur e (0,0)):=by
 rcases h.2 with ⟨rfl,_⟩|⟨g,cap,cur,rfl,hB,hh,r⟩
 .cases hb
 .cases hb;exact⟨cur,hh⟩
theorem za1 {w:World} {b c:Nat} {cur cur':Array Value} {ty ty':TypeId} (h:w.heap[b]?=some (.cells cur ty (0,0))) (h':w.heap[c]?=some (.cells cur' ty' (0,0))) (hne:ty≠ty'):b≠c:=by
 intro e;subst e;rw[h] at h';injection h' with h'
 injection h' with _ e _
 exact hne e
end
section
section
variable {w w':World} {B C:Nat} {v u:Value} {l m:List Int}
theorem Ints.form3 (h:Ints w B v l):∃ A n c,v = .slice A n c:=by obtain⟨A,c,e⟩:=h.form;exact⟨A,_,c,e⟩
theorem Ints.block (h:Ints w B v l) (hb:∀ b,v.ownBlock=some b->b<w.heap.size->w'.heap[b]?=w.heap[b]?):Ints w' B v l:=za8 h hb
theorem Ints.off {Q:Nat->Prop} (h:Ints w B v l) (hk:Kept Q w w') (hq:∀ b,v.ownBlock=some b->¬ Q b):Ints w' B v l:=h.block fun b e hb=>hk.block b hb (hq b e)
theorem Ints.low (h:Ints w B v l) (hC:C<=B):Ints w C v l:=zbh h hC
theorem Ints.high (h:Ints w B v l) (hb:∀ b,v.ownBlock=some b->C<=b):Ints w C v l:=zvb h hb
theorem Ints.in (h:Ints w B v l) {b:Nat} (hb:v.ownBlock=some b):B<=b∧b<w.heap.size:=yf5 h b hb
theorem Ints.kind (h:Ints w B v l) {b:Nat} (hb:v.ownBlock=some b):∃ cur,w.heap[b]?=some (.cells cur 3 (0,0)):=za7 h hb
theorem Ints.news (h:Ints w B v l):∃ A c,v = .slice A l.length c∧(A=none->l.length=0)∧∀ ad,A=some ad->∀ j u,(l.map (Value.int .i64))[j]?=some u->w.cell? (ad.add j)=some u:=by
 rcases h.2 with ⟨rfl,h0⟩|⟨g,cap,cur,rfl,hB,hg,_⟩
 .exact⟨none,0,by rw[h0],fun _=>h0,fun ad e=>by cases e⟩
 .refine⟨_,cap,rfl,(fun e=>by cases e),fun ad e j u hu=>?_⟩;injection e with e
  subst e;exact World.ownsRow.cells h rfl j u hu
theorem zrs (l:List Int):∀ u∈l.map (Value.int .i64),u.oneCell'=true:=by
 intro u hu;simp only[yg6] at hu;obtain⟨x,_,rfl⟩:=hu;rfl
theorem zyg (ty:TypeId) (h:Ints w B v l) (hu:Ints w C u m) (hl:l.length+m.length<=100000) (hB:B<=w.heap.size):
 ∃ v' w',(Builtin.append_ #[68,68] ty #[v,u]).run Tryd.prog w = .ok v' w'∧Ints w' B v' (l++m)∧w.grownBy w' v.ownBlock∧(v'.ownBlock=v.ownBlock∨v'.ownBlock=some w.heap.size):=by
 obtain⟨i0,hi,hz0,hz1,hz2⟩:=info_parts Tryd.infoInt;obtain⟨A,c,rfl,hn,hc⟩:=hu.news;unfold Ints at h ⊢;rw[yfd,yfu];cases A with
 | none =>
  have hm:=hn rfl;have hm':m=[]:=yhr hm;subst hm';refine⟨v,w,?_,by simpa using h,⟨rfl,rfl,rfl,yez _,fun _ _ _=>rfl⟩,.inl rfl⟩;rcases h.2 with ⟨rfl,h0⟩|⟨g,cap,cur,rfl,_,_,hnc,_⟩
  .simp[Builtin.append_,run_underlying Tryd.underlying68,sizeOf,typeInfo,hi,Builtin.lenOf,Builtin.firstCells]
  .simp[Builtin.append_,run_underlying Tryd.underlying68,sizeOf,typeInfo,hi,Builtin.lenOf,Builtin.firstCells,hnc,storeCells]
 | some ad =>
  obtain⟨v',w',hr,h2,h3,_,h5⟩:=run_append_own_at (P:=Tryd.prog) w B 68 ty 3 i0 (.int .i64 0) 1 8 Tryd.underlying68 hi hz0 hz1 hz2 rfl yij v l.length _ h ad m.length c (m.map (Value.int .i64)) yii (hc ad rfl) (zrs m) yin yie hB;exact⟨v',w',hr,h2,h3,h5⟩
variable {o:Oper} {a:Act}
theorem zub {K:Act->World->Prop} {Q:Exit->Act->World->Prop} (s x:Operand) (ho:o.op = .call {callee := .builtin .append,args:=#[s,x],argTypes:=#[68,68]})
 (hs:a.eval s=v) (hx:a.eval x=u) (h:Ints w B v l) (hu:Ints w C u m) (hl:l.length+m.length<=100000) (hB:B<=w.heap.size)
 (hK:∀ v' w',Ints w' B v' (l++m)->w.grownBy w' v.ownBlock->(v'.ownBlock=v.ownBlock∨v'.ownBlock=some w.heap.size)->K (a.put o.dst v') w'):o.wp Tryd.prog a w K Q:=by
 obtain⟨v',w',hr,h2,h3,h4⟩:=zyg o.type h hu hl hB;unfold Oper.wp execOp;simp only[ho,resolve,invoke,builtin,Sem.run_bind,Sem.run_pure,Result.andThen_ok,ygz,ygo,yh0,hs,hx,hr];exact hK v' w' h2 h3 h4
theorem zbc {ops:Array Oper} {rest:List Oper} {Q:Exit->Act->World->Prop} (hgd:o.guard=none) (s x:Operand) (ho:o.op = .call {callee := .builtin .append,args:=#[s,x],argTypes:=#[68,68]})
 (hs:a.eval s=v) (hx:a.eval x=u) (h:Ints w B v l) (hu:Ints w C u m) (hl:l.length+m.length<=100000) (hB:B<=w.heap.size)
 (hK:∀ v' w',Ints w' B v' (l++m)->w.grownBy w' v.ownBlock->(v'.ownBlock=v.ownBlock∨v'.ownBlock=some w.heap.size)->wpList Tryd.prog ops Q rest (a.put o.dst v') w'):wpList Tryd.prog ops Q (o::rest) a w:=
 wpList_plain hgd fun _ hK'=>zub s x ho hs hx h hu hl hB fun v' w' h2 h3 h4=>hK' _ _ (hK v' w' h2 h3 h4)
theorem zax {ops:Array Oper} {K:Act->World->Prop} {Q:Exit->Act->World->Prop} {E:Prop} (hgd:o.guard=none) (s x:Operand) (ho:o.op = .call {callee := .builtin .append,args:=#[s,x],argTypes:=#[68,68]})
 (hs:a.eval s=v) (hx:a.eval x=u) (h:Ints w B v l) (hu:Ints w C u m) (hl:l.length+m.length<=100000) (hB:B<=w.heap.size)
 (hK:∀ v' w',Ints w' B v' (l++m)->w.grownBy w' v.ownBlock->(v'.ownBlock=v.ownBlock∨v'.ownBlock=some w.heap.size)->K (a.put o.dst v') w'):if Region.wanted o (yielded ops a.tmps)=true then Oper.wp Tryd.prog o a w K Q else E:=by
 have hw:Region.wanted o (yielded ops a.tmps)=true:=(by simp[Region.wanted,hgd]);rw[if_pos hw];exact zub s x ho hs hx h hu hl hB hK
end
end
def ns (l:List Nat):List Int:=l.map Int.ofNat
theorem zaj (l:List Nat):(ns l).length=l.length:=by simp[ns]
theorem zja (l m:List Nat):ns (l++m)=ns l++ns m:=by simp[ns]
structure FolAt (w:World) (B:Nat) (fs:List Value) (ls:List (List Nat)) (Q:Nat->Prop):Prop where
 len:fs.length=ls.length
 get:∀ (i:Nat) v l,fs[i]?=some v->ls[i]?=some l->Ints w B v (ns l)
 inQ:∀ (i:Nat) v b,fs[i]?=some v->v.ownBlock=some b->Q b
 apart:∀ (i j:Nat) v v' b,fs[i]?=some v->fs[j]?=some v'->v.ownBlock=some b->v'.ownBlock=some b->i=j
def zcj (l:List (Nat->Bool)):List Value:=l.flatMap fun p=>[.int .u64 (word p 0),.int .u64 (word p 1),.int .u64 (word p 2),.int .u64 (word p 3)]
theorem zus (l:List (Nat->Bool)):(zcj l).length=l.length*4:=by
 induction l with
 | nil=>rfl
 | cons p l ih=>simp only[zcj,List.flatMap_cons,yfd,yg7,yh5] at ih ⊢;omega
theorem zsz (l:List (Nat->Bool)) (q:Nat->Bool):zcj l++[.int .u64 (word q 0),.int .u64 (word q 1),.int .u64 (word q 2),.int .u64 (word q 3)]=zcj (l++[q]):=by simp[zcj]
theorem zf4:∀ (l:List (Nat->Bool)) (k q:Nat) (hk:k<l.length),q<4->(zcj l)[k*4+q]?=some (.int .u64 (word (l[k]'hk) q))
 | [],k,q,hk,_=>by simp at hk
 | p::l,0,q,_,hq=>by
  match q,hq with
  | 0,_=>rfl
  | 1,_=>rfl
  | 2,_=>rfl
  | 3,_=>rfl
 | p::l,k+1,q,hk,hq=>by
  have ih:=zf4 l k q (by simpa using hk) hq;have e:(k+1)*4+q=4+(k*4+q):=yie;rw[e]
  show ([.int .u64 (word p 0),.int .u64 (word p 1),.int .u64 (word p 2),.int .u64 (word p 3)]++zcj l)[4+(k*4+q)]?=_
  rw[yfc yii]
  simpa using ih
section
structure Plc where
 set:Nat->Bool
 fol:List Nat
 base:Nat
 last:Bool
 luhn:Bool
structure RSt where
 places:List Plc
 first:List Nat
 lam:Nat
def plcC (p:Plc) (v:Value):List Value:=[.int .u64 (word p.set 0),.int .u64 (word p.set 1),.int .u64 (word p.set 2),.int .u64 (word p.set 3),v,.int .i64 p.base,.bool p.last,.bool p.luhn]
theorem zin (p:Plc) (v:Value):(plcC p v).length=8:=rfl
def zj5:List Plc->List Value->List Value
 | p::ps,v::vs=>plcC p v++zj5 ps vs
 | _,_=>[]
theorem zo5:∀ (ps:List Plc) (vs:List Value) (p:Plc) (v:Value),vs.length=ps.length->zj5 (ps++[p]) (vs++[v])=zj5 ps vs++plcC p v
 | [],[],p,v,_=>by simp[zj5]
 | q::ps,u::vs,p,v,h=>by simp only[ygg,zj5];rw[zo5 ps vs p v yit,yfl]
 | [],_::_,p,v,h=>by simp at h
 | _::_,[],p,v,h=>by simp at h
theorem zo4:∀ (ps:List Plc) (vs:List Value) (i q:Nat) (p:Plc) (v:Value),ps[i]?=some p->vs[i]?=some v->q<8->(zj5 ps vs)[i*8+q]?=(plcC p v)[q]?
 | [],vs,i,q,p,v,h1,h2,hq=>by simp at h1
 | p'::ps,[],i,q,p,v,h1,h2,hq=>by simp at h2
 | p'::ps,v'::vs,0,q,p,v,h1,h2,hq=>by
  simp at h1 h2;subst h1 h2;rw[zj5,yfb (by rw[zin];omega)];simp
 | p'::ps,v'::vs,i+1,q,p,v,h1,h2,hq=>by
  rw[zj5,yfc (by rw[zin];omega),zin,show (i+1)*8+q-8=i*8+q by omega];exact zo4 ps vs i q p v yjc yjd hq
def RulesIn (w:World) (gr:Nat) (R:RSt):Prop:=
 ∃ vp vs v1,HasO w gr (.cells #[vp,v1,.int .i64 R.lam] 77 (0,0))∧vs.length=R.places.length∧w.ownsRow 0 117 8 vp R.places.length (zj5 R.places vs)∧
  (∀ (i:Nat) v p,vs[i]?=some v->R.places[i]?=some p->Ints w 0 v (ns p.fol))∧Ints w 0 v1 (ns R.first)
section
variable {w w':World} {gr:Nat} {R:RSt} {Q:Nat->Prop}
theorem RulesIn.kept (h:RulesIn w gr R) (hk:Kept Q w w') (hq:∀ b,Q b->b<w.heap.size->∃ cur ty,w.heap[b]?=some (.cells cur ty (0,0))∧ty≠77∧ty≠117∧ty≠3):RulesIn w' gr R:=by
 obtain⟨vp,vs,v1,h1,h2,h3,h4,h5⟩:=h;have key:∀ (b:Nat) (cur:Array Value) (ty:TypeId),w.heap[b]?=some (.cells cur ty (0,0))->(ty=77∨ty=117∨ty=3)->w'.heap[b]?=w.heap[b]?:=fun b cur ty hb ht=>by
  refine hk.block b (za0 hb) fun q=>?_
  obtain⟨cur',ty',hb',n1,n2,n3⟩:=hq b q (za0 hb);have hne:ty'≠ty:=fun e=>by
   rcases ht with h|h|h
   .exact n1 (e.trans h)
   .exact n2 (e.trans h)
   .exact n3 (e.trans h)
  exact za1 hb' hb hne rfl
 refine⟨vp,vs,v1,(key gr _ _ h1 (.inl rfl)).trans h1,h2,za8 h3 fun b e hb=>?_,fun i v p e1 e2=>(h4 i v p e1 e2).block fun b e hb=>?_,h5.block fun b e hb=>?_⟩
 .obtain⟨cur,hc⟩:=za7 h3 e;exact key b cur _ hc (.inr (.inl rfl))
 .obtain⟨cur,hc⟩:=(h4 i v p e1 e2).kind e;exact key b cur _ hc (.inr (.inr rfl))
 .obtain⟨cur,hc⟩:=h5.kind e;exact key b cur _ hc (.inr (.inr rfl))
theorem RulesIn.stays (h:RulesIn w gr R) (hb:Below w.heap.size w w'):RulesIn w' gr R:=h.kept (Kept.of_below (fun _=>False) hb) fun b q=>q.elim
theorem RulesIn.at (h:RulesIn w gr R) {i:Nat} {p:Plc} (hi:R.places[i]?=some p):∃ gp cp v,w.cell? ⟨gr,0,none⟩=some (.slice (some ⟨gp,0,none⟩) R.places.length cp)∧(∀ q u,(plcC p v)[q]?=some u->w.cell? ⟨gp,i*8+q,none⟩=some u)∧Ints w 0 v (ns p.fol)∧gp<w.heap.size∧∃ cur,w.heap[gp]?=some (.cells cur 117 (0,0)):=by
 obtain⟨vp,vs,v1,h1,h2,h3,h4,h5⟩:=h;have hl:i<R.places.length:=(yf4.1 hi).1;obtain⟨v,hv⟩:∃ v,vs[i]?=some v:=⟨_,yey yie⟩;rcases h3.2 with ⟨_,h0⟩|⟨gp,cp,cur,rfl,hB,hg,_⟩
 .omega
 refine⟨gp,cp,v,cell_of_row w gr 0 _ _ (0,0) h1,fun q u hu=>?_,h4 i v p hv hi,za0 hg,cur,hg⟩;have hq:q<8:=by
  have:=(yf4.1 hu).1;rw[zin] at this;exact this
 rw[yf7 h3 (i*8+q) yie,zo4 R.places vs i q p v hi hv hq];exact hu
end
def wdsC (l:List (Nat×Nat)):List Value:=l.flatMap fun x=>[.int .i64 x.1,.int .u64 x.2]
theorem zqn (l:List (Nat×Nat)):(wdsC l).length=l.length*2:=by
 induction l with
 | nil=>rfl
 | cons p l ih=>simp only[wdsC,List.flatMap_cons,yfd,yg7,yh5] at ih ⊢;omega
theorem zuf (l:List (Nat×Nat)) (x:Nat×Nat):wdsC l++[.int .i64 x.1,.int .u64 x.2]=wdsC (l++[x]):=by simp[wdsC]
theorem zqo:∀ (l:List (Nat×Nat)) (i:Nat) (x:Nat×Nat),l[i]?=some x->(wdsC l)[i*2]?=some (.int .i64 x.1)∧(wdsC l)[i*2+1]?=some (.int .u64 x.2)
 | [],i,x,h=>by simp at h
 | y::l,0,x,h=>by
  simp at h;subst h;exact⟨rfl,rfl⟩
 | y::l,i+1,x,h=>by
  have ih:=zqo l i x yit;have e:wdsC (y::l) = .int .i64 y.1 :: .int .u64 y.2::wdsC l:=rfl;rw[e,show (i+1)*2=i*2+1+1 by omega]
  simpa using ih
def Wds (w:World) (B:Nat) (v:Value) (l:List (Nat×Nat)):Prop:=w.ownsRow B 124 2 v l.length (wdsC l)
section
variable {w w':World} {B:Nat} {v:Value} {l:List (Nat×Nat)}
theorem Wds.form (h:Wds w B v l):∃ A c,v = .slice A l.length c:=by
 rcases h.2 with ⟨rfl,h0⟩|⟨g,cap,cur,rfl,_⟩
 .exact⟨none,0,by rw[h0]⟩
 .exact⟨_,_,rfl⟩
theorem Wds.block (h:Wds w B v l) (hb:∀ b,v.ownBlock=some b->b<w.heap.size->w'.heap[b]?=w.heap[b]?):Wds w' B v l:=za8 h hb
theorem Wds.off {Q:Nat->Prop} (h:Wds w B v l) (hk:Kept Q w w') (hq:∀ b,v.ownBlock=some b->¬ Q b):Wds w' B v l:=h.block fun b e hb=>hk.block b hb (hq b e)
theorem Wds.stays (h:Wds w B v l) (hb:Below w.heap.size w w'):Wds w' B v l:=za6 h hb
theorem Wds.in (h:Wds w B v l) {b:Nat} (hb:v.ownBlock=some b):B<=b∧b<w.heap.size:=yf5 h b hb
theorem Wds.kind (h:Wds w B v l) {b:Nat} (hb:v.ownBlock=some b):∃ cur,w.heap[b]?=some (.cells cur 124 (0,0)):=za7 h hb
theorem Wds.at (h:Wds w B v l) {i:Nat} {x:Nat×Nat} (hi:l[i]?=some x):∃ g c,v = .slice (some ⟨g,0,none⟩) l.length c∧B<=g∧g<w.heap.size∧w.cell? ⟨g,i*2,none⟩=some (.int .i64 x.1)∧w.cell? ⟨g,i*2+1,none⟩=some (.int .u64 x.2):=by
 have hl:i<l.length:=(yf4.1 hi).1;rcases h.2 with ⟨_,h0⟩|⟨g,cap,cur,rfl,hB,hg,_⟩
 .omega
 have hx:=zqo l i x hi;exact⟨g,cap,rfl,hB,za0 hg,by rw[yf7 h (i*2) yie];exact hx.1,by rw[yf7 h (i*2+1) yie];exact hx.2⟩
end
end
def cntN (q:Nat->Bool):Nat->Nat
 | 0=>0
 | n+1=>(q 0).toNat+cntN (fun j=>q (j+1)) n
def msk (c:Nat):Nat->Nat
 | 0=>0
 | n+1=>c+256*msk c n
def sumA (n x:Nat):Nat:=(x / 2 &&& msk 85 n)+(x &&& msk 85 n)
def sumB (n x:Nat):Nat:=(x / 4 &&& msk 51 n)+(x &&& msk 51 n)
def sumC (n x:Nat):Nat:=(x / 16+x) &&& msk 15 n
def a8 (b:Nat):Nat:=(b / 2 &&& 85)+(b &&& 85)
def b8 (b:Nat):Nat:=(b / 4 &&& 51)+(b &&& 51)
def c8 (b:Nat):Nat:=(b / 16+b) &&& 15
theorem zx3:∀ (n:Nat) (q:Nat->Bool),cntN q n<=n
 | 0,_=>by simp[cntN]
 | n+1,q=>by
  have h:=zx3 n (fun j=>q (j+1));have:(q 0).toNat<=1:=by cases q 0 <;> simp
  rw[cntN];omega
theorem zlg:∀ (n:Nat) (q r:Nat->Bool),(∀ j,j<n->q j=r j)->cntN q n=cntN r n
 | 0,_,_,_=>rfl
 | n+1,q,r,h=>by rw[cntN,cntN,h 0 yie,zlg n _ _ fun j hj=>h (j+1) yie]
theorem zs7:∀ (m n:Nat) (q:Nat->Bool),cntN q (m+n)=cntN q m+cntN (fun j=>q (m+j)) n
 | 0,n,q=>by simp[cntN]
 | m+1,n,q=>by
  have e:cntN (fun j=>q (m+j+1)) n=cntN (fun j=>q (m+1+j)) n:=zlg _ _ _ fun j _=>by congr 1;omega
  rw[show m+1+n=(m+n)+1 by omega,cntN,cntN,zs7 m n,e];omega
def st1 (a:Int):Int:=IntKind.u64.wrap (bits .and .u64 (a / 2) 6148914691236517205+bits .and .u64 a 6148914691236517205)
def st2 (a:Int):Int:=IntKind.u64.wrap (bits .and .u64 (a / 4) 3689348814741910323+bits .and .u64 a 3689348814741910323)
def st3 (a:Int):Int:=bits .and .u64 (IntKind.u64.wrap (a / 16+a)) 1085102592571150095
def st4 (a:Int):Int:=IntKind.u64.wrap (a+a / 256)
def st5 (a:Int):Int:=IntKind.u64.wrap (a+a / 65536)
def st6 (a:Int):Int:=IntKind.u64.wrap (a+a / 4294967296)
def st7 (a:Int):Int:=bits .and .i64 (wrap64 a) 127
theorem zql (p:Nat->Bool) (b:Int) (h0:0<=b) (h1:b<=255):
 [Value.int .u64 (word p 0),.int .u64 (word p 1),.int .u64 (word p 2),.int .u64 (word p 3)][(b / 64).toNat]?=some (.int .u64 (word p (b / 64).toNat)):=by
 have:(b / 64).toNat<4:=by omega
 match h:(b / 64).toNat,this with
 | 0,_=>rfl
 | 1,_=>rfl
 | 2,_=>rfl
 | 3,_=>rfl
theorem zyz (xs:List Int) (k:Nat) (hk:k<xs.length) (h0:0<=xs.getD k 0) (x:Nat):add1 (memP (xs.take k)) (xs.getD k 0).toNat x=memP (xs.take (k+1)) x:=by
 unfold add1 memP;rw[yfg hk,List.any_append];rw[yf0,yey hk] at *;simp only[List.any_cons,List.any_nil,Bool.or_false,yi5] at *
 congr 1
 rw[ygc];simp;omega
def ze8 (p:Nat->Bool) (k:Nat):List Int:=((List.range k).filter p).map fun x:Nat=>(x:Int)
theorem zjl (p:Nat->Bool) (k:Nat) (h:p k=true):ze8 p (k+1)=ze8 p k++[(k:Int)]:=by
 unfold ze8;rw[ygh,yh7,yfu];simp[h]
theorem zhz (p:Nat->Bool) (k:Nat) (h:p k=false):ze8 p (k+1)=ze8 p k:=by
 unfold ze8;rw[ygh,yh7,yfu];simp[h]
theorem zjk:∀ (p:Nat->Bool) (k:Nat),(ze8 p k).length=cntN p k
 | p,0=>rfl
 | p,k+1=>by
  rw[zs7 k 1];cases h:p k
  .rw[zhz p k h,zjk p k];simp[cntN,h]
  .rw[zjl p k h,yfd,zjk p k];simp[cntN,h]
theorem zgy (p:Nat->Bool) (k:Nat):(ze8 p k).length<=k:=by rw[zjk];exact zx3 _ _
theorem zfa (p:Nat->Bool) (k:Nat) (v:Int):v∈ze8 p k↔0<=v∧v<k∧p v.toNat=true:=by
 unfold ze8;simp only[yg6,List.mem_filter,yfz];constructor
 .rintro⟨x,⟨h1,h2⟩,rfl⟩;exact⟨by omega,by omega,by simpa using h2⟩
 .rintro⟨h0,h1,h2⟩;exact⟨v.toNat,⟨by omega,h2⟩,by omega⟩
theorem zw6 (p:Nat->Bool) (k:Nat) (hk:k<=256):∀ j,j<(ze8 p k).length->0<=(ze8 p k).getD j 0∧(ze8 p k).getD j 0<=255:=by
 intro j hj;have:(ze8 p k).getD j 0∈ze8 p k:=by
  rw[yf0,yey hj];exact yfq hj
 have:=(zfa p k _).1 this;omega
theorem zvv (p:Nat->Bool) (k x:Nat) (hx:x<k):memP (ze8 p k) x=p x:=by
 unfold memP;rw[ygc,yi6];constructor
 .rintro⟨v,hv,e⟩;have:=(zfa p k v).1 hv;have e':v=(x:Int):=(by simpa using e);subst e'
  simpa using this.2.2
 .intro h;exact⟨(x:Int),(zfa p k _).2 ⟨by omega,by omega,by simpa using h⟩,by simp⟩
def allP (p:Nat->Bool):List Int:=ze8 p 256
theorem yae (p:Nat->Bool):∀ j,j<(allP p).length->0<=(allP p).getD j 0∧(allP p).getD j 0<=255:=zw6 p 256 yie
theorem ycu (p:Nat->Bool):(allP p).length<=9223372036854775807:=by have:=zgy p 256;unfold allP;omega
theorem zml (p:Nat->Bool) (x:Nat) (hx:x<256):memP (allP p) x=p x:=zvv p 256 x hx
theorem Tryd.infoByte:(Tryd.prog.info? 5).map (fun i=>(i.zero,i.size,i.bytes))=some (some (.int .u8 0),1,1):=by kernel_rfl
theorem zv0 (w:World) (v:Int):RdB (w.alloc (.cells #[.int .u8 v] 5)) (w.alloc (.cells #[.int .u8 v] 5)).heap.size (some ⟨w.heap.size,0,none⟩) [v]:=by
 intro k hk;have:k=0:=by simp at hk;omega
 subst this;exact⟨w.heap.size,0,rfl,by simp,by simp⟩
section
open Go
def bt (s:ByteArray) (k:Nat):Nat:=(s.data.toList.getD k 0).toNat
theorem yct (s:ByteArray) (k:Nat) (h:k<s.size):bt s k=(s[k]'h).toNat:=by
 unfold bt;rw[yf0,yey yit];rfl
theorem ye5 (s:ByteArray) (k:Nat):bt s k<256:=by unfold bt;exact UInt8.toNat_lt _
end
section
structure St where
 pos:Nat
 opn:Int
 bad:Int
 spot:Int
namespace St
def fail (st:St) (at_ bad:Int):St:=if st.bad=0 then {st with bad:=bad,spot:=at_} else st
def peek (s:ByteArray) (st:St):Int:=if st.bad≠0∨s.size<=st.pos then -1 else (bt s st.pos:Int)
def step (st:St) (k:Nat):St:={st with pos:=st.pos+k}
def next (s:ByteArray) (st:St):Int×St:=if st.peek s<0 then (-1,st.fail s.size 2) else (st.peek s,st.step 1)
end St
def Rdr (w:World) (g:Nat) (s:ByteArray) (st:St):Prop:=
 w.heap[g]?=some (.cells #[.string s,.int .i64 (st.pos:Int),.int .i64 st.opn,.int .i64 st.bad,.int .i64 st.spot] 146 (0,0))
section
variable {w w':World} {g:Nat} {s:ByteArray} {st:St}
theorem Rdr.cell (h:Rdr w g s st):w.cell? ⟨g,0,none⟩=some (.string s)∧w.cell? ⟨g,1,none⟩=some (.int .i64 (st.pos:Int))∧w.cell? ⟨g,2,none⟩=some (.int .i64 st.opn)∧w.cell? ⟨g,3,none⟩=some (.int .i64 st.bad)∧w.cell? ⟨g,4,none⟩=some (.int .i64 st.spot):=by
 unfold Rdr at h;refine⟨?_,?_,?_,?_,?_⟩ <;> exact cell_of_row w g _ _ 146 (0,0) h
theorem Rdr.frozen (h:Rdr w g s st):w.frozen? ⟨g,0,none⟩=false∧w.frozen? ⟨g,1,none⟩=false∧w.frozen? ⟨g,2,none⟩=false∧w.frozen? ⟨g,3,none⟩=false∧w.frozen? ⟨g,4,none⟩=false:=by
 unfold Rdr at h;refine⟨?_,?_,?_,?_,?_⟩ <;> simp[World.frozen?,h]
theorem Rdr.lt (h:Rdr w g s st):g<w.heap.size:=za0 h
theorem Rdr.drew (h:Rdr w g s st):Rdr w.drew g s st:=h
theorem Rdr.drewN (h:Rdr w g s st) (n:Nat):Rdr (w.drewN n) g s st:=h
end
section
variable {w w':World} {g:Nat} {s:ByteArray} {st:St}
theorem Rdr.setPos (h:Rdr w g s st) (k:Nat):Rdr (w.setCell ⟨g,1,none⟩ (.int .i64 (k:Int))) g s {st with pos:=k}:=by
 unfold Rdr at *;simp[World.setCell,yg2,h]
theorem Rdr.setOpn (h:Rdr w g s st) (k:Int):Rdr (w.setCell ⟨g,2,none⟩ (.int .i64 k)) g s {st with opn:=k}:=by
 unfold Rdr at *;simp[World.setCell,yg2,h]
theorem Rdr.setBad (h:Rdr w g s st) (k:Int):Rdr (w.setCell ⟨g,3,none⟩ (.int .i64 k)) g s {st with bad:=k}:=by
 unfold Rdr at *;simp[World.setCell,yg2,h]
theorem Rdr.setSpot (h:Rdr w g s st) (k:Int):Rdr (w.setCell ⟨g,4,none⟩ (.int .i64 k)) g s {st with spot:=k}:=by
 unfold Rdr at *;simp[World.setCell,yg2,h]
theorem Rdr.stays (h:Rdr w g s st) (hb:Below w.heap.size w w'):Rdr w' g s st:=(hb.block g h.lt).trans h
theorem Rdr.put4 (h:Rdr w g s st) {g':Nat} (hg:g≠g') (q:Nat->Bool):Rdr (put4 w g' q) g s st:=by
 unfold Rdr Go.Proofs.YtipfgpfplakhiaaDoor.put4 at *;rw[yf9 _ _ _ _ hg,yf9 _ _ _ _ hg,yf9 _ _ _ _ hg,yf9 _ _ _ _ hg];exact h
theorem Rdr.far4 (h:Rdr w g s st) {g':Nat} (hg:g≠g') (v0 v1 v2 v3:Value):Rdr ((((w.setCell ⟨g',0,none⟩ v0).setCell ⟨g',1,none⟩ v1).setCell ⟨g',2,none⟩ v2).setCell ⟨g',3,none⟩ v3) g s st:=by
 unfold Rdr at *;rw[yf9 _ _ _ _ hg,yf9 _ _ _ _ hg,yf9 _ _ _ _ hg,yf9 _ _ _ _ hg];exact h
theorem Rdr.alloc (h:Rdr w g s st) (o:Obj):Rdr (w.alloc o) g s st:=(yfo w o g h.lt).trans h
end
theorem zbo (w:World) (r:Option Nat):w.grownBy w r:=⟨rfl,rfl,rfl,yez _,fun _ _ _=>rfl⟩
theorem zal {a b c:World} {r:Option Nat} (h:a.grownBy b r) (k:b.grownBy c r):a.grownBy c r:=
 ⟨k.os.trans h.os,k.tape.trans h.tape,k.output.trans h.output,yfa h.size k.size,fun i hi hr=>(k.block i (yff hi h.size) hr).trans (h.block i hi hr)⟩
theorem zce {a b:World} {g i:Nat} (h:a.grownBy b (some g)) (v:Value):a.grownBy (b.setCell ⟨g,i,none⟩ v) (some g):=
 zal h ⟨rfl,rfl,rfl,by simp[World.setCell],fun k _ hk=>yf9 _ _ _ _ (by intro e;subst e;exact hk rfl)⟩
theorem zdm {a b:World} {r:Option Nat} (h:a.grownBy b r):a.grownBy b.drew r:=⟨h.os,h.tape,h.output,h.size,h.block⟩
theorem zap {a b:World} {r:Option Nat} (h:a.grownBy b r) (n:Nat):a.grownBy (b.drewN n) r:=⟨h.os,h.tape,h.output,h.size,h.block⟩
theorem zb5 {a b:World} {r:Option Nat} (h:a.grownBy b r) (o:Obj):a.grownBy (b.alloc o) r:=
 zal h ⟨rfl,rfl,rfl,by simp,fun k hk _=>yfo _ _ _ hk⟩
theorem zay {a b c:World} {r:Option Nat} (h:a.grownBy b r) (k:Below b.heap.size b c):a.grownBy c r:=
 zal h ⟨k.os,k.tape,k.output,k.size,fun i hi _=>k.block i hi⟩
theorem zab {a b:World} {g g' i:Nat} (h:a.grownBy b (some g)) (hg:a.heap.size<=g') (v:Value):a.grownBy (b.setCell ⟨g',i,none⟩ v) (some g):=
 ⟨h.os,h.tape,h.output,by simpa [World.setCell] using h.size,fun k hk hr=>(yf9 _ _ _ _ (by show k≠g';omega)).trans (h.block k hk hr)⟩
theorem zdl {a b:World} {g g':Nat} (h:a.grownBy b (some g)) (hg:a.heap.size<=g') (q:Nat->Bool):a.grownBy (put4 b g' q) (some g):=
 zab (zab (zab (zab h hg _) hg _) hg _) hg _
theorem zfe (w:World) (g:Nat) (s:ByteArray) (st:St) (a b:Int) (h:Rdr w g s st):
 Calls Tryd.prog 93 #[.pointer (some ⟨g,0,none⟩),.int .i64 a,.int .i64 b] w fun e w'=>e = .returned (.tuple #[])∧Rdr w' g s (st.fail a b)∧w.grownBy w' (some g):=by
 obtain⟨c0,c1,c2,c3,c4⟩:=h.cell;obtain⟨f0,f1,f2,f3,f4⟩:=h.frozen
 by_cases hb:st.bad=0
 .have hb':(st.bad==0)=true:=(by simp[hb]);have e:st.fail a b={st with bad:=b,spot:=a}:=(by unfold St.fail;rw[if_pos hb]);rw[e];clear e hb;go_enter Tryd.func93,Tryd.ntmps93;go_wp2;go_end0;exact⟨rfl,(h.setBad b).setSpot a,zce (zce (zbo _ _) _) _⟩
 .have hb':(st.bad==0)=false:=(by simp[hb]);have e:st.fail a b=st:=(by unfold St.fail;rw[if_neg hb]);rw[e];clear e hb;go_enter Tryd.func93,Tryd.ntmps93;go_wp2;go_end0;exact⟨rfl,h,zbo _ _⟩
theorem zzu (w:World) (m n:Nat):(w.drewN m).drewN n=w.drewN (m+n):=by
 unfold World.drewN;simp[Nat.add_assoc]
theorem zb2 (w:World) (g:Nat) (s:ByteArray) (st:St) (h:Rdr w g s st) (hs:s.size<=1000):
 Calls Tryd.prog 73 #[.pointer (some ⟨g,0,none⟩)] w fun e w'=>e = .returned (.int .i64 (st.peek s))∧∃ n,w'=w.drewN n:=by
 obtain⟨c0,c1,c2,c3,c4⟩:=h.cell
 by_cases hb:st.bad=0
 .have hb':(st.bad != 0)=false:=by simp[hb]
  by_cases hlt:st.pos<s.size
  .have hd:decide (s.size<=st.pos)=false:=yil;have e:st.peek s=((s[st.pos]'hlt).toNat:Int):=(by unfold St.peek;rw[if_neg yie,yct s _ hlt]);rw[e];clear e hb;have k0:(0:Int)<=(st.pos:Int):=yie;have k1:(st.pos:Int)<(s.size:Int):=yie;go_enter Tryd.func73,Tryd.ntmps73;go_wp2;go_quiet (fail);go_wp2;go_quiet (fail);go_wp2;go_ret;refine⟨congrArg Ending.returned (congrArg (Value.int .i64) ?_),_,zzu _ _ _⟩;have:=UInt8.toNat_lt (s[st.pos]'hlt);unfold wrap64;omega
  .have hd:decide (s.size<=st.pos)=true:=yil;have e:st.peek s = -1:=(by unfold St.peek;rw[if_pos yie]);rw[e];clear e hb;go_enter Tryd.func73,Tryd.ntmps73;go_wp2;go_quiet (fail);go_wp2;go_ret;exact⟨rfl,_,rfl⟩
 .have hb':(st.bad != 0)=true:=(by simp[hb]);have e:st.peek s = -1:=(by unfold St.peek;rw[if_pos yie]);rw[e];clear e hb;go_enter Tryd.func73,Tryd.ntmps73;go_wp2;go_quiet (fail);go_wp2;go_ret;exact⟨rfl,_,rfl⟩
end
theorem zmg (s:ByteArray) (st:St) : -1<=st.peek s∧st.peek s<=255:=by
 have:=ye5 s st.pos;unfold St.peek;split <;> omega
theorem zbd (s:ByteArray) (st:St) (h:0<=st.peek s):st.bad=0∧st.pos<s.size:=by
 unfold St.peek at h;split at h
 .omega
 .omega
theorem zcm (w:World) (g:Nat) (s:ByteArray) (st:St) (h:Rdr w g s st) (hs:s.size<=1000):
 Calls Tryd.prog 91 #[.pointer (some ⟨g,0,none⟩)] w fun e w'=>e = .returned (.int .i64 (st.next s).1)∧Rdr w' g s (st.next s).2∧w.grownBy w' (some g):=by
 obtain⟨c0,c1,c2,c3,c4⟩:=h.cell;obtain⟨f0,f1,f2,f3,f4⟩:=h.frozen;have hbd:=zmg s st
 by_cases hn:st.peek s<0
 .have e:st.next s=(-1,st.fail s.size 2):=(by unfold St.next;rw[if_pos hn]);rw[e];clear e;go_enter Tryd.func91,Tryd.ntmps91;go_wp2_with (first
   | (go_at_call 73;(with_reducible refine (zb2 _ g s st h hs).mono ?_);rintro e w1 ⟨rfl,n,rfl⟩)
   | (go_at_call 93;(with_reducible refine (zfe _ g s st _ _ (h.drewN _)).mono ?_);rintro e w2 ⟨rfl,hr,ho⟩))
  go_ret;exact⟨rfl,hr,zal (zap (zbo _ _) _) ho⟩
 .have hp:=zbd s st yie;have e:st.next s=(st.peek s,st.step 1):=(by unfold St.next;rw[if_neg hn]);rw[e];clear e;have hp1:=hp.2;clear hp;go_enter Tryd.func91,Tryd.ntmps91;go_wp2_with (go_at_call 73;(with_reducible refine (zb2 _ g s st h hs).mono ?_);rintro e w1 ⟨rfl,n,rfl⟩);go_ret;refine⟨rfl,?_,?_⟩
  .exact h.setPos (st.pos+1)
  .exact zap (zce (zbo _ _) _) _
theorem zek (b:UInt8):wrap64 (b.toNat:Int)=(b.toNat:Int):=by
 have:=UInt8.toNat_lt b;unfold wrap64;omega
def inT (c:Int) (s:ByteArray):Bool:=s.data.toList.any fun b=>(b.toNat:Int)==c
theorem zfx (c:Int) (s:ByteArray) (h:inT c s=true):0<=c:=by
 unfold inT at h;rw[yi6] at h;obtain⟨b,_,hb⟩:=h;have:(b.toNat:Int)=c:=by simpa using hb
 omega
def zru (c:Int) (s:ByteArray) (k:Nat):Bool:=(s.data.toList.take k).any fun b=>(b.toNat:Int)==c
theorem in_p (w:World) (c:Int) (s:ByteArray) (hs:s.size<=1000):
 Calls Tryd.prog 100 #[.int .i64 c,.string s] w fun e w'=>e = .returned (.bool (inT c s))∧w=w':=by
 go_enter Tryd.func100,Tryd.ntmps100;go_wp2;go_loop [5] (fun i=>∃ k:Nat,k<=s.size∧i = .int .i64 k∧zru c s k=false) (fun i=>s.size-(intOf i).toNat)
 case atStart=>exact⟨0,yf8 _,rfl,by simp[zru]⟩
 case round =>
  obtain⟨k,hk,rfl,hin⟩:=hrel;have HI:=Zh hin;clear hin
  by_cases hlt:k<s.size
  .by_cases he:((s[k]'hlt).toNat:Int)=c
   .have he':(wrap64 ((s[k]'hlt).toNat:Int)==c)=true:=(by rw[zek];simp[he]);have HE:=Zh he;clear he;go_wp2;go_ret;refine⟨congrArg Ending.returned (congrArg Value.bool ?_),rfl⟩;symm;unfold inT;rw[yi6];rw[zek] at he';exact⟨s[k]'hlt,by simp[ByteArray.getElem_eq_getElem_data],he'⟩
   .have he':(wrap64 ((s[k]'hlt).toNat:Int)==c)=false:=(by rw[zek];simp[he]);clear he;go_wp2;go_round
    case rel =>
     refine⟨k+1,by omega,by go_num,?_⟩;have hin:=HI.o;unfold zru at *;rw[yfg (by simpa using hlt),List.any_append,hin];rw[zek] at he'
     simpa [ByteArray.getElem_eq_getElem_data] using he'
    case measure=>simp[intOf];omega
  .go_wp2;go_ret;refine⟨congrArg Ending.returned (congrArg Value.bool ?_),rfl⟩;have hin:=HI.o;unfold zru at hin;unfold inT;rw[yg0 yil] at hin;exact hin.symm
namespace St
def escaped (s:ByteArray) (st:St):Int×St:=
 let c:=(st.next s).1
 let st1:=(st.next s).2
 if c=110 then (10,st1) else if c=116 then (9,st1) else
 if inT c ⟨#[92,46,91,93,40,41,123,125,124,63,42,43,94,36,45,47]⟩=true then (c,st1) else (0,st1.fail ((st1.pos:Int)-1) 2)
def member (s:ByteArray) (st:St):Int×St:=
 let c:=(st.next s).1
 let st1:=(st.next s).2
 let st2:=if c=93 then st1.fail ((st1.pos:Int)-1) 2 else st1
 if c=92 then st2.escaped s else (max c 0,st2)
def number (s:ByteArray) (st:St):Int×St:=
 let c:=(st.next s).1
 let st1:=(st.next s).2
 if c<48∨57<c then (0,st1.fail ((st1.pos:Int)-1) 2) else
 let d:=st1.peek s
 if 48<=d∧d<=57 then (10*(c-48)+d-48,st1.step 1) else (c-48,st1)
end St
theorem zhw (s:ByteArray) (st:St) : -1<=(st.next s).1∧(st.next s).1<=255:=by
 have:=zmg s st;unfold St.next;split <;> simp <;> omega
theorem zdx (s:ByteArray) (st:St) (h:st.pos<=s.size):(st.next s).2.pos<=s.size∧st.pos<=(st.next s).2.pos:=by
 by_cases hn:st.peek s<0
 .have e:st.next s=(-1,st.fail s.size 2):=(by unfold St.next;rw[if_pos hn]);rw[e];unfold St.fail;split <;> simp <;> omega
 .have hp:=zbd s st yie;have e:st.next s=(st.peek s,st.step 1):=(by unfold St.next;rw[if_neg hn]);rw[e];simp[St.step];omega
theorem zis (st:St) (a b:Int):(st.fail a b).pos=st.pos:=by unfold St.fail;split <;> rfl
theorem zou (w:World) (g:Nat) (s:ByteArray) (st:St) (h:Rdr w g s st) (hs:s.size<=1000) (hpos:st.pos<=s.size):
 Calls Tryd.prog 99 #[.pointer (some ⟨g,0,none⟩)] w fun e w'=>e = .returned (.int .u8 (st.escaped s).1)∧Rdr w' g s (st.escaped s).2∧w.grownBy w' (some g):=by
 have hbd:=zhw s st;have hps:=zdx s st hpos;have hnot:∀ (x:Bool) (w:World),(Op.unary .not (.bool x)).run Tryd.prog w = .ok (.bool (!x)) w:=fun _ _=>rfl
 have HN:=Zh (zcm w g s st h hs);generalize hc:(st.next s).1=c at *;generalize h1:(st.next s).2=st1 at *;have HE:Hid (st.escaped s=if c=110 then (10,st1) else if c=116 then (9,st1) else if inT c ⟨#[92,46,91,93,40,41,123,125,124,63,42,43,94,36,45,47]⟩=true then (c,st1) else (0,st1.fail ((st1.pos:Int)-1) 2)):=by
  unfold St.escaped;rw[hc,h1];exact rfl
 clear hc h1
 by_cases e1:c=110
 .have hE:=HE.o;rw[if_pos e1] at hE;rw[hE];clear hE HE;have e1':(c==110)=true:=(by simp[e1]);clear e1;go_enter Tryd.func99,Tryd.ntmps99;go_wp2_with (go_at_call 91;(with_reducible refine (HN.o).mono ?_);rintro e w1 ⟨rfl,hr,ho⟩);go_ret;exact⟨rfl,hr,ho⟩
 .have e1':(c==110)=false:=(by simp[e1]);have hE:=HE.o;rw[if_neg e1] at hE;clear e1 HE
  by_cases e2:c=116
  .rw[if_pos e2] at hE;rw[hE];clear hE;have e2':(c==116)=true:=(by simp[e2]);clear e2;go_enter Tryd.func99,Tryd.ntmps99;go_wp2_with (go_at_call 91;(with_reducible refine (HN.o).mono ?_);rintro e w1 ⟨rfl,hr,ho⟩);go_ret;exact⟨rfl,hr,ho⟩
  .have e2':(c==116)=false:=(by simp[e2]);rw[if_neg e2] at hE;clear e2;have HI:=Zh (fun w=>in_p w c ⟨#[92,46,91,93,40,41,123,125,124,63,42,43,94,36,45,47]⟩ yij);generalize hi:inT c ⟨#[92,46,91,93,40,41,123,125,124,63,42,43,94,36,45,47]⟩=i at *;have HI2:=Zh hi;clear hi;cases i with
   | true =>
    rw[if_pos rfl] at hE;rw[hE];clear hE;have c0:0<=c:=zfx _ _ HI2.o;go_enter Tryd.func99,Tryd.ntmps99;go_wp2_with (first
     | (go_at_call 91;(with_reducible refine (HN.o).mono ?_);rintro e w1 ⟨rfl,hr,ho⟩)
     | (go_at_call 100;(with_reducible refine (HI.o _).mono ?_);rintro e w2 ⟨rfl,rfl⟩))
    go_ret;exact⟨rfl,hr,ho⟩
   | false =>
    rw[if_neg yii] at hE;rw[hE];clear hE;go_enter Tryd.func99,Tryd.ntmps99;go_wp2_with (first
     | (go_at_call 91;(with_reducible refine (HN.o).mono ?_);rintro e w1 ⟨rfl,hr,ho⟩;obtain⟨k0,k1,k2,k3,k4⟩:=hr.cell)
     | (go_at_call 100;(with_reducible refine (HI.o _).mono ?_);rintro e w2 ⟨rfl,rfl⟩)
     | (go_at_call 93;(with_reducible refine (zfe _ g s st1 _ _ hr).mono ?_);rintro e w3 ⟨rfl,hr3,ho3⟩))
    go_ret;exact⟨rfl,hr3,zal ho ho3⟩
section
attribute [local go_sem ↓] Go.wp_at_zero Go.wp_at_succ
theorem zny (p:Nat->Bool) (b:Int) (w:World) (hb:0<=b) (hb':b<=255):
 Calls Tryd.prog 103 #[.agg #[.int .u64 (word p 0),.int .u64 (word p 1),.int .u64 (word p 2),.int .u64 (word p 3)],.int .u8 b] w fun e w'=>e = .returned (.bool (p b.toNat))∧Below w.heap.size w w':=by
 have hv:=zql p b hb hb';have H:=ycc p b hb hb';rw[←H];clear H;go_enter Tryd.func103,Tryd.ntmps103;go_wp2;go_ret;exact⟨rfl,(yf6 _ _).alloc (yez _) _⟩
theorem zuy (A:Option Addr) (n cap:Nat) (xs:List Int) (w:World) (hn:n=xs.length) (hr:RdB w w.heap.size A xs) (hx:∀ k,k<xs.length->0<=xs.getD k 0∧xs.getD k 0<=255) (hm:xs.length<=9223372036854775807):
 Calls Tryd.prog 97 #[.slice A n cap] w fun e w'=>e = .returned (setV (memP xs))∧Below w.heap.size w w':=by
 have HN:=Zh hn;have HX:=Zh hx;rw[←hn] at hm;clear hx hn;have hnot:∀ (x:Bool) (w:World),(Op.unary .not (.bool x)).run Tryd.prog w = .ok (.bool (!x)) w:=fun _ _=>rfl
 go_enter Tryd.func97,Tryd.ntmps97;go_wp2;go_loopw [4] (fun i wr=>∃ k:Nat,∃ p0,k<=n∧i = .int .i64 k∧Box4 wr w.heap.size p0∧Box4 wr (w.heap.size+1) (memP (xs.take k))∧Below w.heap.size w wr) (fun i _=>n-(intOf i).toNat)
 case atStart =>
  refine⟨0,za9,yf8 _,rfl,(Box4.new0 w).alloc _,?_,((yf6 _ _).alloc (yez _) _).alloc yii _⟩;have h:=Box4.new0 (w.alloc (.cells #[.int .u64 0,.int .u64 0,.int .u64 0,.int .u64 0] 53));rw[yfe] at h;exact h.congr fun x _=>by simp[memP,za9]
 case round =>
  obtain⟨k,p0,hk,rfl,b0,b1,hnx⟩:=hrel;have hs:=b1.lt;obtain⟨c0,c1,c2,c3⟩:=b1.cell
  by_cases hlt:k<n
  .have hkx:k<xs.length:=yjf;obtain⟨b,off,rfl,hbB,hc⟩:=hr k hkx;have hx:=HX.o k hkx;have hc1:=(hnx.cell (p:=⟨b,off+k,none⟩) hbB).trans hc;have HM:=Zh (zyz xs k hkx hx.1);obtain⟨v,hv⟩:∃ v,v=xs.getD k 0:=⟨_,rfl⟩;rw[←hv] at hx hc1 HM;clear hc hv hkx hr;have k0:(0:Int)<=(k:Int):=yie;have k1:(k:Int)<(n:Int):=yie;generalize hp:memP (xs.take k)=p at *;have HP:=Zh hp;clear hp;cases hpv:p v.toNat
   all_goals
    go_wp2_with fail;refine wp_region_noPanic ?_;go_region_held (fun w'=>w'.cell? ⟨w.heap.size+1,0,none⟩=some (.int .u64 (word p 0))∧w'.cell? ⟨w.heap.size+1,1,none⟩=some (.int .u64 (word p 1))∧w'.cell? ⟨w.heap.size+1,2,none⟩=some (.int .u64 (word p 2))∧w'.cell? ⟨w.heap.size+1,3,none⟩=some (.int .u64 (word p 3))∧w'.cell? ⟨b,off+k,none⟩=some (.int .u8 v))
     (first | exact⟨c0,c1,c2,c3,hc1⟩ | (go_split_ands;refine⟨?_,?_,?_,?_,?_⟩ <;> first | with_reducible assumption | with_reducible exact za4 ‹_› ‹_›))
     (first | (go_at_call 103;(with_reducible refine (zny p v _ yie yie).mono ?_);rintro e w1 ⟨rfl,hb1⟩;rw[hpv]))
    refine NoPanic.normal ?_;replace hb1:=zez hb1;replace b0:=b0.stays hb1;replace b1:=b1.stays hb1;replace hnx:=gro hnx hb1;have hs1:=b1.lt;have hd1:=za4 hc1 hb1;clear c0 c1 c2 c3 hc1 hb1;obtain⟨c0,c1,c2,c3⟩:=b1.cell;obtain⟨f0,f1,f2,f3⟩:=b1.frozen;go_wp2
   .have HO:=Zh (yaf p v hx.1 hx.2 hpv);have HW:=Zh (zlq p v.toNat);have hd:(v / 64).toNat=v.toNat / 64:=yie;have HD:=Zh hd;clear hd;rcases (show v / 64=0∨v / 64=1∨v / 64=2∨v / 64=3 by omega) with h|h|h|h
    all_goals
     have e1:IntKind.i64.wrap v=v:=IntWalk.i64_in _ yie;have e2:v.tdiv 64=v / 64:=Int.tdiv_eq_ediv_of_nonneg hx.1;have e4:v.tmod 64=v % 64:=yi0 hx.1;have e5:IntKind.i64.wrap (v % 64)=v % 64:=IntWalk.i64_in _ yie;have e6:IntKind.u64.wrap (v % 64)=v % 64:=zdc yie yie;have n0:IntKind.i64.wrap 0=0:=rfl;have n1:IntKind.i64.wrap 1=1:=rfl;have n2:IntKind.i64.wrap 2=2:=rfl;have n3:IntKind.i64.wrap 3=3:=rfl;have m0:0<=v % 64:=yie;go_still_tail 24,yih;clear e1 e2 e4 e5 e6 n0 n1 n2 n3 m0;go_wp2;have ho:=HO.o;have hw:=HW.o;have hd:=HD.o;rw[h] at ho hd;simp only[show (0:Int).toNat=0 from rfl,show (1:Int).toNat=1 from rfl,show (2:Int).toNat=2 from rfl,show (3:Int).toNat=3 from rfl] at ho hd;rw[ho];go_roundw
     case measure=>simp[intOf];omega
     case rel =>
      refine⟨k+1,p0,by omega,by go_num,(b0.far yii _).drew,?_,(hnx.setCell yii _).drew⟩;exact (b1.set1 _ yij (fun j hj=>hw j yie)).drew.congr fun x _=>HM.o x
   .go_roundw
    case rel =>
     refine⟨k+1,p0,by omega,by go_num,b0,b1.congr fun x _=>?_,hnx⟩;rw[←HM.o x];unfold add1
     by_cases e:x=v.toNat
     .subst e;rw[hpv];simp
     .simp[e]
    case measure=>simp[intOf];omega
  .obtain⟨d0,d1,d2,d3⟩:=b0.cell;obtain⟨g0,g1,g2,g3⟩:=b0.frozen;go_wp2;refine bodyPost_ret (v:=setV (memP (xs.take k))) ?_ rfl ⟨congrArg Ending.returned (zfp fun x _=>?_),zc9 (g:=w.heap.size) hnx (yez _) (memP (xs.take k))⟩
   .unfold setV;simp[results,Tryd.results97,go_sem,d0,d1,d2,d3]
   .have:=HN.o;rw[yg0 yie]
end
section
attribute [local go_sem ↓] Go.wp_at_zero Go.wp_at_succ
theorem zr3 (p:Nat->Bool) (w:World):
 Calls Tryd.prog 108 #[.agg #[.int .u64 (word p 0),.int .u64 (word p 1),.int .u64 (word p 2),.int .u64 (word p 3)]] w
  fun e w'=>∃ v,e = .returned v∧w'.ownsRow w.heap.size 5 1 v (allP p).length ((allP p).map (Value.int .u8))∧Below w.heap.size w w':=by
 obtain⟨i0,hi,hz0,hz1,hz2⟩:=info_parts Tryd.infoByte;go_enter Tryd.func108,Tryd.ntmps108;go_wp2;go_loopw [3,4] (fun v i wr=>∃ k:Nat,k<=256∧i = .int .i64 k∧wr.ownsRow (w.heap.size+1) 5 1 v (ze8 p k).length ((ze8 p k).map (Value.int .u8))∧Box4 wr w.heap.size p∧Below w.heap.size w wr)
  (fun _ i _=>256-(intOf i).toNat)
 case atStart=>exact⟨0,by omega,rfl,yfx _ _ _ _,Box4.new w p,(yf6 _ _).alloc (yez _) _⟩
 case round =>
  obtain⟨k,hk,rfl,hown,b0,hnx⟩:=hrel;have hs:=b0.lt;obtain⟨c0,c1,c2,c3⟩:=b0.cell
  by_cases hlt:k<256
  .have hle:=zgy p k;cases hp:p k
   .have HE:=Zh (zhz p k hp);go_wp2_with (go_at_call 103;(with_reducible refine (zny p k _ yie yie).mono ?_);rintro e w1 ⟨rfl,hb1⟩;rw[yft,hp]);go_roundw
    case rel=>exact⟨k+1,by omega,by go_num,by rw[HE.o];exact za6 hown hb1,b0.stays hb1,hnx.trans (hb1.mono yie)⟩
    case measure=>simp[intOf];omega
   .have HE:=Zh (zjl p k hp);go_wp2_with (first
     | (go_at_call 103;(with_reducible refine (zny p k _ yie yie).mono ?_);rintro e w1 ⟨rfl,hb1⟩;rw[yft,hp];have hown1:=za6 hown hb1;have b1:=b0.stays hb1;have hs1:=hb1.size)
     | (at_builtin;refine wpList_append_own _ rfl _ _ 24 rfl (w.heap.size+1) 5 i0 (.int .u8 0) 1 1 Tryd.underlying24 hi hz0 hz1 hz2 rfl yij _ _ _ rfl (hown1.alloc _) ⟨w1.heap.size,0,none⟩ 1 1 [.int .u8 (k:Int)] rfl rfl ?c1 ?c2 ?c3 ?c4 ?c5 ?_))
    case c1 =>
     intro j u hj
     match j,hj with
     | 0,hj=>simp at hj;subst hj;simp[Addr.add]
    case c2=>intro u hu;simp at hu;subst hu;rfl
    case c3=>unfold maxLen;omega
    case c4=>omega
    case c5=>simp;omega
    .intro v' w2 hown' hgrow _;have b2:Box4 w2 w.heap.size p:=(b1.alloc _).grown hgrow (fun e=>by have:=hown1.lt _ e.symm;omega);have hnx2:Below w.heap.size w w2:=((hnx.trans (hb1.mono yie)).alloc yie _).grown hgrow yil (fun j e=>by have:=hown1.lt j e;omega);have HO:=Zh hown';clear hown' hgrow hown hown1 b0 b1 hb1 hnx;go_wp2;go_roundw
     case rel=>exact⟨k+1,by omega,by go_num,by rw[HE.o];simpa using HO.o,b2,hnx2⟩
     case measure=>simp[intOf];omega
  .have:k=256:=by omega
   subst this;go_wp2;go_ret;exact⟨_,rfl,zbh hown yie,hnx⟩
def zeu (lo k:Int):List Int:=(List.range (k-lo).toNat).map fun j:Nat=>lo+(j:Int)
theorem ztr (lo k:Int) (h:lo<=k):zeu lo (k+1)=zeu lo k++[k]:=by
 unfold zeu;rw[show (k+1-lo).toNat=(k-lo).toNat+1 by omega,ygh,yfu];simp;omega
theorem zos (lo k:Int):(zeu lo k).length=(k-lo).toNat:=by simp[zeu]
theorem zts (lo:Int):zeu lo lo=[]:=by simp[zeu]
theorem zwu (lo k:Int) (h0:0<=lo) (h1:k<=256):∀ j,j<(zeu lo k).length->0<=(zeu lo k).getD j 0∧(zeu lo k).getD j 0<=255:=by
 intro j hj;have hl:=zos lo k;rw[yf0,yey hj];simp[zeu];omega
theorem zwt (lo hi k:Int) (h0:0<=lo) (hk:k=hi+1∨(k=lo∧hi<k)) (x:Nat):memP (zeu lo k) x=zam lo hi x:=by
 unfold memP zam zeu;rw[ygc,yi6];simp;constructor
 .rintro⟨a,ha,e⟩;omega
 .rintro⟨a,b⟩;exact⟨(x-lo).toNat,by omega,by omega⟩
theorem zfq (lo hi:Int) (w:World) (hl:0<=lo) (hl':lo<=255) (hh:0<=hi) (hh':hi<=255):
 Calls Tryd.prog 107 #[.int .u8 lo,.int .u8 hi] w fun e w'=>e = .returned (setV (zam lo hi))∧Below w.heap.size w w':=by
 obtain⟨i0,hi0,hz0,hz1,hz2⟩:=info_parts Tryd.infoByte;go_enter Tryd.func107,Tryd.ntmps107;go_wp2;go_loopw [5,6] (fun v i wr=>∃ k:Int,∃ p0,lo<=k∧(k<=hi+1∨k=lo)∧i = .int .i64 k∧wr.ownsRow (w.heap.size+1) 5 1 v (zeu lo k).length ((zeu lo k).map (Value.int .u8))∧Box4 wr w.heap.size p0∧Below w.heap.size w wr) (fun _ i _=>(hi+1-intOf i).toNat)
 case atStart=>exact⟨lo,za9,by omega,by omega,rfl,by rw[zts];exact yfx _ _ _ _,Box4.new0 w,(yf6 _ _).alloc (yez _) _⟩
 case round =>
  obtain⟨k,p0,hk,hk2,rfl,hown,b0,hnx⟩:=hrel;have hs:=b0.lt;have hlen:=zos lo k
  by_cases hlt:k<=hi
  .have HE:=Zh (ztr lo k hk);have hle:(zeu lo k).length<=256:=yie;clear hlen;go_wp2_with (at_builtin;refine wpList_append_own _ rfl _ _ 24 rfl (w.heap.size+1) 5 i0 (.int .u8 0) 1 1 Tryd.underlying24 hi0 hz0 hz1 hz2 rfl yij _ _ _ rfl (hown.alloc _) ⟨wr.heap.size,0,none⟩ 1 1 [.int .u8 k] rfl rfl ?c1 ?c2 ?c3 ?c4 ?c5 ?_)
   case c1 =>
    intro j u hj
    match j,hj with
    | 0,hj=>simp at hj;subst hj;simp[Addr.add]
   case c2=>intro u hu;simp at hu;subst hu;rfl
   case c3=>unfold maxLen;omega
   case c4=>omega
   case c5=>simp;omega
   .intro v' w2 hown' hgrow _;have b2:Box4 w2 w.heap.size p0:=(b0.alloc _).grown hgrow (fun e=>by have:=hown.lt _ e.symm;omega);have hnx2:Below w.heap.size w w2:=(hnx.alloc yie _).grown hgrow yil (fun j e=>by have:=hown.lt j e;omega);have HO:=Zh hown';clear hown' hgrow hown b0 hnx;go_wp2;go_roundw
    case rel=>exact⟨k+1,p0,by omega,by omega,rfl,by rw[HE.o];simpa using HO.o,b2,hnx2⟩
    case measure=>simp[intOf];omega
  .obtain⟨A,cap,rfl,hn,hr,hA⟩:=zo1 hown;have hg:=zwu lo k hl yie;have hle:(zeu lo k).length<=9223372036854775807:=yie;have HG:=Zh hg;have HE:Hid (∀ x,memP (zeu lo k) x=zam lo hi x):=fun x=>zwt lo hi k hl yie x
   clear hg hn hlen;go_wp2_with (go_at_call 97;(with_reducible refine (zuy _ _ _ (zeu lo k) _ rfl hr HG.o hle).mono ?_);rintro e w1 ⟨rfl,hb1⟩;rw[zfp (fun x _=>HE.o x)];unfold setV;obtain⟨d0,d1,d2,d3⟩:=(b0.stays hb1).cell;obtain⟨g0,g1,g2,g3⟩:=(b0.stays hb1).frozen);refine bodyPost_ret (v:=setV (zam lo hi)) ?_ rfl ⟨rfl,zc9 (g:=w.heap.size) (hnx.trans (hb1.mono yie)) (yez _) (zam lo hi)⟩;unfold setV;simp[results,Tryd.results107,go_sem,d0,d1,d2,d3]
end
section
attribute [local go_sem ↓] Go.wp_at_zero Go.wp_at_succ
theorem zuz (p:Nat->Bool) (w:World):
 Calls Tryd.prog 96 #[.agg #[.int .u64 (word p 0),.int .u64 (word p 1),.int .u64 (word p 2),.int .u64 (word p 3)]] w
  fun e w'=>e = .returned (setV (notP p))∧Below w.heap.size w w':=by
 obtain⟨i0,hi,hz0,hz1,hz2⟩:=info_parts Tryd.infoByte;have hnot:∀ (x:Bool) (w:World),(Op.unary .not (.bool x)).run Tryd.prog w = .ok (.bool (!x)) w:=fun _ _=>rfl
 go_enter Tryd.func96,Tryd.ntmps96;go_wp2;go_loopw [3,4] (fun v i wr=>∃ k:Nat,∃ p0,k<=256∧i = .int .i64 k∧wr.ownsRow (w.heap.size+2) 5 1 v (ze8 (notP p) k).length ((ze8 (notP p) k).map (Value.int .u8))∧Box4 wr w.heap.size p∧Box4 wr (w.heap.size+1) p0∧Below w.heap.size w wr)
  (fun _ i _=>256-(intOf i).toNat)
 case atStart =>
  refine⟨0,za9,by omega,rfl,yfx _ _ _ _,(Box4.new w p).alloc _,?_,((yf6 _ _).alloc (yez _) _).alloc yii _⟩;have h:=Box4.new0 (w.alloc (.cells #[.int .u64 (word p 0),.int .u64 (word p 1),.int .u64 (word p 2),.int .u64 (word p 3)] 53))
  rwa [yfe] at h
 case round =>
  obtain⟨k,p0,hk,rfl,hown,b0,b9,hnx⟩:=hrel;have hs:=b9.lt;obtain⟨c0,c1,c2,c3⟩:=b0.cell
  by_cases hlt:k<256
  .have hle:=zgy (notP p) k;cases hp:p k
   .have HE:=Zh (zjl (notP p) k (by simp[notP,hp]));go_wp2_with (first
     | (go_at_call 103;(with_reducible refine (zny p k _ yie yie).mono ?_);rintro e w1 ⟨rfl,hb1⟩;rw[yft,hp];have hown1:=za6 hown hb1;have b1:=b0.stays hb1;have b8:=b9.stays hb1;have hs1:=hb1.size)
     | (at_builtin;refine wpList_append_own _ rfl _ _ 24 rfl (w.heap.size+2) 5 i0 (.int .u8 0) 1 1 Tryd.underlying24 hi hz0 hz1 hz2 rfl yij _ _ _ rfl (hown1.alloc _) ⟨w1.heap.size,0,none⟩ 1 1 [.int .u8 (k:Int)] rfl rfl ?c1 ?c2 ?c3 ?c4 ?c5 ?_))
    case c1 =>
     intro j u hj
     match j,hj with
     | 0,hj=>simp at hj;subst hj;simp[Addr.add]
    case c2=>intro u hu;simp at hu;subst hu;rfl
    case c3=>unfold maxLen;omega
    case c4=>omega
    case c5=>simp;omega
    .intro v' w2 hown' hgrow _;have b2:Box4 w2 w.heap.size p:=(b1.alloc _).grown hgrow (fun e=>by have:=hown1.lt _ e.symm;omega);have b7:Box4 w2 (w.heap.size+1) p0:=(b8.alloc _).grown hgrow (fun e=>by have:=hown1.lt _ e.symm;omega);have hnx2:Below w.heap.size w w2:=((hnx.trans (hb1.mono yie)).alloc yie _).grown hgrow yil (fun j e=>by have:=hown1.lt j e;omega);have HO:=Zh hown';clear hown' hgrow hown hown1 b0 b1 b8 b9 hb1 hnx;go_wp2;go_roundw
     case rel=>exact⟨k+1,p0,by omega,by go_num,by rw[HE.o];simpa using HO.o,b2,b7,hnx2⟩
     case measure=>simp[intOf];omega
   .have HE:=Zh (zhz (notP p) k (by simp[notP,hp]));go_wp2_with (go_at_call 103;(with_reducible refine (zny p k _ yie yie).mono ?_);rintro e w1 ⟨rfl,hb1⟩;rw[yft,hp]);go_roundw
    case rel=>exact⟨k+1,p0,by omega,by go_num,by rw[HE.o];exact za6 hown hb1,b0.stays hb1,b9.stays hb1,hnx.trans (hb1.mono yie)⟩
    case measure=>simp[intOf];omega
  .have:k=256:=by omega
   subst this;change wr.ownsRow _ _ _ _ (allP (notP p)).length ((allP (notP p)).map _) at hown;obtain⟨A,cap,rfl,hn,hr,hA⟩:=zo1 hown;have HG:=Zh (yae (notP p));have HL:=Zh (ycu (notP p));have HE:Hid (∀ x,x<256->memP (allP (notP p)) x=notP p x):=zml (notP p);clear hn hlt hk;go_wp2_with (go_at_call 97;(with_reducible refine (zuy _ _ _ (allP (notP p)) _ rfl hr HG.o HL.o).mono ?_);rintro e w1 ⟨rfl,hb1⟩;rw[zfp HE.o];unfold setV;obtain⟨d0,d1,d2,d3⟩:=(b9.stays hb1).cell;obtain⟨g0,g1,g2,g3⟩:=(b9.stays hb1).frozen);refine bodyPost_ret (v:=setV (notP p)) ?_ rfl ⟨rfl,zc9 (g:=w.heap.size+1) (hnx.trans (hb1.mono yie)) yie (notP p)⟩;unfold setV;simp[results,Tryd.results96,go_sem,d0,d1,d2,d3]
theorem ybs (p q:Nat->Bool) (x:Nat) (hx:x<256):memP (allP p++allP q) x=orP p q x:=by
 have h1:=zml p x hx;have h2:=zml q x hx;unfold memP at *;rw[List.any_append,h1,h2];rfl
theorem yby (xs ys:List Int):xs.length+ys.length=(xs++ys).length:=List.length_append.symm
theorem ych (p q:Nat->Bool):∀ j,j<(allP p++allP q).length->0<=(allP p++allP q).getD j 0∧(allP p++allP q).getD j 0<=255:=by
 intro j hj;have hm:(allP p++allP q).getD j 0∈allP p++allP q:=by
  rw[yf0,yey hj];exact yfq hj
 rw[yfm] at hm;rcases hm with h|h
 .have:=(zfa p 256 _).1 h;omega
 .have:=(zfa q 256 _).1 h;omega
theorem zyk (p q:Nat->Bool) (w:World):
 Calls Tryd.prog 102 #[.agg #[.int .u64 (word p 0),.int .u64 (word p 1),.int .u64 (word p 2),.int .u64 (word p 3)],.agg #[.int .u64 (word q 0),.int .u64 (word q 1),.int .u64 (word q 2),.int .u64 (word q 3)]] w
  fun e w'=>e = .returned (setV (orP p q))∧Below w.heap.size w w':=by
 obtain⟨i0,hi,hz0,hz1,hz2⟩:=info_parts Tryd.infoByte;have lp:=zgy p 256;have lq:=zgy q 256;change (allP p).length<=256 at lp;change (allP q).length<=256 at lq;obtain⟨w0,hw0⟩:∃ w0,w0=((w.alloc (.cells #[.int .u64 (word p 0),.int .u64 (word p 1),.int .u64 (word p 2),.int .u64 (word p 3)] 53)).alloc (.cells #[.int .u64 (word q 0),.int .u64 (word q 1),.int .u64 (word q 2),.int .u64 (word q 3)] 53)).alloc (.cells #[.int .u64 0,.int .u64 0,.int .u64 0,.int .u64 0] 53):=⟨_,rfl⟩;have bp:Box4 w0 w.heap.size p:=(by rw[hw0];exact ((Box4.new w p).alloc _).alloc _);have bq:Box4 w0 (w.heap.size+1) q:=by
  rw[hw0];have h:=Box4.new (w.alloc (.cells #[.int .u64 (word p 0),.int .u64 (word p 1),.int .u64 (word p 2),.int .u64 (word p 3)] 53)) q;rw[yfe] at h;exact h.alloc _
 have b9:Box4 w0 (w.heap.size+1+1) za9:=by
  rw[hw0];have h:=Box4.new0 ((w.alloc (.cells #[.int .u64 (word p 0),.int .u64 (word p 1),.int .u64 (word p 2),.int .u64 (word p 3)] 53)).alloc (.cells #[.int .u64 (word q 0),.int .u64 (word q 1),.int .u64 (word q 2),.int .u64 (word q 3)] 53))
  rwa [yfe,yfe] at h
 have hB:Below w.heap.size w w0:=(by rw[hw0];exact (((yf6 _ _).alloc (yez _) _).alloc yii _).alloc yil _);have HW:=Zh hw0;clear hw0;go_enter Tryd.func102,Tryd.ntmps102;go_wp2_with fail;rw[←HW.o];clear HW;obtain⟨c0,c1,c2,c3⟩:=bp.cell;obtain⟨d0,d1,d2,d3⟩:=bq.cell;have hs0:=b9.lt;go_region_law (first
  | (refine zyc _ yik _ _ 24 yik _ 5 i0 (.int .u8 0) 1 1 Tryd.underlying24 hi hz0 hz1 hz2 rfl yij _ _ _ yik hown1' A2 _ cap2 _ yik yii (fun h=>(hA2 h).1) (ybn hr2) (zn3 _) yin yie hs2 ?_;intro v3 w3 hown3 hgrow;have hB3:=hB2.grown hgrow hB2.size (fun j e=>by have:=hown1'.lt j e;omega);have b3:=((b9.stays hb1).stays hb2).grown hgrow (fun e=>by have:=hown1'.lt _ e.symm;omega);rw[←yfu,←yfd] at hown3;obtain⟨A3,cap3,rfl,hn3,hr3,hA3⟩:=zo1 hown3)
  | (go_simp;go_at_call 108;(with_reducible refine (zr3 p _).mono ?_);rintro e w1 ⟨v1,rfl,hown1,hb1⟩;replace hb1:=zez hb1;change w1.ownsRow w0.heap.size _ _ _ _ _ at hown1;have hB1:=gro hB hb1;obtain⟨k0,k1,k2,k3⟩:=(bq.stays hb1).cell)
  | (go_simp;go_at_call 108;(with_reducible refine (zr3 q _).mono ?_);rintro e w2 ⟨v2,rfl,hown2,hb2⟩;have hB2:=gro hB1 hb2;have hown1':=za6 hown1 hb2;have hs2:w0.heap.size<=w2.heap.size:=yfa hb1.size hb2.size;obtain⟨A2,cap2,rfl,hn2,hr2,hA2⟩:=zo1 hown2)
  | (go_simp;go_at_call 97;(with_reducible refine (zuy _ _ _ (allP p++allP q) _ (yby (allP p) (allP q)) hr3 (ych p q) yil).mono ?_);rintro e w4 ⟨rfl,hb4⟩;have hB4:=gro hB3 hb4;rw[zfp (ybs p q)];unfold setV;obtain⟨g0,g1,g2,g3⟩:=(b3.stays hb4).cell;obtain⟨f0,f1,f2,f3⟩:=(b3.stays hb4).frozen))
 all_goals go_wp2
 all_goals
  refine bodyPost_ret (v:=setV (orP p q)) ?_ rfl ⟨rfl,zc9 (g:=w.heap.size+1+1) hB4 yie (orP p q)⟩;unfold setV;simp[results,Tryd.results102,go_sem,g0,g1,g2,g3]
end
section
def zch (n:Nat) (F:Nat->Bool):List Value:=(List.range n).map fun j => .bool (F j)
theorem zeh (n:Nat) (F:Nat->Bool) (j:Nat) (h:j<n):(zch n F)[j]?=some (.bool (F j)):=by simp[zch,h]
theorem zp3 {n:Nat} {F G:Nat->Bool} (h:∀ j,j<n->F j=G j):zch n F=zch n G:=by
 apply ygi;intro j
 by_cases hj:j<n
 .rw[zeh _ _ _ hj,zeh _ _ _ hj,h j hj]
 .rw[yfj (by simp[zch];omega),yfj (by simp[zch];omega)]
theorem zu1 (n:Nat) (F:Nat->Bool) (p:Nat) (h:p<n) (b:Bool):(zch n F).set p (.bool b)=zch n (fun j=>if j=p then b else F j):=by
 apply ygi;intro j;rw[ygu]
 by_cases hj:j<n
 .rw[zeh _ _ _ hj,zeh _ _ _ hj]
  by_cases e:p=j
  .subst e;simp[zch,hj]
  .have e':¬ j=p:=fun x=>e x.symm
   simp[e,e']
 .have e:¬ p=j:=yie;rw[if_neg e,yfj (by simp[zch];omega),yfj (by simp[zch];omega)]
def Bools (w:World) (C g n:Nat) (F:Nat->Bool):Prop:=w.ownsRow C 4 1 (.slice (some ⟨g,0,none⟩) n n) n (zch n F)
section
variable {w w':World} {C g n:Nat} {F G:Nat->Bool}
theorem Bools.cell (h:Bools w C g n F) (j:Nat) (hj:j<n):w.cell? ⟨g,j,none⟩=some (.bool (F j)):=by
 rw[yf7 h j yie,zeh _ _ _ hj]
theorem Bools.frozen (h:Bools w C g n F) (j:Nat):w.frozen? ⟨g,j,none⟩=false:=yfw h j
theorem Bools.in (h:Bools w C g n F):C<=g∧g<w.heap.size:=yf5 h g rfl
theorem Bools.kind (h:Bools w C g n F):∃ cur,w.heap[g]?=some (.cells cur 4 (0,0)):=za7 h rfl
theorem Bools.block (h:Bools w C g n F) (hb:w'.heap[g]?=w.heap[g]?):Bools w' C g n F:=za8 h fun b e _=>by injection e with e;subst e;exact hb
theorem Bools.stays (h:Bools w C g n F) (hb:Below w.heap.size w w'):Bools w' C g n F:=h.block (hb.block g h.in.2)
theorem Bools.off {Q:Nat->Prop} (h:Bools w C g n F) (hk:Kept Q w w') (hq:¬ Q g):Bools w' C g n F:=h.block (hk.block g h.in.2 hq)
theorem Bools.congr (h:Bools w C g n F) (hc:∀ j,j<n->F j=G j):Bools w C g n G:=by
 unfold Bools at h ⊢;rw[←zp3 hc];exact h
theorem Bools.set (h:Bools w C g n F) (p:Nat) (hp:p<n) (b:Bool):Bools (w.setCell ⟨g,p,none⟩ (.bool b)) C g n (fun j=>if j=p then b else F j):=by
 have:=(yg1 h p (.bool b)).1;rw[zu1 n F p hp] at this;exact this
end
theorem zli (n:Nat):(madeCells (Value.bool false).cells (n*1)).toList=zch n fun _=>false:=by
 apply ygi;intro j
 by_cases hj:j<n
 .rw[zeh _ _ _ hj];simp[madeCells,Value.cells,hj,Nat.mod_one]
 .rw[yfj (by simp[madeCells,Value.cells];omega),yfj (by simp[zch];omega)]
end
def stoW (w:World) (p v:Value):World:=match p,v with
 | .pointer (some a),.agg cs=>w.setRow a.block cs
 | _,_=>w
def Sto (ty:TypeId) (w:World) (p v:Value):Prop:=(Instr.storeAt ty p v).run Tryd.prog w = .ok () (stoW w p v)
theorem zun {ty:TypeId} {w:World} {b:Nat} {cur cs:Array Value} {t:TypeId} (h:w.heap[b]?=some (.cells cur t (0,0))) (hi:(Tryd.prog.info? ty).map (·.size)=some cs.size) (ho:cur.size=cs.size) (h1:cs.all (·.oneCell')=true):
 Sto ty w (.pointer (some ⟨b,0,none⟩)) (.agg cs):=by
 unfold Sto stoW;simp only[Instr.storeAt,Instr.sureAddr,Sem.run_bind,Sem.run_pure,Result.andThen_ok,run_storeVar_row w b t ty cur cs h hi ho h1]
theorem zil {ρ:Operand->Value} {dst:Option Tmp} {x y:Operand} {t ty:TypeId} {pos:String} {after:Array Edge} {guard:Option (Nat×Bool)} {w:World} (h:Sto t w (ρ x) (ρ y)):
 Sem.run Tryd.prog (execOp ρ {dst:=dst,op := .store t x y,type:=ty,pos:=pos,after:=after,guard:=guard}) w = .ok .skip (stoW w (ρ x) (ρ y)):=by
 unfold Sto at h;unfold execOp;simp only[Sem.run_bind,Sem.run_pure,Result.andThen_ok,h]
theorem zq3 {w:World} {b:Nat} {old cs:Array Value} {t:TypeId} (h:w.heap[b]?=some (.cells old t (0,0))):(stoW w (.pointer (some ⟨b,0,none⟩)) (.agg cs)).heap[b]?=some (.cells cs t (0,0)):=setRow_heap w b old cs t (0,0) h
theorem yel {w:World} {g o b:Nat} {cs:Array Value} {v:Value} (h:w.cell? ⟨g,o,none⟩=some v) (hne:g≠b):(stoW w (.pointer (some ⟨b,0,none⟩)) (.agg cs)).cell? ⟨g,o,none⟩=some v:=(cell_setRow_other w b cs ⟨g,o,none⟩ hne).trans h
theorem zk5 {B:Nat} {w0 w:World} {b:Nat} {cs:Array Value} (h:Below B w0 w) (hb:B<=b):Below B w0 (stoW w (.pointer (some ⟨b,0,none⟩)) (.agg cs)):=below_setRow h hb cs
def stoM (w:World) (p v:Value):World:=match p,v with
 | .pointer (some a),.agg cs=>w.setCells a.block a.off cs.toList
 | _,_=>w
def StoM (ty:TypeId) (w:World) (p v:Value):Prop:=(Instr.storeAt ty p v).run Tryd.prog w = .ok () (stoM w p v)
theorem yb4 {ty:TypeId} {w:World} {b o:Nat} {cs:Array Value} (ht:w.there b o cs.size) (hi:(Tryd.prog.info? ty).map (·.size)=some cs.size) (h1:cs.all (·.oneCell')=true):StoM ty w (.pointer (some ⟨b,o,none⟩)) (.agg cs):=run_storeAt_mid w b o ty cs ht hi h1
theorem zyf {ρ:Operand->Value} {dst:Option Tmp} {x y:Operand} {t ty:TypeId} {pos:String} {after:Array Edge} {guard:Option (Nat×Bool)} {w:World} (h:StoM t w (ρ x) (ρ y)):
 Sem.run Tryd.prog (execOp ρ {dst:=dst,op := .store t x y,type:=ty,pos:=pos,after:=after,guard:=guard}) w = .ok .skip (stoM w (ρ x) (ρ y)):=by
 unfold StoM at h;unfold execOp;simp only[Sem.run_bind,Sem.run_pure,Result.andThen_ok,h]
def resV:Result Value->Value
 | .ok r _=>r
 | _=>undef
def resW (w:World):Result Value->World
 | .ok _ r=>r
 | _=>w
noncomputable def appV (t ty:TypeId) (w:World) (v s:Value):Value:=resV ((Builtin.append_ #[t,t] ty #[v,s]).run Tryd.prog w)
noncomputable def appW (t ty:TypeId) (w:World) (v s:Value):World:=resW w ((Builtin.append_ #[t,t] ty #[v,s]).run Tryd.prog w)
def App (t ty:TypeId) (w:World) (v s:Value):Prop:=(Builtin.append_ #[t,t] ty #[v,s]).run Tryd.prog w = .ok (appV t ty w v s) (appW t ty w v s)
theorem zic {t ty:TypeId} {w w':World} {v s v':Value} (h:(Builtin.append_ #[t,t] ty #[v,s]).run Tryd.prog w = .ok v' w'):App t ty w v s∧appV t ty w v s=v'∧appW t ty w v s=w':=by
 unfold App appV appW;rw[h];exact⟨rfl,rfl,rfl⟩
theorem zgq {ρ:Operand->Value} {dst:Option Tmp} {s x:Operand} {t ty:TypeId} {pos:String} {after:Array Edge} {guard:Option (Nat×Bool)} {w:World} (h:App t ty w (ρ s) (ρ x)):
 Sem.run Tryd.prog (execOp ρ {dst:=dst,op := .call {callee := .builtin .append,args:=#[s,x],argTypes:=#[t,t]},type:=ty,pos:=pos,after:=after,guard:=guard}) w = .ok (.value (appV t ty w (ρ s) (ρ x))) (appW t ty w (ρ s) (ρ x)):=by
 unfold App at h;unfold execOp;simp only[resolve,invoke,builtin,Sem.run_bind,Sem.run_pure,Result.andThen_ok,ygz,ygo,yh0,h]
section
attribute [local go_sem ↓] Go.wp_at_zero Go.wp_at_succ
def zem (R:RSt) (x:Nat×Nat) (o:Nat×Nat):Nat×Nat:=match R.places[x.1]? with
 | some q=>if q.last=true then (if q.luhn=true then (o.1,o.2 ||| x.2) else (o.1 ||| x.2,o.2)) else o
 | none=>o
def zbb (R:RSt):List (Nat×Nat)->Nat×Nat->Nat×Nat
 | [],o=>o
 | x::l,o=>zbb R l (zem R x o)
def Fits (R:RSt) (st:List (Nat×Nat)):Prop:=∀ x∈st,x.1<R.places.length∧x.2<2 ^ 64
theorem zvd (R:RSt) (st:List (Nat×Nat)) (k:Nat) (h:k<st.length) (o:Nat×Nat):zbb R (st.drop k) o=zbb R (st.drop (k+1)) (zem R (st[k]'h) o):=by
 rw[yge h,zbb]
theorem zhg {B:Nat} {w w':World} (h:Below B w w') (n:Nat):Below B w (w'.drewN n):=⟨h.os,h.tape,h.output,h.size,h.block⟩
def BoxO (w:World) (g:Nat) (a b:Value):Prop:=w.heap[g]?=some (.cells #[a,b] 49 (0,0))
section
variable {w w':World} {g:Nat} {a b v:Value}
theorem BoxO.new (w:World) (a b:Value) (g:Nat) (h:w.heap.size=g):BoxO (w.alloc (.cells #[a,b] 49)) g a b:=by
 subst h;exact heap_alloc_new w _
theorem BoxO.cell (h:BoxO w g a b):w.cell? ⟨g,0,none⟩=some a∧w.cell? ⟨g,1,none⟩=some b:=by
 unfold BoxO at h;constructor <;> exact cell_of_row w g _ _ 49 (0,0) h
theorem BoxO.frozen (h:BoxO w g a b):w.frozen? ⟨g,0,none⟩=false∧w.frozen? ⟨g,1,none⟩=false:=by
 unfold BoxO at h;constructor <;> simp[World.frozen?,h]
theorem BoxO.lt (h:BoxO w g a b):g<w.heap.size:=za0 h
theorem BoxO.alloc (h:BoxO w g a b) (o:Obj):BoxO (w.alloc o) g a b:=(yfo w o g h.lt).trans h
theorem BoxO.put0 (h:BoxO w g a b) (v:Value):BoxO (w.setCell ⟨g,0,none⟩ v) g v b:=by
 unfold BoxO at h ⊢;rw[heap_setCell_same w g 0 _ _ v h];rfl
theorem BoxO.put1 (h:BoxO w g a b) (v:Value):BoxO (w.setCell ⟨g,1,none⟩ v) g a v:=by
 unfold BoxO at h ⊢;rw[heap_setCell_same w g 1 _ _ v h];rfl
theorem BoxO.far (h:BoxO w g a b) {ad:Addr} (ha:g≠ad.block) (u:Value):BoxO (w.setCell ad u) g a b:=(yf9 w ad u g ha).trans h
end
theorem ydp {w:World} {gr D:Nat} {R:RSt} {va:Value} {st:List (Nat×Nat)} (hR:RulesIn w gr R) (ha:Wds w D va st) (hf:Fits R st) (hl:st.length<=100000) (hP:R.places.length<=100000):
 Calls Tryd.prog 26 #[.pointer (some ⟨gr,0,none⟩),va] w fun e w'=>e = .returned (.agg #[.int .u64 (zbb R st (0,0)).1,.int .u64 (zbb R st (0,0)).2])∧Below w.heap.size w w':=by
 obtain⟨A,c,rfl⟩:=ha.form;have HR:=Zh hR;have HA:=Zh ha;have HF:=Zh hf;obtain⟨L,hL⟩:∃ L,st.length=L:=⟨_,rfl⟩;rw[hL] at HA hl ⊢;have HL:=Zh hL;clear hR ha hf hL;go_enter Tryd.func26,Tryd.ntmps26;go_wp2;go_loopg [11] L (fun m i wr=>∃ (k a b:Nat),i = .int .i64 (k:Int)∧k<=L∧m=L-k∧a<18446744073709551616∧b<18446744073709551616∧zbb R (st.drop k) (a,b)=zbb R st (0,0)∧BoxO wr w.heap.size (.int .u64 0) (.int .u64 0)∧BoxO wr (w.heap.size+1) (.int .u64 a) (.int .u64 b)∧Below w.heap.size w wr)
 case atStart=>exact⟨0,0,0,rfl,yf8 _,rfl,by omega,by omega,rfl,(BoxO.new w _ _ _ rfl).alloc _,BoxO.new _ _ _ _ yii,((yf6 _ _).alloc (yez _) _).alloc yii _⟩
 case round =>
  obtain⟨k,a,b,rfl,hk,hmk,ha64,hb64,ho,bR,bO,hW⟩:=hrel;have HMK:=Zh hmk;have HO:=Zh ho;have BR:=Zh bR;have BO:=Zh bO;have HW:=Zh hW;have hl0:=bR.lt;have hl1:=bO.lt;obtain⟨o0,o1⟩:=bO.cell;obtain⟨f0,f1⟩:=bO.frozen;clear hmk ho bR bO hW
  by_cases hkL:k<L
  .have hks:k<st.length:=(by rw[HL.o];exact hkL);obtain⟨x,hx⟩:∃ x,st[k]?=some x:=⟨_,yey hks⟩;obtain⟨g,cc,e1,_,hg,h0,h1⟩:=(HA.o.stays HW.o).at hx;rw[HL.o] at e1;simp only[Value.slice.injEq] at e1;obtain⟨rfl,-,rfl⟩:=e1;have hgx:st[k]'hks=x:=yiv;obtain⟨x1,x2⟩:=x;have hfx:=HF.o (x1,x2) (by rw[←hgx];exact yfq hks);obtain⟨p,hp⟩:∃ p,R.places[x1]?=some p:=⟨_,yey hfx.1⟩;obtain⟨gp,cp,v,r0,hpc,-,hgp,-⟩:=(HR.o.stays HW.o).at hp;have hst:=zvd R st k hks (a,b);have hx264:x2<18446744073709551616:=hfx.2;rw[hgx,HO.o] at hst;have hos:zem R (x1,x2) (a,b)=if p.last=true then (if p.luhn=true then (a,b ||| x2) else (a ||| x2,b)) else (a,b):=by unfold zem;rw[hp]
   rw[hos] at hst;have hc6:=hpc 6 _ rfl;have hc7:=hpc 7 _ rfl;have hgr:gr<wr.heap.size:=(by obtain⟨_,_,_,h1,_⟩:=HR.o.stays HW.o;exact za0 h1);obtain⟨P,hP'⟩:∃ P,R.places.length=P:=⟨_,rfl⟩;have hxP:(x1:Int)<(P:Int):=(by have:=hfx.1;omega);rw[hP'] at r0;have i0:(0:Int)<=(x1:Int):=yie;have k0:(0:Int)<=(k:Int):=yie;have k1:(k:Int)<(L:Int):=yie;have hb1:=bits_or_u64_nat a x2 ha64 hx264;have hb2:=bits_or_u64_nat b x2 hb64 hx264;have HST:=Zh hst;simp only at h0 h1;clear hst hos hpc hp hgx hfx hx hks HO;cases hlast:p.last <;> cases hluhn:p.luhn <;> rw[hlast,hluhn] at HST <;> rw[hlast] at hc6 <;> rw[hluhn] at hc7
   all_goals
    go_wp2;go_quiet (fail);go_wp2;go_roundg (L-(k+1))
    case measure=>have:=HMK.o;omega
    case rel =>
     have hs:=HST.o;simp only[if_true,if_false,ygy] at hs;have ho1:a ||| x2<18446744073709551616:=yhy (n:=64) ha64 hx264;have ho2:b ||| x2<18446744073709551616:=yhy (n:=64) hb64 hx264
     first
      | exact⟨k+1,a,b,by go_num,by omega,rfl,ha64,hb64,hs.symm,BR.o.alloc _,BO.o.alloc _,zhg (HW.o.alloc HW.o.size _) _⟩
      | exact⟨k+1,a ||| x2,b,by go_num,by omega,rfl,ho1,hb64,hs.symm,BoxO.far (w:=(wr.alloc _).drewN _) (BR.o.alloc _) (ad:=⟨w.heap.size+1,0,none⟩) (by show w.heap.size≠w.heap.size+1;omega) _,BoxO.put0 (w:=(wr.alloc _).drewN _) (BO.o.alloc _) _,(zhg (HW.o.alloc HW.o.size _) _).setCell (p:=⟨w.heap.size+1,0,none⟩) (by show w.heap.size<=w.heap.size+1;omega) _⟩
      | exact⟨k+1,a,b ||| x2,by go_num,by omega,rfl,ha64,ho2,hs.symm,BoxO.far (w:=(wr.alloc _).drewN _) (BR.o.alloc _) (ad:=⟨w.heap.size+1,1,none⟩) (by show w.heap.size≠w.heap.size+1;omega) _,BoxO.put1 (w:=(wr.alloc _).drewN _) (BO.o.alloc _) _,(zhg (HW.o.alloc HW.o.size _) _).setCell (p:=⟨w.heap.size+1,1,none⟩) (by show w.heap.size<=w.heap.size+1;omega) _⟩
  .have hkl:k=st.length:=yj2;have ho:=HO.o;rw[hkl,List.drop_length,zbb] at ho;have HOO:=Zh ho;obtain⟨q0,q1⟩:=BR.o.cell;obtain⟨f2,f3⟩:=BR.o.frozen;clear ho hkl;go_wp2;have bF:=(BR.o.put0 (.int .u64 (a:Int))).put1 (.int .u64 (b:Int));obtain⟨y0,y1⟩:=bF.cell;refine bodyPost_ret (v := .agg #[.int .u64 (a:Int),.int .u64 (b:Int)]) ?_ rfl ⟨by rw[←HOO.o],(HW.o.setCell (p:=⟨w.heap.size,0,none⟩) (yez _) _).setCell (p:=⟨w.heap.size,1,none⟩) (yez _) _⟩;simp[results,Tryd.results26,go_sem,y0,y1]
end
section
attribute [local go_sem ↓] Go.wp_at_zero Go.wp_at_succ
theorem ydr (p:Nat->Bool) (b:Int) (w:World) (g o:Nat) (hc:∀ q,q<4->w.cell? ⟨g,o+q,none⟩=some (.int .u64 (word p q))) (hb:0<=b) (hb':b<=255):
 Calls Tryd.prog 43 #[.pointer (some ⟨g,o,none⟩),.int .u8 b] w fun e w'=>e = .returned (.bool (p b.toNat))∧Below w.heap.size w w':=by
 have hq:(b / 64).toNat<4:=yie;have hv:=hc (b / 64).toNat hq;have H:=zmx p b hb hb';rw[←H];clear H;have i0:(0:Int)<=b / 64:=yie;have i1:b / 64<4:=yie;go_enter Tryd.func43,Tryd.ntmps43;go_wp2;go_ret;exact⟨rfl,yf6 _ _⟩
end
section
attribute [local go_sem ↓] Go.wp_at_zero Go.wp_at_succ
theorem Tryd.infoWords:(Tryd.prog.info? 124).map (fun i=>(i.zero,i.size,i.bytes))=some (some (.agg #[.int .i64 0,.int .u64 0]),2,16):=by kernel_rfl
def zgf (R:RSt) (b:Nat) (x:Nat×Nat):Bool:=match R.places[x.1]? with
 | some p=>p.set b
 | none=>false
theorem Wds.nil (w:World) (B:Nat):Wds w B (.slice none 0 0) []:=yfx w B _ 2
theorem Wds.cut {w:World} {B n c:Nat} {A:Option Addr} {l:List (Nat×Nat)} (h:Wds w B (.slice A n c) l):Wds w B (.slice A 0 c) []:=by
 rcases h.2 with ⟨e,h0⟩|⟨g,cap,cur,e,hB,hg,hnc,hcm,hcs,_⟩
 .injection e with e1 e2 e3
  subst e1 e3;exact Wds.nil _ _
 .injection e with e1 e2 e3
  subst e1 e3;exact⟨rfl,.inr ⟨g,c,cur,rfl,hB,hg,yf8 _,hcm,hcs,by simp[wdsC]⟩⟩
theorem zxy {w:World} {B:Nat} {v:Value} {l:List (Nat×Nat)} (h:Wds w B v l) (hB:B<=w.heap.size) (hl:l.length<=100000) (x:Nat×Nat) (ty:TypeId) (ad:Addr) (c:Nat)
 (hc:∀ (j:Nat) u,[Value.int .i64 x.1,.int .u64 x.2][j]?=some u->w.cell? (ad.add j)=some u):
 ∃ v' w',(Builtin.append_ #[88,88] ty #[v,.slice (some ad) 1 c]).run Tryd.prog w = .ok v' w'∧Wds w' B v' (l++[x])∧w.grownBy w' v.ownBlock∧(v'.ownBlock=v.ownBlock∨v'.ownBlock=some w.heap.size):=by
 obtain⟨i0,hi,hz0,hz1,hz2⟩:=info_parts Tryd.infoWords;obtain⟨v',w',hr,h4,h5,_,h6⟩:=run_append_own_at (P:=Tryd.prog) w B 88 ty 124 i0 _ 2 16 Tryd.underlying88 hi hz0 hz1 hz2 rfl yij v l.length (wdsC l) h ad 1 c [.int .i64 x.1,.int .u64 x.2] rfl hc
  (by
    intro u hu;simp at hu;rcases hu with rfl|rfl
    all_goals rfl) yin yie hB
 refine⟨v',w',hr,?_,h5,h6⟩;unfold Wds;rw[←zuf]
 simpa using h4
theorem zkl {w:World} {ops:Array Oper} {rest:List Oper} {o:Oper} {a:Act} {Q:Exit->Act->World->Prop} (hgd:o.guard=none) (s x:Operand)
 (ho:o.op = .call {callee := .builtin .append,args:=#[s,x],argTypes:=#[88,88]})
 {B:Nat} {v:Value} {l:List (Nat×Nat)} (hs:a.eval s=v) (h:Wds w B v l) (hB:B<=w.heap.size) (hl:l.length<=100000) (y:Nat×Nat)
 (ad:Addr) (c:Nat) (hx:a.eval x = .slice (some ad) 1 c) (hc:∀ (j:Nat) u,[Value.int .i64 y.1,.int .u64 y.2][j]?=some u->w.cell? (ad.add j)=some u)
 (hk:∀ v' w',Wds w' B v' (l++[y])->w.grownBy w' v.ownBlock->(v'.ownBlock=v.ownBlock∨v'.ownBlock=some w.heap.size)->wpList Tryd.prog ops Q rest (a.put o.dst v') w'):wpList Tryd.prog ops Q (o::rest) a w:=by
 obtain⟨v',w',hr,h2,h3,h4⟩:=zxy h hB hl y o.type ad c hc;refine wpList_plain hgd fun _ hK=>?_
 unfold Oper.wp execOp;simp only[ho,resolve,invoke,builtin,Sem.run_bind,Sem.run_pure,Result.andThen_ok,ygz,ygo,yh0,hs,hx,hr];exact hK _ _ (hk v' w' h2 h3 h4)
theorem znf (w:World) (x y:Nat):∀ (j:Nat) u,[Value.int .i64 x,.int .u64 y][j]?=some u->(w.alloc (.cells #[.int .i64 (x:Int),.int .u64 (y:Int)] 124)).cell? ((⟨w.heap.size,0,none⟩:Addr).add j)=some u:=by
 intro j u hu;rw[Addr.add_lit,yg5,cell_of_row _ _ j _ 124 (0,0) (heap_alloc_new w _)]
 simpa using hu
theorem yeo {w:World} {gr D B:Nat} {R:RSt} {va vr:Value} {st l0:List (Nat×Nat)} {b:Int} (hR:RulesIn w gr R) (ha:Wds w D va st) (hr:Wds w B vr l0) (hap:∀ x,va.ownBlock=some x->vr.ownBlock≠some x) (hB:B<=w.heap.size)
 (hf:Fits R st) (hl:st.length<=100000) (hP:R.places.length<=100000) (hb:0<=b) (hb':b<=255):
 Calls Tryd.prog 25 #[.pointer (some ⟨gr,0,none⟩),va,.int .u8 b,vr] w fun e w'=>∃ v',e = .returned v'∧Wds w' B v' (st.filter (zgf R b.toNat))∧Kept (fun x=>vr.ownBlock=some x) w w'∧∀ x,v'.ownBlock=some x->vr.ownBlock=some x∨w.heap.size<=x:=by
 obtain⟨A,c,rfl⟩:=ha.form;obtain⟨Ar,cr,rfl⟩:=hr.form;have HR:=Zh hR;have HA:=Zh ha;have HF:=Zh hf;have HRM:=Zh hr.cut;have HAP:=Zh hap;have hcut:(Value.slice Ar 0 cr).ownBlock=(Value.slice Ar l0.length cr).ownBlock:=by cases Ar <;> rfl
 have HCUT:=Zh hcut;obtain⟨L,hL⟩:∃ L,st.length=L:=⟨_,rfl⟩;rw[hL] at HA hl HAP ⊢;have HL:=Zh hL;clear hR ha hf hL hr hap hcut;go_enter Tryd.func25,Tryd.ntmps25;go_wp2;go_loopg [3,15] L (fun m v i wr=>∃ k:Nat,i = .int .i64 (k:Int)∧k<=L∧m=L-k∧Wds wr B v ((st.take k).filter (zgf R b.toNat))∧Kept (fun x=>(Value.slice Ar l0.length cr).ownBlock=some x) w wr∧∀ x,v.ownBlock=some x->(Value.slice Ar l0.length cr).ownBlock=some x∨w.heap.size<=x)
 case atStart=>exact⟨0,by first | rfl | trivial,yf8 _,rfl,by simpa using HRM.o,Kept.refl _ _,fun x e => .inl (by rw[←HCUT.o];exact e)⟩
 case round =>
  obtain⟨k,rfl,hk,hmk,hwd,hkp,hown⟩:=hrel;have HMK:=Zh hmk;have HWD:=Zh hwd;have HKP:=Zh hkp;have HOWN:=Zh hown;obtain⟨Av,cv,hfv⟩:=hwd.form;subst hfv;clear hmk hwd hkp hown
  by_cases hkL:k<L
  .have hks:k<st.length:=(by rw[HL.o];exact hkL);obtain⟨x,hx⟩:∃ x,st[k]?=some x:=⟨_,yey hks⟩;have hRw:RulesIn wr gr R:=HR.o.kept HKP.o fun x q _=>by
    obtain⟨cur,hc⟩:=HRM.o.kind (b:=x) (by rw[HCUT.o];exact q);exact⟨_,_,hc,by decide,by decide,by decide⟩
   have hAw:=HA.o.off HKP.o fun x e q=>HAP.o x e q
   obtain⟨g,cc,e1,_,hg,h0,h1⟩:=hAw.at hx;rw[HL.o] at e1;simp only[Value.slice.injEq] at e1;obtain⟨rfl,-,rfl⟩:=e1;have hgx:st[k]'hks=x:=yiv;obtain⟨x1,x2⟩:=x;have hfx:=HF.o (x1,x2) (by rw[←hgx];exact yfq hks);obtain⟨p,hp⟩:∃ p,R.places[x1]?=some p:=⟨_,yey hfx.1⟩;obtain⟨gp,cp,v,r0,hpc,-,hgp,-⟩:=hRw.at hp;have hha:zgf R b.toNat (x1,x2)=p.set b.toNat:=(by unfold zgf;rw[hp]);have htk:(st.take (k+1)).filter (zgf R b.toNat)=(st.take k).filter (zgf R b.toNat)++(if p.set b.toNat=true then [(x1,x2)] else []):=by
    rw[yfg hks,yh7,hgx];cases hs:p.set b.toNat
    .rw[List.filter_cons_of_neg (by rw[hha,hs];decide)];simp
    .rw[List.filter_cons_of_pos (by rw[hha,hs])];simp
   have hll:((st.take k).filter (zgf R b.toNat)).length<=100000:=by
    have:=yhg (zgf R b.toNat) (st.take k);rw[yg8] at this;omega
   have hgr:gr<wr.heap.size:=(by obtain⟨_,_,_,h1,_⟩:=hRw;exact za0 h1);obtain⟨P,hP'⟩:∃ P,R.places.length=P:=⟨_,rfl⟩;have hxP:(x1:Int)<(P:Int):=(by have:=hfx.1;omega);rw[hP'] at r0;have i0:(0:Int)<=(x1:Int):=yie;have k0:(0:Int)<=(k:Int):=yie;have k1:(k:Int)<(L:Int):=yie;have hbw:B<=wr.heap.size:=yfa hB HKP.o.size;have HH:=Zh (fun (W:World) (hb2:Below wr.heap.size wr W)=>ydr p.set b W gp (x1*8) (fun q hq=>(hb2.cell (p:=⟨gp,x1*8+q,none⟩) hgp).trans (hpc q _ (by match q,hq with | 0,_=>rfl | 1,_=>rfl | 2,_=>rfl | 3,_=>rfl))) hb hb');have HTK:=Zh htk;obtain⟨bb,hbb⟩:∃ bb,p.set b.toNat=bb:=⟨_,rfl⟩;rw[hbb] at HH HTK;simp only at h0 h1;clear hRw hAw htk hha hp hgx hfx hx hks hpc hbb;have hal:Below wr.heap.size wr (wr.alloc (.cells #[.int .i64 (x1:Int),.int .u64 (x2:Int)] 124)):=(yf6 _ _).alloc (yez _) _;have n0:(wr.alloc (.cells #[.int .i64 (x1:Int),.int .u64 (x2:Int)] 124)).cell? ⟨wr.heap.size,0,none⟩=some (.int .i64 (x1:Int)):=cell_of_row _ _ 0 _ _ (0,0) (heap_alloc_new wr _);have n1:(wr.alloc (.cells #[.int .i64 (x1:Int),.int .u64 (x2:Int)] 124)).cell? ⟨wr.heap.size,1,none⟩=some (.int .u64 (x2:Int)):=cell_of_row _ _ 1 _ _ (0,0) (heap_alloc_new wr _);have r0':=(hal.cell (p:=⟨gr,0,none⟩) hgr).trans r0;have HAL:=Zh hal;have HN0:=Zh n0;have HN1:=Zh n1;go_wp2;clear hal;generalize wr.alloc (.cells #[.int .i64 (x1:Int),.int .u64 (x2:Int)] 124)=w1 at *;go_still_tail 9,yih;change wpList _ _ _ _ _ (World.drew _);cases bb
   all_goals
    go_wp2_with (first
     | (go_at_call 43;(refine (HH.o w1.drew HAL.o.drew).mono ?_);rintro e w5 ⟨rfl,hb5⟩;have h5:Below wr.heap.size wr w5:=gro HAL.o (zez hb5);have m0:w5.cell? ⟨wr.heap.size,0,none⟩=some (.int .i64 (x1:Int)):=za4 HN0.o (zez hb5);have m1:w5.cell? ⟨wr.heap.size,1,none⟩=some (.int .u64 (x2:Int)):=za4 HN1.o (zez hb5);have H5:=Zh h5;have HW5:=Zh (HWD.o.stays h5);have hs5:=h5.size;clear hb5 h5)
     | (at_builtin;refine zkl yik _ _ yik yik (HW5.o.stays ((yf6 _ _).alloc (yez _) _)) yil hll (x1,x2) ⟨w5.heap.size,0,none⟩ 1 yik (znf w5 x1 x2) ?_;intro v6 w6 i6 g6 o6;have I6:=Zh i6;have G6:=Zh g6;have O6:=Zh o6;clear i6 g6 o6)
     | fail)
   .go_roundg (L-(k+1))
    case measure=>have:=HMK.o;omega
    case rel =>
     have ht:=HTK.o;rw[if_neg yij,ygm] at ht;exact⟨k+1,by go_num,by omega,rfl,by rw[ht];exact HW5.o,HKP.o.trans (Kept.of_below (fun _=>False) H5.o) fun x q=>q.elim,HOWN.o⟩
   .go_roundg (L-(k+1))
    case measure=>have:=HMK.o;omega
    case rel =>
     have ht:=HTK.o;simp only[if_true] at ht;have hk6:=((HKP.o.trans (Kept.of_below (fun _=>False) H5.o) fun x q=>q.elim).alloc (.cells #[.int .i64 (x1:Int),.int .u64 (x2:Int)] 124)).grown G6.o HOWN.o;refine⟨k+1,by go_num,by omega,rfl,by rw[ht];exact I6.o,hk6,fun x e=>?_⟩;rcases O6.o with h|h
     .exact HOWN.o x (h.symm.trans e)
     .rw[e] at h;injection h with h
      have:=HKP.o.size;rw[yfe] at h;exact .inr yie
  .have hkl:k=st.length:=yj2;have hw:=HWD.o;have ho:=HOWN.o;rw[hkl,yfy] at hw ho ⊢;have HW:=Zh hw;have HO:=Zh ho;clear hw ho HWD HOWN;go_wp2;go_ret;exact⟨_,rfl,HW.o,HKP.o,HO.o⟩
end
section
def arrV (n:Nat) (F:Nat->Nat):Array Value:=((List.range n).map fun j=>Value.int .i64 (F j:Int)).toArray
theorem zb9 (n:Nat) (F:Nat->Nat):(arrV n F).size=n:=by simp[arrV]
theorem zhh (n:Nat) (F:Nat->Nat) (j:Nat) (h:j<n):(arrV n F)[j]?=some (.int .i64 (F j:Int)):=by simp[arrV,h]
theorem zu5 {n:Nat} {F G:Nat->Nat} (h:∀ j,j<n->F j=G j):arrV n F=arrV n G:=by
 unfold arrV
 congr 1
 exact yhb fun j hj=>by rw[h j (yfz.1 hj)]
theorem yad (n:Nat) (F:Nat->Nat) (j v:Nat) (h:j<n):(arrV n F).setIfInBounds j (.int .i64 (v:Int))=arrV n (fun i=>if i=j then v else F i):=by
 apply Array.ext
 .simp[arrV]
 .intro i h1 h2;have hi:i<n:=(by simpa [arrV] using h2);rw[Array.getElem_setIfInBounds]
  .by_cases e:j=i
   .subst e;simp[arrV]
   .have:¬ i=j:=fun x=>e x.symm
    simp[arrV,e,this]
  .simpa [arrV] using hi
theorem zn7 (n:Nat) (F:Nat->Nat):∀ v∈(arrV n F).toList,v.oneCell'=true:=by
 intro v hv;simp only[arrV,yg6] at hv;obtain⟨j,_,rfl⟩:=hv;rfl
def BoxN (w:World) (g t n:Nat) (F:Nat->Nat):Prop:=w.heap[g]?=some (.cells (arrV n F) t (0,0))
section
variable {w w':World} {g B t n:Nat} {F G:Nat->Nat}
theorem BoxN.cell (h:BoxN w g t n F) (j:Nat) (hj:j<n):w.cell? ⟨g,j,none⟩=some (.int .i64 (F j:Int)):=by
 rw[cell_of_row w g j _ t (0,0) h];exact zhh n F j hj
theorem BoxN.frozen (h:BoxN w g t n F) (j:Nat):w.frozen? ⟨g,j,none⟩=false:=by
 unfold BoxN at h;simp[World.frozen?,h]
theorem BoxN.lt (h:BoxN w g t n F):g<w.heap.size:=za0 h
theorem BoxN.below (h:BoxN w g t n F) (hb:Below B w w') (hg:g<B):BoxN w' g t n F:=(hb.block g hg).trans h
theorem BoxN.stays (h:BoxN w g t n F) (hb:Below w.heap.size w w'):BoxN w' g t n F:=h.below hb h.lt
theorem BoxN.alloc (h:BoxN w g t n F) (o:Obj):BoxN (w.alloc o) g t n F:=(yfo w o g h.lt).trans h
theorem BoxN.far (h:BoxN w g t n F) {a:Addr} (ha:g≠a.block) (u:Value):BoxN (w.setCell a u) g t n F:=(yf9 w a u g ha).trans h
theorem BoxN.row (h:BoxN w g t n F) {g':Nat} (ha:g≠g') (A:Array Value):BoxN (w.setRow g' A) g t n F:=(setRow_other w g' g A ha).trans h
theorem BoxN.new (w:World) (t n:Nat) (F:Nat->Nat):BoxN (w.alloc (.cells (arrV n F) t)) w.heap.size t n F:=heap_alloc_new w _
theorem BoxN.congr (h:BoxN w g t n F) (hq:∀ j,j<n->F j=G j):BoxN w g t n G:=by
 unfold BoxN at h ⊢
 rwa [←zu5 hq]
theorem BoxN.put (h:BoxN w g t n F) (G:Nat->Nat):BoxN (w.setRow g (arrV n G)) g t n G:=setRow_heap w g _ _ t (0,0) h
theorem BoxN.set (h:BoxN w g t n F) (j v:Nat) (hj:j<n):BoxN (w.setCell ⟨g,j,none⟩ (.int .i64 (v:Int))) g t n (fun i=>if i=j then v else F i):=by
 rw[setCell_eq_setRow w g j _ t (0,0) _ h,yad n F j v hj];exact setRow_heap w g _ _ t (0,0) h
theorem below_setRow {a:World} (h:Below B a w) (hg:B<=g) (A:Array Value):Below B a (w.setRow g A):=
 ⟨h.os,h.tape,h.output,by rw[setRow_size];exact h.size,fun k hk=>(setRow_other w g k A yie).trans (h.block k hk)⟩
end
section
variable {w:World} {g n:Nat} {F G:Nat->Nat} {a:Act} {next:Act->World->Prop} {Q:Exit->Act->World->Prop} {d:Option Nat} {ty:TypeId} {pos:String} {aft:Array Edge} {gd:Option (Nat×Bool)}
theorem ybx (h:BoxN w g 34 256 F):(Instr.loadAt 34 (.pointer (some ⟨g,0,none⟩))).run Tryd.prog w = .ok (.agg (arrV 256 F)) w:=by
 have h1:(loadCells ⟨g,0,none⟩ 256).run Tryd.prog w = .ok (arrV 256 F) w:=run_loadCells w _ 256 (fun j => .int .i64 (F j:Int)) (fun j hj=>by rw[Addr.add_lit,yg5];exact h.cell j hj);have h2:(isAgg 34).run Tryd.prog w = .ok true w:=yih;have h3:(sizeOf 34).run Tryd.prog w = .ok 256 w:=yih;simp[Instr.loadAt,loadVar,Instr.sureAddr,Sem.run_bind,h1,h2,h3]
theorem ztj (h:BoxN w g 34 256 F):(loadVar 34 ⟨g,0,none⟩).run Tryd.prog w = .ok (.agg (arrV 256 F)) w:=by
 have h1:(loadCells ⟨g,0,none⟩ 256).run Tryd.prog w = .ok (arrV 256 F) w:=run_loadCells w _ 256 (fun j => .int .i64 (F j:Int)) (fun j hj=>by rw[Addr.add_lit,yg5];exact h.cell j hj);have h2:(isAgg 34).run Tryd.prog w = .ok true w:=yih;have h3:(sizeOf 34).run Tryd.prog w = .ok 256 w:=yih;simp[loadVar,Sem.run_bind,h1,h2,h3]
theorem zj4 {fn:Func} {tmps:Array Value} {x y:Nat} {v:Value} (hr:fn.results=#[.cell x 34,.tmp y]) (hx:tmps.getD x undef = .pointer (some ⟨g,0,none⟩)) (hy:tmps.getD y undef=v)
 (h:BoxN w g 34 256 F):(results fn tmps).run Tryd.prog w = .ok (.tuple #[.agg (arrV 256 F),v]) w:=by
 have e:(#[ResultVar.cell x 34,.tmp y]:Array ResultVar)=[ResultVar.cell x 34,.tmp y].toArray:=rfl;rw[ygj] at hx hy;unfold results;rw[hr,e];simp[Sem.run_bind,hx,hy,ztj h,asAddr]
theorem zy7 (h:BoxN w g 34 256 F):(Instr.storeAt 34 (.pointer (some ⟨g,0,none⟩)) (.agg (arrV 256 G))).run Tryd.prog w = .ok () (w.setRow g (arrV 256 G)):=by
 have h1:(storeCells ⟨g,0,none⟩ (arrV 256 G).toList 0).run Tryd.prog w = .ok () (w.setRow g ((arrV 256 F).toList.take 0++(arrV 256 G).toList).toArray):=
  run_storeCells_from g _ _ 0 _ w h (by simp[arrV]) (zn7 256 G)
 have h3:(sizeOf 34).run Tryd.prog w = .ok 256 w:=yih;have h4:(arrV 256 G).size=256:=zb9 _ _;rw[yhs,yhc,Array.toArray_toList] at h1;simp[Instr.storeAt,storeVar,Instr.sureAddr,Sem.run_bind,Value.cells,h1,h3,h4]
theorem zrt (w:World) (j:Nat) (hj:j<256):(Instr.index 34 (.agg (arrV 256 F)) (.int .i64 (j:Int))).run Tryd.prog w = .ok (.int .i64 (F j:Int)) w:=by
 have hu:(underlying 34).run Tryd.prog w = .ok (.array 256 3) w:=yih;have h3:(sizeOf 3).run Tryd.prog w = .ok 1 w:=yih;have h2:(isAgg 3).run Tryd.prog w = .ok false w:=yih;have h4:=zhh 256 F j hj;have h5:(0:Int)<=(j:Int)∧(j:Int)<((256:Nat):Int):=yie;simp only[Instr.index,asIntOf,part,Sem.run_bind,Sem.run_pure,Result.andThen_ok,hu,h3,h2,h5,and_self,if_true,yft,ygl];simp[h4]
theorem zsl {x:Operand} (hx:a.eval x = .pointer (some ⟨g,0,none⟩)) (h:BoxN w g 34 256 F) (hK:next (a.put d (.agg (arrV 256 F))) w):
 Oper.wp Tryd.prog ⟨d,.load 34 x,ty,pos,aft,gd⟩ a w next Q:=by
 have e:(execOp a.eval ⟨d,.load 34 x,ty,pos,aft,gd⟩).run Tryd.prog w = .ok (.value (.agg (arrV 256 F))) w:=by
  simp[execOp,hx,Sem.run_bind,ybx h]
 unfold Oper.wp;rw[e];exact hK
theorem zpe {x y:Operand} (hx:a.eval x = .pointer (some ⟨g,0,none⟩)) (hy:a.eval y = .agg (arrV 256 G)) (h:BoxN w g 34 256 F) (hK:next (a.put d undef) (w.setRow g (arrV 256 G))):
 Oper.wp Tryd.prog ⟨d,.store 34 x y,ty,pos,aft,gd⟩ a w next Q:=by
 have e:(execOp a.eval ⟨d,.store 34 x y,ty,pos,aft,gd⟩).run Tryd.prog w = .ok .skip (w.setRow g (arrV 256 G)):=by
  simp[execOp,hx,hy,Sem.run_bind,zy7 (G:=G) h]
 unfold Oper.wp;rw[e];exact hK
variable {ops:Array Oper} {QE:Exit->Act->World->Prop} {rest:List Oper}
theorem zbw {x:Operand} (hx:a.eval x = .pointer (some ⟨g,0,none⟩)) (h:BoxN w g 34 256 F) (hK:wpList Tryd.prog ops QE rest (a.put d (.agg (arrV 256 F))) w):
 wpList Tryd.prog ops QE (⟨d,.load 34 x,ty,pos,aft,none⟩::rest) a w:=
 wpList_plain rfl fun K hk=>zsl hx h (hk _ _ hK)
theorem zdd {x y:Operand} (hx:a.eval x = .pointer (some ⟨g,0,none⟩)) (hy:a.eval y = .agg (arrV 256 G)) (h:BoxN w g 34 256 F) (hK:wpList Tryd.prog ops QE rest (a.put d undef) (w.setRow g (arrV 256 G))):
 wpList Tryd.prog ops QE (⟨d,.store 34 x y,ty,pos,aft,none⟩::rest) a w:=
 wpList_plain rfl fun K hk=>zpe hx hy h (hk _ _ hK)
end
end
section
open Go
section
variable {K:Type} [DecidableEq K]
def zf1 (f:Nat->K) (b:Nat):Bool:=(List.range b).all fun c=>decide (f c≠f b)
def cntK (f:Nat->K):Nat->Nat
 | 0=>0
 | b+1=>cntK f b+if zf1 f b then 1 else 0
def fstK (f:Nat->K) (b:Nat):Nat:=((List.range b).find? fun c=>decide (f c=f b)).getD b
def numK (f:Nat->K) (b:Nat):Nat:=cntK f (fstK f b)
theorem zfd (f:Nat->K) (b:Nat):zf1 f b=true↔∀ c,c<b->f c≠f b:=by
 unfold zf1;simp
theorem zvj (f:Nat->K) (b:Nat):zf1 f b=false↔∃ c,c<b∧f c=f b:=by
 rw[←Bool.not_eq_true,zfd];simp
theorem zoz (f:Nat->K) {a b:Nat} (h:a<=b):cntK f a<=cntK f b:=by
 induction b with
 | zero =>
  have:a=0:=by omega
  subst this;exact yez _
 | succ b ih =>
  by_cases e:a=b+1
  .subst e;exact yez _
  .have:=ih yie;simp only[cntK];omega
theorem zqd (f:Nat->K) {a b:Nat} (h:a<b) (ha:zf1 f a=true):cntK f a<cntK f b:=by
 have:=zoz f (show a+1<=b from h);simp only[cntK,ha,if_true] at this;omega
theorem zgj (f:Nat->K) (b:Nat):cntK f b<=b:=by
 induction b with
 | zero=>exact yez _
 | succ b ih=>simp only[cntK];split <;> omega
theorem zha (f:Nat->K) (b:Nat):fstK f b<=b∧f (fstK f b)=f b∧zf1 f (fstK f b)=true:=by
 induction b using Nat.strongRecOn with
 | _ b ih =>
  unfold fstK;cases hf:(List.range b).find? (fun c=>decide (f c=f b)) with
  | none =>
   rw[List.find?_eq_none] at hf;refine⟨yez _,rfl,?_⟩;rw[Option.getD_none,zfd];intro c hc e;exact hf c (yfz.2 hc) (by simpa using e)
  | some c =>
   have hm:=List.mem_of_find?_eq_some hf;have hp:=List.find?_some hf;rw[yfz] at hm;simp at hp;rw[yi5];refine⟨by omega,hp,?_⟩;rw[zfd];intro d hd e;rw[List.find?_range_eq_some] at hf;exact absurd (e.trans hp) (by have:=hf.2.2 d hd;simpa using this)
theorem zs0 (f:Nat->K) {a b:Nat} (ha:zf1 f a=true) (hb:zf1 f b=true) (e:f a=f b):a=b:=by
 rw[zfd] at ha hb;rcases yhp a b with h|h|h
 .exact absurd e (hb a h)
 .exact h
 .exact absurd e.symm (ha b h)
theorem zws (f:Nat->K) {b:Nat} (h:zf1 f b=true):fstK f b=b:=by
 have:=zha f b;exact zs0 f this.2.2 h this.2.1
theorem zrb (f:Nat->K) {b:Nat} (h:zf1 f b=true):numK f b=cntK f b:=by
 unfold numK;rw[zws f h]
theorem zf7 (f:Nat->K) (a b:Nat):numK f a=numK f b↔f a=f b:=by
 obtain⟨_,ea,fa⟩:=zha f a;obtain⟨_,eb,fb⟩:=zha f b;unfold numK;constructor
 .intro h;rcases yhp (fstK f a) (fstK f b) with l|l|l
  .have:=zqd f l fa;omega
  .rw[←ea,←eb,l]
  .have:=zqd f l fb;omega
 .intro h;rw[zs0 f fa fb (by rw[ea,eb,h])]
theorem ybk (f:Nat->K) (b:Nat):numK f b<cntK f (b+1):=by
 obtain⟨h,_,fa⟩:=zha f b;exact zqd f yie fa
theorem zd7 (f:Nat->K) {b n:Nat} (h:b<n):numK f b<cntK f n:=yff (ybk f b) (zoz f h)
theorem zoy (f:Nat->K) (b:Nat):cntK f (b+1)=max (cntK f b) (numK f b+1):=by
 cases h:zf1 f b
 .obtain⟨c,hc,e⟩:=(zvj f b).1 h;have h1:=zd7 f hc;rw[(zf7 f c b).2 e] at h1;simp only[cntK,h];simp;omega
 .rw[zrb f h];simp only[cntK,h,if_true];omega
theorem ybl (f:Nat->K) (b:Nat):numK f b<=cntK f b:=by
 have:=zoy f b;have h2:cntK f (b+1)<=cntK f b+1:=by simp only[cntK];split <;> omega
 omega
end
def keyL (l:List (Nat->Bool)) (b:Nat):List Bool:=l.map fun p=>p b
theorem zok (l:List (Nat->Bool)) (i:Nat) (h:i<l.length) (b:Nat):keyL (l.take (i+1)) b=keyL (l.take i) b++[(l[i]'h) b]:=by
 unfold keyL;rw[yfg h,yfu];rfl
theorem yc9 (l:List (Nat->Bool)) (i:Nat) (h:i<l.length) (a b:Nat):keyL (l.take (i+1)) a=keyL (l.take (i+1)) b↔keyL (l.take i) a=keyL (l.take i) b∧(l[i]'h) a=(l[i]'h) b:=by
 rw[zok l i h,zok l i h];constructor
 .intro e;have:=List.append_inj' e rfl;exact⟨this.1,by simpa using this.2⟩
 .rintro⟨e1,e2⟩;rw[e1,e2]
def metK (f g:Nat->List Bool) (p:Nat->Bool) (j:Nat) (q:Bool) (c:Nat):Nat:=
 match (List.range j).find? fun b=>p b==q&&numK f b==c with
 | some b=>numK g b+1
 | none=>0
theorem zvr (f g:Nat->List Bool) (p:Nat->Bool) (q:Bool) (c:Nat):metK f g p 0 q c=0:=rfl
def zkd (f g:Nat->List Bool) (p:Nat->Bool):Prop:=∀ a b,g a=g b↔f a=f b∧p a=p b
theorem zvs {f g:Nat->List Bool} {p:Nat->Bool} (h:zkd f g p) (j:Nat):
 metK f g p j (p j) (numK f j)=if zf1 g j then 0 else numK g j+1:=by
 unfold metK;cases hf:(List.range j).find? (fun b=>p b==p j&&numK f b==numK f j) with
 | none =>
  rw[List.find?_eq_none] at hf;have:zf1 g j=true:=by
   rw[zfd];intro c hc e;have:=(h c j).1 e;exact hf c (yfz.2 hc) (by simp[this.2,(zf7 f c j).2 this.1])
  simp[this]
 | some b =>
  have hm:=List.mem_of_find?_eq_some hf;have hp:=List.find?_some hf;rw[yfz] at hm;simp at hp;have hg:g b=g j:=(h b j).2 ⟨(zf7 f b j).1 hp.2,hp.1⟩;have:zf1 g j=false:=(zvj g j).2 ⟨b,hm,hg⟩;simp[this,(zf7 g b j).2 hg]
theorem zoe {f g:Nat->List Bool} {p:Nat->Bool} (h:zkd f g p) (j:Nat) (q:Bool) (c:Nat):
 metK f g p (j+1) q c=if q=p j∧c=numK f j then numK g j+1 else metK f g p j q c:=by
 by_cases hq:q=p j∧c=numK f j
 .obtain⟨rfl,rfl⟩:=hq;rw[if_pos ⟨rfl,rfl⟩];unfold metK;rw[ygh,List.find?_append];cases hf:(List.range j).find? (fun b=>p b==p j&&numK f b==numK f j) with
  | none=>simp
  | some b =>
   have hp:=List.find?_some hf;simp at hp;simp[(zf7 g b j).2 ((h b j).2 ⟨(zf7 f b j).1 hp.2,hp.1⟩)]
 .rw[if_neg hq];unfold metK;rw[ygh,List.find?_append];have:(List.find? (fun b=>p b==q&&numK f b==c) [j])=none:=by
   simp;intro e e2;exact hq ⟨e.symm,e2.symm⟩
  rw[this,Option.or_none]
end
section
attribute [local go_sem ↓] Go.wp_at_zero Go.wp_at_succ
theorem ycb (p:Nat->Bool) (b:Int) (w:World) (hb:0<=b) (hb':b<=255):
 Calls Tryd.prog 58 #[.agg #[.int .u64 (word p 0),.int .u64 (word p 1),.int .u64 (word p 2),.int .u64 (word p 3)],.int .u8 b] w fun e w'=>e = .returned (.bool (p b.toNat))∧Below w.heap.size w w':=by
 have hv:=zql p b hb hb';have H:=zmx p b hb hb';rw[←H];clear H;go_enter Tryd.func58,Tryd.ntmps58;go_wp2;go_ret;exact⟨rfl,(yf6 _ _).alloc (yez _) _⟩
end
section
attribute [local go_sem ↓] Go.wp_at_zero Go.wp_at_succ
def metA (f g:Nat->List Bool) (p:Nat->Bool) (j:Nat) (i:Nat):Nat:=if i<256 then metK f g p j false i else metK f g p j true (i-256)
theorem ybr (f g:Nat->List Bool) (p:Nat->Bool) (j c:Nat) (b:Bool) (hc:c<256):metA f g p j (if b then 256+c else c)=metK f g p j b c:=by
 cases b
 .simp[metA,hc]
 .have h:¬ 256+c<256:=yie;simp[metA,h]
theorem zvt {f g:Nat->List Bool} {p:Nat->Bool} (h:zkd f g p) (j:Nat) (hc:numK f j<256) (i:Nat):
 (if i=(if p j then 256+numK f j else numK f j) then numK g j+1 else metA f g p j i)=metA f g p (j+1) i:=by
 unfold metA;rw[zoe h,zoe h];cases hp:p j
 .by_cases hi2:i<256
  .by_cases e:i=numK f j <;> simp[hi2,e,hc]
  .have:¬ i=numK f j:=by omega
   simp[hi2,this]
 .by_cases hi2:i<256
  .have:¬ i=256+numK f j:=by omega
   simp[hi2,this]
  .by_cases e:i=256+numK f j
   .subst e;simp[hi2]
   .have:¬ i-256=numK f j:=by omega
    simp[hi2,e,this]
theorem yb5 (f g:Nat->List Bool) (p:Nat->Bool) (w:World) (hpg:zkd f g p):
 Calls Tryd.prog 40 #[.agg (arrV 256 (numK f)),.agg #[.int .u64 (word p 0),.int .u64 (word p 1),.int .u64 (word p 2),.int .u64 (word p 3)]] w
  fun e w'=>e = .returned (.tuple #[.agg (arrV 256 (numK g)),.int .i64 (cntK g 256:Nat)])∧Below w.heap.size w w':=by
 have hz1:∀ w:World,Sem.run Tryd.prog (zeroValue 34) w = .ok (.agg (arrV 256 fun _=>0)) w:=fun _=>by kernel_rfl
 have hz2:∀ w:World,Sem.run Tryd.prog (zeroValue 149) w = .ok (.agg (arrV 512 fun _=>0)) w:=fun _=>by kernel_rfl
 have hz:=(BoxN.new w 34 256 (numK f));have b2:BoxN ((((w.alloc (.cells (arrV 256 (numK f)) 34)).alloc (.cells #[.int .u64 (word p 0),.int .u64 (word p 1),.int .u64 (word p 2),.int .u64 (word p 3)] 53)).alloc (.cells (arrV 256 fun _=>0) 34)).alloc (.cells (arrV 512 fun _=>0) 149)) w.heap.size 34 256 (numK f):=((hz.alloc _).alloc _).alloc _;have b3:=((Box4.new (w.alloc (.cells (arrV 256 (numK f)) 34)) p).alloc (.cells (arrV 256 fun _=>0) 34)).alloc (.cells (arrV 512 fun _=>0) 149);have b4:=(BoxN.new ((w.alloc (.cells (arrV 256 (numK f)) 34)).alloc (.cells #[.int .u64 (word p 0),.int .u64 (word p 1),.int .u64 (word p 2),.int .u64 (word p 3)] 53)) 34 256 fun _=>0).alloc (.cells (arrV 512 fun _=>0) 149);have b6:=BoxN.new (((w.alloc (.cells (arrV 256 (numK f)) 34)).alloc (.cells #[.int .u64 (word p 0),.int .u64 (word p 1),.int .u64 (word p 2),.int .u64 (word p 3)] 53)).alloc (.cells (arrV 256 fun _=>0) 34)) 149 512 fun _=>0
 have hB:Below w.heap.size w ((((w.alloc (.cells (arrV 256 (numK f)) 34)).alloc (.cells #[.int .u64 (word p 0),.int .u64 (word p 1),.int .u64 (word p 2),.int .u64 (word p 3)] 53)).alloc (.cells (arrV 256 fun _=>0) 34)).alloc (.cells (arrV 512 fun _=>0) 149)):=((((yf6 _ _).alloc (yez _) _).alloc yii _).alloc yil _).alloc yil _;simp only[yfe] at b3 b4 b6;have HPG:=Zh hpg;have HB2:=Zh b2;have HB3:=Zh b3;have HB4:=Zh b4;have HB6:=Zh b6;have HBB:=Zh hB;clear hpg b2 b3 b4 b6 hB hz;go_enter Tryd.func40,Tryd.ntmps40;go_wp2_with (refine zbw (g:=w.heap.size) (F:=numK f) rfl HB2.o ?_;go_simp);generalize ((((w.alloc (.cells (arrV 256 (numK f)) 34)).alloc (.cells #[.int .u64 (word p 0),.int .u64 (word p 1),.int .u64 (word p 2),.int .u64 (word p 3)] 53)).alloc (.cells (arrV 256 fun _=>0) 34)).alloc (.cells (arrV 512 fun _=>0) 149))=wA at *;clear hz1 hz2;go_loopg [7,12] 256 (fun m n i wr=>∃ j:Nat,i = .int .i64 (j:Int)∧j<=256∧m=256-j∧n = .int .i64 (cntK g j:Nat)∧BoxN wr w.heap.size 34 256 (fun i=>if i<j then numK g i else numK f i)∧Box4 wr (w.heap.size+1) p∧BoxN wr (w.heap.size+1+1) 34 256 (fun _=>0)∧BoxN wr (w.heap.size+1+1+1) 149 512 (metA f g p j)∧Below w.heap.size w wr)
 case atStart=>exact⟨0,rfl,yf8 _,rfl,rfl,HB2.o.congr fun j hj=>by simp,HB3.o,HB4.o,HB6.o.congr fun j hj=>by simp[metA,zvr],HBB.o⟩
 case round =>
  obtain⟨j,rfl,hj,hmj,rfl,bF,bS,bR,bP,hW⟩:=hrel;have HMJ:=Zh hmj;clear hmj;obtain⟨s0,s1,s2,s3⟩:=bS.cell;have hsz:=bP.lt
  by_cases hlt:j<256
  .have hix:∀ w:World,(Instr.index 34 (.agg (arrV 256 (numK f))) (.int .i64 (j:Int))).run Tryd.prog w = .ok (.int .i64 (numK f j:Nat)) w:=fun w=>zrt w j hlt
   have hc:numK f j<256:=yff (zd7 f hlt) (zgj f 256);have hle:=yfa (zgj g j) hj;have hle2:=yff (zd7 g hlt) (zgj g 256);have hmh:=zvs HPG.o j;have HNEW:=Zh (zvt HPG.o j hc);have HF:Hid (zf1 g j=true->numK g j=cntK g j∧cntK g (j+1)=cntK g j+1):=fun h=>⟨zrb g h,by simp[cntK,h]⟩
   have HG:Hid (zf1 g j=false->cntK g (j+1)=cntK g j):=fun h=>by simp[cntK,h]
   obtain⟨pj,hpj⟩:∃ pj,p j=pj:=⟨_,rfl⟩;rw[hpj] at hmh HNEW;rw[←ybr f g p j _ pj hc] at hmh;obtain⟨off,hoff⟩:∃ off:Nat,(if pj then 256+numK f j else numK f j)=off:=⟨_,rfl⟩;rw[hoff] at hmh HNEW;have ho2:off<512:=by rw[←hoff];split <;> omega
   have hcl:wr.cell? ⟨w.heap.size+1+1+1,off,none⟩=some (.int .i64 (metA f g p j off:Nat)):=bP.cell off ho2;have hwr:wr.cell? ⟨w.heap.size,j,none⟩=some (.int .i64 ((if j<j then numK g j else numK f j:Nat):Int)):=bF.cell j hlt;rw[if_neg (Nat.lt_irrefl j)] at hwr;rw[hmh] at hcl;have HOLD:Hid (zf1 g j=false->∀ i,i<512->metA f g p j i=metA f g p (j+1) i):=fun hf i hi=>by
    rw[←HNEW.o i];split
    .rename_i e;subst e;rw[hmh,hf];rfl
    .rfl
   have HTO:Hid (∀ i,(if i=j then numK g j else if i<j then numK g i else numK f i)=if i<j+1 then numK g i else numK f i):=fun i=>by
    by_cases e:i=j
    .subst e;simp
    .by_cases e2:i<j
     .have:i<j+1:=by omega
      simp[e,e2,this]
     .have:¬ i<j+1:=by omega
      simp[e,e2,this]
   clear hmh;generalize numK f j=c at *;generalize cntK g j=cn at *;generalize numK g j=nu at *;cases hfs:zf1 g j
   .rw[hfs] at hcl;simp only[ygy,if_false] at hcl;cases pj
    all_goals
     simp only[ygy,if_false,if_true] at hoff;subst hoff;go_wp2_with (go_at_call 58;(with_reducible refine (ycb p (j:Int) _ yie yie).mono ?_);rintro e w1 ⟨rfl,hb1⟩;rw[yft,hpj];have hd1:=za4 hcl hb1;have hd2:=za4 hwr hb1;have g1:=(bP.stays hb1).frozen c;have g2:=(bP.stays hb1).frozen (256+c);have g3:=(bF.stays hb1).frozen j);go_roundg (256-(j+1))
     case measure=>have:=HMJ.o;omega
     case rel =>
      exact⟨j+1,by go_num,by omega,rfl,by rw[HG.o hfs],((bF.stays hb1).set j nu hlt).congr (fun i _=>HTO.o i),(bS.stays hb1).far yii _,(bR.stays hb1).far yil _,((bP.stays hb1).far yil _).congr (HOLD.o hfs),(gro hW hb1).setCell yii _⟩
   .rw[hfs] at hcl;simp only[if_true] at hcl;obtain⟨he1,he2⟩:=HF.o hfs;subst he1;cases pj
    all_goals
     simp only[ygy,if_false,if_true] at hoff;subst hoff;go_wp2_with (go_at_call 58;(with_reducible refine (ycb p (j:Int) _ yie yie).mono ?_);rintro e w1 ⟨rfl,hb1⟩;rw[yft,hpj];have hd1:=za4 hcl hb1;have hd2:=za4 hwr hb1;have g1:=(bP.stays hb1).frozen c;have g2:=(bP.stays hb1).frozen (256+c);have g3:=(bF.stays hb1).frozen j);go_roundg (256-(j+1))
     case measure=>have:=HMJ.o;omega
     case rel =>
      exact⟨j+1,by go_num,by omega,rfl,by rw[he2];rfl,(((bF.stays hb1).far yil _).set j nu hlt).congr (fun i _=>HTO.o i),((bS.stays hb1).far yii _).far yii _,((bR.stays hb1).far yii _).far yil _,(((bP.stays hb1).set _ (nu+1) ho2).far yil _).congr (fun i _=>HNEW.o i),((gro hW hb1).setCell yil _).setCell yii _⟩
  .have hj6:j=256:=yie;subst hj6;have bG:=bF.congr (G:=numK g) fun i hi=>by simp[hi]
   go_wp2_with (first | (refine zbw (g:=w.heap.size) (F:=numK g) rfl bG ?_;go_simp) | (refine zdd (g:=w.heap.size+1+1) (F:=fun _=>0) (G:=numK g) rfl rfl bR ?_;go_simp));have hz3:=bR.lt;exact bodyPost_ret (v := .tuple #[.agg (arrV 256 (numK g)),.int .i64 (cntK g 256:Nat)]) (zj4 Tryd.results40 rfl rfl (bR.put (numK g))) rfl ⟨rfl,below_setRow hW yie _⟩
end
section
attribute [local go_sem ↓] Go.wp_at_zero Go.wp_at_succ
theorem zra (b:Nat):numK (keyL []) b=0:=by
 have h:numK (keyL []) b=numK (keyL []) 0:=(zf7 _ _ _).2 rfl;have:=ybl (keyL []) 0;have e:cntK (keyL []) 0=0:=rfl;omega
theorem zhb:∀ n,cntK (keyL []) (n+1)=1
 | 0=>rfl
 | n+1=>by rw[zoy,zhb n,zra];rfl
theorem zt5 (l:List (Nat->Bool)) (j:Nat) (h:j<l.length):zkd (keyL (l.take j)) (keyL (l.take (j+1))) (l[j]'h):=fun a b=>yc9 l j h a b
def RdS (w:World) (B:Nat) (A:Option Addr) (l:List (Nat->Bool)):Prop:=
 ∀ k (h:k<l.length),∃ b off,A=some ⟨b,off,none⟩∧b<B∧∀ q,q<4->w.cell? ⟨b,off+k*4+q,none⟩=some (.int .u64 (word (l[k]'h) q))
section
variable {w w':World} {B B':Nat} {A:Option Addr} {l:List (Nat->Bool)}
end
def yat (w:World) (l:List (Nat->Bool)) (e:Ending) (w':World):Prop:=
 e = .returned (.tuple #[.agg (arrV 256 (numK (keyL l))),.int .i64 (cntK (keyL l) 256:Nat)])∧Below w.heap.size w w'
theorem zx8 (w:World) (A:Option Addr) (c:Nat) (l:List (Nat->Bool)) (hr:RdS w w.heap.size A l) (hlen:l.length<=9223372036854775807):
 Calls Tryd.prog 20 #[.slice A l.length c] w (yat w l):=by
 have hz1:∀ w:World,Sem.run Tryd.prog (zeroValue 34) w = .ok (.agg (arrV 256 fun _=>0)) w:=fun _=>by kernel_rfl
 have b2:=(BoxN.new w 34 256 fun _=>0).alloc (.cells (arrV 256 fun _=>0) 34);have b4:=(BoxN.new (w.alloc (.cells (arrV 256 fun _=>0) 34)) 34 256 fun _=>0);have hB:Below w.heap.size w ((w.alloc (.cells (arrV 256 fun _=>0) 34)).alloc (.cells (arrV 256 fun _=>0) 34)):=((yf6 _ _).alloc (yez _) _).alloc yii _;simp only[yfe] at b4;have HB2:=Zh b2;have HB4:=Zh b4;have HBB:=Zh hB;have HR:=Zh hr;clear b2 b4 hB hr;generalize hL:l.length=L at *;have HL:=Zh hL;clear hL;go_enter Tryd.func20,Tryd.ntmps20;go_wp2;clear hz1;go_loopg [5,10] L (fun m n i wr=>∃ j:Nat,i = .int .i64 (j:Int)∧j<=L∧m=L-j∧n = .int .i64 (cntK (keyL (l.take j)) 256:Nat)∧BoxN wr w.heap.size 34 256 (fun _=>0)∧BoxN wr (w.heap.size+1) 34 256 (numK (keyL (l.take j)))∧Below w.heap.size w wr)
 case atStart=>exact⟨0,rfl,yf8 _,rfl,by rw[yhs,zhb 255];rfl,HB2.o,HB4.o.congr fun j hj=>by rw[yhs,zra],HBB.o⟩
 case round =>
  obtain⟨j,rfl,hj,hmj,rfl,bR,bC,hW⟩:=hrel;have HMJ:=Zh hmj;clear hmj;have hsz:=bC.lt
  by_cases hlt:j<L
  .have hlt':j<l.length:=(by rw[HL.o];exact hlt);obtain⟨b,off,rfl,hbB,hc⟩:=HR.o j hlt';have hp:=zt5 l j hlt';generalize l[j]'hlt'=p at *;have HP:=Zh hp;clear hp;have c0:=(hW.cell (p:=⟨b,off+j*4+0,none⟩) hbB).trans (hc 0 yie);have c1:=(hW.cell (p:=⟨b,off+j*4+1,none⟩) hbB).trans (hc 1 yie);have c2:=(hW.cell (p:=⟨b,off+j*4+2,none⟩) hbB).trans (hc 2 yie);have c3:=(hW.cell (p:=⟨b,off+j*4+3,none⟩) hbB).trans (hc 3 yie);have k0:(0:Int)<=(j:Int):=yie;have k1:(j:Int)<(L:Int):=yie;clear hc;rw[yh1] at c0;go_wp2_with (first
    | (refine zbw (g:=w.heap.size+1) (F:=numK (keyL (l.take j))) rfl (bC.alloc _) ?_;go_simp)
    | (go_at_call 40;(with_reducible refine (yb5 _ _ p _ HP.o).mono ?_);rintro e w1 ⟨rfl,hb1⟩;have hC1:=(bC.alloc _).stays hb1)
    | (refine zdd (g:=w.heap.size+1) (F:=numK (keyL (l.take j))) (G:=numK (keyL (l.take (j+1)))) rfl rfl hC1 ?_;go_simp))
   go_roundg (L-(j+1))
   case measure=>have:=HMJ.o;omega
   case rel=>exact⟨j+1,by go_num,by omega,rfl,rfl,((bR.alloc _).stays hb1).row yie _,hC1.put _,below_setRow (gro1 hW hb1) yie _⟩
  .have hj:j=l.length:=yj2;rw[hj,yfy] at bC ⊢;go_wp2_with (first | (refine zbw (g:=w.heap.size+1) (F:=numK (keyL l)) rfl bC ?_;go_simp) | (refine zdd (g:=w.heap.size) (F:=fun _=>0) (G:=numK (keyL l)) rfl rfl bR ?_;go_simp));have hz3:=bR.lt;exact bodyPost_ret (v := .tuple #[.agg (arrV 256 (numK (keyL l))),.int .i64 (cntK (keyL l) 256:Nat)]) (zj4 Tryd.results20 rfl rfl (bR.put (numK (keyL l)))) rfl ⟨rfl,below_setRow hW yie _⟩
end
section
def zaf (F:Nat->Nat) (n:Int) (vN vO:Value):Array Value:=arrV 256 F++#[.int .i64 n,vN,vO]
theorem zbk (F:Nat->Nat) (n:Int) (vN vO:Value):(zaf F n vN vO).size=259:=by simp[zaf,zb9]
theorem zcv (F:Nat->Nat) (n:Int) (vN vO:Value) (j:Nat) (h:j<256):(zaf F n vN vO)[j]?=some (.int .i64 (F j:Int)):=by
 unfold zaf;rw[Array.getElem?_append_left (by rw[zb9];exact h),zhh 256 F j h]
theorem zae (F:Nat->Nat) (n:Int) (vN vO:Value) (j:Nat):(zaf F n vN vO)[256+j]?=(#[.int .i64 n,vN,vO]:Array Value)[j]?:=by
 unfold zaf;rw[Array.getElem?_append_right (by rw[zb9];omega),zb9,Nat.add_sub_cancel_left]
theorem zvz {F:Nat->Nat} {n:Int} {vN vO:Value} (h1:vN.oneCell'=true) (h2:vO.oneCell'=true):(zaf F n vN vO).all (·.oneCell')=true:=by
 rw[yhm];intro v hv;unfold zaf at hv;rw[Array.mem_append] at hv;rcases hv with hv|hv
 .exact zn7 256 F v (by simpa using hv)
 .simp at hv;rcases hv with rfl|rfl|rfl
  .rfl
  .exact h1
  .exact h2
def BoxM (w:World) (g:Nat) (t:TypeId) (F:Nat->Nat) (n:Int) (vN vO:Value):Prop:=w.heap[g]?=some (.cells (zaf F n vN vO) t (0,0))
theorem zh8 (b:Nat) (t:TypeId):∀ (vs:List Value) (o:Nat) (w:World) (cur:Array Value),w.heap[b]?=some (.cells cur t (0,0))->∃ cur',(w.setCells b o vs).heap[b]?=some (.cells cur' t (0,0))∧cur'.size=cur.size∧∀ j,j<cur.size->cur'[j]?=if o<=j∧j<o+vs.length then vs[j-o]? else cur[j]?
 | [],o,w,cur,h=>⟨cur,h,rfl,fun j hj=>by rw[if_neg yii]⟩
 | v::vs,o,w,cur,h=>by
  have h1:=heap_setCell_same w b o cur t v h;obtain⟨cur',h2,h3,h4⟩:=zh8 b t vs (o+1) (w.setCell ⟨b,o,none⟩ v) _ h1;refine⟨cur',h2,by rw[h3];simp,fun j hj=>?_⟩;rw[h4 j (by simpa using hj)]
  by_cases e:j=o
  .subst e;rw[if_neg yie,if_pos yii,ygf];simp[hj]
  .by_cases e2:o+1<=j∧j<o+1+vs.length
   .rw[if_pos e2,if_pos yil];obtain⟨k,rfl⟩:∃ k,j=o+1+k:=⟨j-(o+1),by omega⟩;rw[show o+1+k-(o+1)=k by omega,show o+1+k-o=k+1 by omega];rfl
   .rw[if_neg e2,if_neg yil,Array.getElem?_setIfInBounds_ne (fun e'=>e e'.symm)]
theorem zg5 (b:Nat):∀ (vs:List Value) (o:Nat) (w:World) (k:Nat),k≠b->(w.setCells b o vs).heap[k]?=w.heap[k]?
 | [],o,w,k,h=>rfl
 | v::vs,o,w,k,h=>(zg5 b vs (o+1) _ k h).trans (yf9 w ⟨b,o,none⟩ v k h)
theorem zel (b:Nat):∀ (vs:List Value) (o:Nat) (w:World),(w.setCells b o vs).os=w.os∧(w.setCells b o vs).tape=w.tape∧(w.setCells b o vs).output=w.output∧(w.setCells b o vs).heap.size=w.heap.size
 | [],o,w=>⟨rfl,rfl,rfl,rfl⟩
 | v::vs,o,w=>by
  obtain⟨h1,h2,h3,h4⟩:=zel b vs (o+1) (w.setCell ⟨b,o,none⟩ v);exact⟨h1,h2,h3,by rw[show w.setCells b o (v::vs)=(w.setCell ⟨b,o,none⟩ v).setCells b (o+1) vs from rfl,h4];simp[World.setCell]⟩
theorem zms {Q:Nat->Prop} {w w':World} (h:Kept Q w w') {b:Nat} (hb:Q b∨w.heap.size<=b) (vs:List Value) (o:Nat):Kept Q w (w'.setCells b o vs):=by
 obtain⟨h1,h2,h3,h4⟩:=zel b vs o w';refine⟨h1.trans h.os,h2.trans h.tape,h3.trans h.output,by rw[h4];exact h.size,fun k hk hn=>?_⟩;rw[zg5 b vs o w' k fun e=>by subst e;exact hb.elim hn fun x=>by omega];exact h.block k hk hn
section
variable {w w':World} {g B:Nat} {t:TypeId} {F G:Nat->Nat} {n m:Int} {vN vO v:Value}
theorem BoxM.lt (h:BoxM w g t F n vN vO):g<w.heap.size:=za0 h
theorem BoxM.stays (h:BoxM w g t F n vN vO) (hb:Below w.heap.size w w'):BoxM w' g t F n vN vO:=(hb.block g h.lt).trans h
theorem BoxM.kept {Q:Nat->Prop} (h:BoxM w g t F n vN vO) (hk:Kept Q w w') (hq:¬ Q g):BoxM w' g t F n vN vO:=(hk.block g h.lt hq).trans h
theorem BoxM.new (w:World) (t:TypeId) (F:Nat->Nat) (n:Int) (vN vO:Value):BoxM (w.alloc (.cells (zaf F n vN vO) t)) w.heap.size t F n vN vO:=heap_alloc_new w _
theorem BoxM.cls (h:BoxM w g t F n vN vO) (j:Nat) (hj:j<256):w.cell? ⟨g,j,none⟩=some (.int .i64 (F j:Int)):=by rw[cell_of_row w g j _ t (0,0) h];exact zcv F n vN vO j hj
theorem BoxM.num (h:BoxM w g t F n vN vO):w.cell? ⟨g,256,none⟩=some (.int .i64 n):=by rw[cell_of_row w g 256 _ t (0,0) h];exact zae F n vN vO 0
theorem BoxM.nxt (h:BoxM w g t F n vN vO):w.cell? ⟨g,257,none⟩=some vN:=by rw[cell_of_row w g 257 _ t (0,0) h];exact zae F n vN vO 1
theorem BoxM.out (h:BoxM w g t F n vN vO):w.cell? ⟨g,258,none⟩=some vO:=by rw[cell_of_row w g 258 _ t (0,0) h];exact zae F n vN vO 2
theorem BoxM.frozen (h:BoxM w g t F n vN vO) (j:Nat):w.frozen? ⟨g,j,none⟩=false:=by
 unfold BoxM at h;simp[World.frozen?,h]
theorem BoxM.there (h:BoxM w g t F n vN vO) (o k:Nat) (hk:o+k<=259):w.there g o k:=fun j hj=>by
 refine⟨?_,h.frozen _⟩;rw[cell_of_row w g (o+j) _ t (0,0) h,Array.getElem?_eq_getElem (by rw[zbk];omega)];rfl
theorem BoxM.whole (h:BoxM w g t F n vN vO):w.rangeAt g 0 (zaf F n vN vO).toList:=fun j v hv=>by
 rw[yg5,cell_of_row w g j _ t (0,0) h]
 simpa using hv
theorem BoxM.range (h:BoxM w g t F n vN vO):w.rangeAt g 0 (arrV 256 F).toList:=fun j v hv=>by
 have hj:j<256:=(by have:=(yf4.1 hv).1;simpa [zb9] using this);rw[yg5,h.cls j hj,←hv,yhw,zhh 256 F j hj]
theorem zrh {cur:Array Value} (hs:cur.size=259) (h:∀ j,j<259->cur[j]?=(zaf F n vN vO)[j]?):cur=zaf F n vN vO:=by
 apply Array.ext_getElem?;intro j
 by_cases e:j<259
 .exact h j e
 .rw[Array.getElem?_eq_none yie,Array.getElem?_eq_none (by rw[zbk];omega)]
theorem zfu {j:Nat} (h:j<259):j<256∨j=256∨j=257∨j=258:=by omega
theorem BoxM.laid (h:BoxM w g t F n vN vO) (G:Nat->Nat):BoxM (w.setCells g 0 (arrV 256 G).toList) g t G n vN vO:=by
 obtain⟨cur',h1,h2,h3⟩:=zh8 g t (arrV 256 G).toList 0 w _ h;rw[zbk] at h2 h3;have:cur'=zaf G n vN vO:=zrh h2 fun j hj=>by
  rw[h3 j hj];rcases zfu hj with e|rfl|rfl|rfl
  .rw[if_pos (by simp[zb9];exact e),Nat.sub_zero,yhw,zhh 256 G j e,zcv G n vN vO j e]
  .rw[if_neg (by simp[zb9])];exact (zae F n vN vO 0).trans (zae G n vN vO 0).symm
  .rw[if_neg (by simp[zb9])];exact (zae F n vN vO 1).trans (zae G n vN vO 1).symm
  .rw[if_neg (by simp[zb9])];exact (zae F n vN vO 2).trans (zae G n vN vO 2).symm
 subst this;exact h1
theorem BoxM.one (h:BoxM w g t F n vN vO) (j:Nat) (v:Value) {n':Int} {vN' vO':Value} (hc:∀ i,i<259->(if i=j then some v else (zaf F n vN vO)[i]?)=(zaf F n' vN' vO')[i]?) (hj:j<259):BoxM (w.setCell ⟨g,j,none⟩ v) g t F n' vN' vO':=by
 have h1:=heap_setCell_same w g j _ t v h;have:(zaf F n vN vO).setIfInBounds j v=zaf F n' vN' vO':=zrh (by simp[zbk]) fun i hi=>by
  rw[←hc i hi]
  by_cases e:i=j
  .subst e;rw[if_pos rfl,Array.getElem?_setIfInBounds_self];simp[zbk,hi]
  .rw[if_neg e,Array.getElem?_setIfInBounds_ne (fun e'=>e e'.symm)]
 rw[this] at h1;exact h1
theorem BoxM.setNum (h:BoxM w g t F n vN vO) (m:Int):BoxM (w.setCell ⟨g,256,none⟩ (.int .i64 m)) g t F m vN vO:=h.one 256 _ (fun i hi=>by
 rcases zfu hi with e|rfl|rfl|rfl
 .rw[if_neg yie,zcv _ _ _ _ i e,zcv _ _ _ _ i e]
 .rw[if_pos rfl];exact (zae F m vN vO 0).symm
 .rw[if_neg yie];exact (zae F n vN vO 1).trans (zae F m vN vO 1).symm
 .rw[if_neg yie];exact (zae F n vN vO 2).trans (zae F m vN vO 2).symm) yie
theorem BoxM.setNxt (h:BoxM w g t F n vN vO) (v:Value):BoxM (w.setCell ⟨g,257,none⟩ v) g t F n v vO:=h.one 257 _ (fun i hi=>by
 rcases zfu hi with e|rfl|rfl|rfl
 .rw[if_neg yie,zcv _ _ _ _ i e,zcv _ _ _ _ i e]
 .rw[if_neg yie];exact (zae F n vN vO 0).trans (zae F n v vO 0).symm
 .rw[if_pos rfl];exact (zae F n v vO 1).symm
 .rw[if_neg yie];exact (zae F n vN vO 2).trans (zae F n v vO 2).symm) yie
theorem BoxM.setOut (h:BoxM w g t F n vN vO) (v:Value):BoxM (w.setCell ⟨g,258,none⟩ v) g t F n vN v:=h.one 258 _ (fun i hi=>by
 rcases zfu hi with e|rfl|rfl|rfl
 .rw[if_neg yie,zcv _ _ _ _ i e,zcv _ _ _ _ i e]
 .rw[if_neg yie];exact (zae F n vN vO 0).trans (zae F n vN v 0).symm
 .rw[if_neg yie];exact (zae F n vN vO 1).trans (zae F n vN v 1).symm
 .rw[if_pos rfl];exact (zae F n vN v 2).symm) yie
end
end
section
def Bys (w:World) (B:Nat) (v:Value) (l:List Int):Prop:=w.ownsRow B 5 1 v l.length (l.map (Value.int .u8))
section
variable {w w':World} {B C D:Nat} {v:Value} {l m:List Int} {A:Option Addr}
theorem Bys.form (h:Bys w B v l):∃ A c,v = .slice A l.length c:=by
 rcases h.2 with ⟨rfl,h0⟩|⟨g,cap,cur,rfl,_⟩
 .exact⟨none,0,by rw[h0]⟩
 .exact⟨_,_,rfl⟩
theorem Bys.rd (h:Bys w B v l):∃ A c,v = .slice A l.length c∧RdB w w.heap.size A l:=by
 obtain⟨A,c,e,_,hr,_⟩:=zo1 h;exact⟨A,c,e,hr⟩
theorem RdB.nil0 (h:RdB w C A m) (hA:A=none):m.length=0:=by
 rcases yhu m.length with h0|h0
 .exact h0
 .obtain⟨b,off,e,_⟩:=h 0 h0;rw[hA] at e;cases e
variable {o:Oper} {a:Act} {cap k:Nat}
theorem RdB.take (h:RdB w C A m) (k:Nat):RdB w C A (m.take k):=by
 intro j hj;simp at hj;obtain⟨b,off,e,hb,hc⟩:=h j yie;refine⟨b,off,e,hb,?_⟩;rw[hc];simp[yf0,ygt (show j<k by omega)]
theorem RdB.drop {b off:Nat} (h:RdB w C (some ⟨b,off,none⟩) m) (k:Nat):RdB w C (some ⟨b,off+k,none⟩) (m.drop k):=by
 intro j hj;simp at hj;obtain⟨b',off',e,hb,hc⟩:=h (k+j) yie;injection e with e
 injection e with e1 e2
 subst e1 e2;refine⟨b,off+k,rfl,hb,?_⟩;rw[show off+k+j=off+(k+j) by omega,hc];simp[yf0,List.getElem?_drop]
end
end
theorem zzy {w:World} {B n c:Nat} {A:Option Addr} {l:List Int} (h:Bys w B (.slice A n c) l):(convert 24 9 (.slice A n c)).run Tryd.prog w = .ok (.string (strOfNums l)) w:=by
 obtain⟨A',c',e,hr⟩:=h.rd;injection e with e1 e2 e3
 subst e1 e2 e3;cases A with
 | none =>
  have h0:=hr.nil0 rfl;have hx:l=[]:=yh9.1 h0;subst hx;exact run_convert_bytes_nil w 24 5 Tryd.underlying24 Tryd.underlying5 _ _ _ Tryd.underlying9
 | some ad =>
  by_cases h0:0<l.length
  .obtain⟨b,off,e,hb,_⟩:=hr 0 h0;injection e with e
   subst e;refine run_convert_bytes_arg w 24 5 Tryd.underlying24 Tryd.underlying5 b off _ _ l rfl (fun i hi=>?_) _ Tryd.underlying9;obtain⟨b',off',e,hb',hc⟩:=hr i hi;injection e with e
   injection e with e1 e2
   subst e1 e2;exact hc
  .have hx:l=[]:=yh9.1 yie;subst hx;rcases h.2 with ⟨e,_⟩|⟨g,cap,cur,e,_⟩
   .cases e
   .injection e with e1 e2 e3
    injection e1 with e1
    subst e1;exact run_convert_bytes_arg w 24 5 Tryd.underlying24 Tryd.underlying5 g 0 _ _ [] rfl (fun i hi=>by simp at hi) _ Tryd.underlying9
section
open Go
section
variable {α:Type} [DecidableEq α]
def ze7 (ss:List α) (t:α):List α:=if t∈ss then ss else ss++[t]
theorem zvw (ss:List α) (t:α):t∈ze7 ss t:=by
 unfold ze7;split
 .assumption
 .simp
theorem zjh {ss:List α} (h:ss.Nodup) (t:α):(ze7 ss t).Nodup:=by
 unfold ze7;split
 .exact h
 .rename_i hn;rw[ygn];refine⟨h,by simp,fun a ha b hb=>?_⟩;rw[yfn] at hb;subst hb;exact fun e=>hn (e▸ha)
theorem zof (ss:List α) (t:α):∃ z,ze7 ss t=ss++z:=by
 unfold ze7;split
 .exact⟨[],by simp⟩
 .exact⟨[t],rfl⟩
def idxM (ss:List α) (t:α):Nat:=ss.idxOf t
theorem ydx {ss:List α} {t:α} {i:Nat} (hn:ss.Nodup) (h:ss[i]?=some t):idxM ss t=i:=by
 unfold idxM;obtain⟨hi,he⟩:=yf4.1 h;have hm:t∈ss:=yfh h;have hl:ss.idxOf t<ss.length:=List.idxOf_lt_length_of_mem hm;have e:ss[ss.idxOf t]=t:=List.getElem_idxOf hl;exact (List.getElem_inj hn).1 (e.trans he.symm)
theorem zq2 {ss:List α} {t:α} (h:t∈ss):idxM ss t<ss.length:=List.idxOf_lt_length_of_mem h
theorem zq1 {ss:List α} {t:α} (h:t∈ss):ss[idxM ss t]?=some t:=by
 have hl:ss.idxOf t<ss.length:=zq2 h;unfold idxM;rw[yey hl,List.getElem_idxOf hl]
theorem zwn {ss z:List α} {t:α} (h:t∈ss):idxM (ss++z) t=idxM ss t:=by unfold idxM;rw[List.idxOf_append,if_pos h]
def rowS (f:Nat->α) (most:Nat):Nat->Nat->List α->List Nat->Option (List α×List Nat)
 | 0,c,ss,row=>some (ss,row)
 | k+1,c,ss,row=>if (ze7 ss (f c)).length>most then none else rowS f most k (c+1) (ze7 ss (f c)) (row++[idxM (ze7 ss (f c)) (f c)])
def ze3 (step:α->Nat->α) (most n:Nat):Nat->Nat->List α->List (List Nat)->Option (List α×List (List Nat))
 | 0,i,ss,rows=>some (ss,rows)
 | fu+1,i,ss,rows=>match ss[i]? with
  | none=>some (ss,rows)
  | some s=>match rowS (step s) most n 0 ss [] with
   | none=>none
   | some (ss',row)=>ze3 step most n fu (i+1) ss' (rows++[row])
theorem zux {f:Nat->α} {most:Nat}:∀ {k c:Nat} {ss:List α} {row:List Nat} {ss':List α} {row':List Nat},rowS f most k c ss row=some (ss',row')->ss.Nodup->ss.length<=most->
 (∀ j,j<row.length->∃ t,f j=t∧t∈ss∧row[j]?=some (idxM ss t))->row.length=c->
 (∃ z,ss'=ss++z)∧ss'.Nodup∧ss'.length<=most∧row'.length=c+k∧∀ j,j<c+k->f j∈ss'∧row'[j]?=some (idxM ss' (f j))
 | 0,c,ss,row,ss',row',h,hn,hm,hr,hc=>by
  unfold rowS at h;injection h with h
  injection h with h1 h2
  subst h1 h2;refine⟨⟨[],by simp⟩,hn,hm,by omega,fun j hj=>?_⟩;obtain⟨t,h1,h2,h3⟩:=hr j yie;subst h1;exact⟨h2,h3⟩
 | k+1,c,ss,row,ss',row',h,hn,hm,hr,hc=>by
  unfold rowS at h;split at h
  .cases h
  .rename_i hlen;obtain⟨z,hz⟩:=zof ss (f c);obtain⟨⟨z',h1⟩,h2,h3,h4,h5⟩:=zux h (zjh hn _) yie (fun j hj=>by
    simp at hj
    by_cases e:j<row.length
    .obtain⟨t,h1,h2,h3⟩:=hr j e;refine⟨t,h1,by rw[hz];exact List.mem_append_left _ h2,?_⟩;rw[yfb e,h3,hz,zwn h2]
    .have e':j=c:=yie;subst e';refine⟨f j,rfl,zvw _ _,?_⟩;rw[yfc yie,←hc,ygf];rfl) (by simp[hc])
   refine⟨⟨z++z',by rw[h1,hz,yfl]⟩,h2,h3,by omega,fun j hj=>h5 j yie⟩
structure Fnd (step:α->Nat->α) (n:Nat) (ss:List α) (rows:List (List Nat)) (i:Nat):Prop where
 nodup:ss.Nodup
 len:rows.length=i
 row:∀ j,j<i->∃ s row,ss[j]?=some s∧rows[j]?=some row∧row.length=n∧∀ c,c<n->step s c∈ss∧row[c]?=some (idxM ss (step s c))
theorem Fnd.more {step:α->Nat->α} {n:Nat} {ss:List α} {rows:List (List Nat)} {i:Nat} (h:Fnd step n ss rows i) {z:List α} (hn:(ss++z).Nodup) {s:α} (hs:ss[i]?=some s) {row:List Nat} (hl:row.length=n)
 (hr:∀ c,c<n->step s c∈ss++z∧row[c]?=some (idxM (ss++z) (step s c))):Fnd step n (ss++z) (rows++[row]) (i+1):=by
 refine⟨hn,by simp[h.len],fun j hj=>?_⟩
 by_cases e:j<i
 .obtain⟨s',row',h1,h2,h3,h4⟩:=h.row j e;have hjl:=(yf4.1 h1).1;refine⟨s',row',by rw[yfb hjl];exact h1,by rw[yfb (by rw[h.len];exact e)];exact h2,h3,fun c hc=>?_⟩;obtain⟨h5,h6⟩:=h4 c hc;exact⟨List.mem_append_left _ h5,by rw[zwn h5];exact h6⟩
 .have e':j=i:=yie;subst e';have hjl:=(yf4.1 hs).1;exact⟨s,row,by rw[yfb hjl];exact hs,by rw[yfc (by rw[h.len];exact yez _),h.len,ygf];rfl,hl,hr⟩
theorem zhf {step:α->Nat->α} {most n:Nat}:∀ {fu i:Nat} {ss:List α} {rows:List (List Nat)} {ss':List α} {rows':List (List Nat)},ze3 step most n fu i ss rows=some (ss',rows')->most<fu+i->i<=ss.length->ss.length<=most->Fnd step n ss rows i->Fnd step n ss' rows' ss'.length∧ss'.length<=most∧∃ z,ss'=ss++z
 | 0,i,ss,rows,ss',rows',h,hf,hi,hm,hfo=>by omega
 | fu+1,i,ss,rows,ss',rows',h,hf,hi,hm,hfo=>by
  unfold ze3 at h;cases e:ss[i]? with
  | none =>
   rw[e] at h;simp only at h;injection h with h
   injection h with h1 h2
   subst h1 h2;have hil:i=ss.length:=by
    rw[yi3] at e;omega
   rw[←hil];exact⟨hfo,by omega,[],by simp⟩
  | some s =>
   rw[e] at h;simp only at h;have hil:=(yf4.1 e).1;cases e2:rowS (step s) most n 0 ss [] with
   | none=>rw[e2] at h;cases h
   | some v =>
    obtain⟨ss1,row⟩:=v;rw[e2] at h;simp only at h;obtain⟨⟨z,h1⟩,h2,h3,h4,h5⟩:=zux e2 hfo.nodup hm (fun j hj=>by simp at hj) rfl;subst h1;obtain⟨h6,h7,z',h8⟩:=zhf h yie yil h3 (hfo.more h2 e yie (fun c hc=>h5 c yie));exact⟨h6,h7,z++z',by rw[h8,yfl]⟩
end
end
section
theorem Tryd.undArr:Tryd.prog.underlying 34=some (.array 256 3):=by kernel_rfl
theorem Tryd.sizeArr:(Tryd.prog.info? 34).map (·.size)=some 256:=by kernel_rfl
theorem Tryd.sizeMM:(Tryd.prog.info? 38).map (·.size)=some 259:=by kernel_rfl
section
variable {w:World} {ops:Array Oper} {rest:List Oper} {o:Oper} {a:Act} {Q:Exit->Act->World->Prop} {g:Nat} {t:TypeId} {F G:Nat->Nat} {n m:Int} {vN vO uN uO:Value}
theorem zi4 (hgd:o.guard=none) (x:Operand) (ho:o.op = .load 34 x) (hx:a.eval x = .pointer (some ⟨g,0,none⟩)) (h:BoxM w g t F n vN vO) (hk:wpList Tryd.prog ops Q rest (a.put o.dst (.agg (arrV 256 F))) w):wpList Tryd.prog ops Q (o::rest) a w:=
 wpList_load_mid hgd 34 x ho g 0 hx (arrV 256 F).toList _ h.range Tryd.undArr rfl (by rw[Tryd.sizeArr];simp[zb9]) (by simpa using hk)
theorem zls (hgd:o.guard=none) (x y:Operand) (ho:o.op = .store 34 x y) (hx:a.eval x = .pointer (some ⟨g,0,none⟩)) (hy:a.eval y = .agg (arrV 256 G)) (h:BoxM w g t F n vN vO)
 (hk:BoxM (w.setCells g 0 (arrV 256 G).toList) g t G n vN vO->wpList Tryd.prog ops Q rest (a.put o.dst undef) (w.setCells g 0 (arrV 256 G).toList)):wpList Tryd.prog ops Q (o::rest) a w:=
 wpList_store_mid hgd 34 x y ho g 0 (arrV 256 G) hx hy (h.there 0 _ (by rw[zb9];omega)) (by rw[Tryd.sizeArr];simp[zb9]) (by rw[yhm];intro v hv;exact zn7 256 G v (by simpa using hv)) (hk (h.laid G))
theorem zpf (hgd:o.guard=none) (x y:Operand) (ho:o.op = .store 34 x y) (hx:a.eval x = .pointer (some ⟨g,0,none⟩)) (hy:a.eval y = .agg (arrV 256 G)) (h:BoxM w g t F n vN vO)
 (hk:∀ w',BoxM w' g t G n vN vO->Kept (fun b=>b=g) w w'->w'.heap.size=w.heap.size->wpList Tryd.prog ops Q rest (a.put o.dst undef) w'):wpList Tryd.prog ops Q (o::rest) a w:=
 zls hgd x y ho hx hy h fun hb=>hk _ hb (zms (Kept.refl (fun b=>b=g) w) (.inl rfl) _ _) (zel g _ 0 w).2.2.2
theorem znv {d:TypeDesc} (hu:Tryd.prog.underlying t=some d) (hd:d.isRow=true) (hs:(Tryd.prog.info? t).map (·.size)=some 259) (h:BoxM w g t F n vN vO):(loadVar t ⟨g,0,none⟩).run Tryd.prog w = .ok (.agg (zaf F n vN vO)) w:=by
 have:=run_loadVar_mid (P:=Tryd.prog) w g 0 t (zaf F n vN vO).toList d h.whole hu hd (by rw[hs];simp[zbk])
 simpa using this
theorem zcs (hgd:o.guard=none) (x:Operand) (ho:o.op = .load t x) (hx:a.eval x = .pointer (some ⟨g,0,none⟩)) {d:TypeDesc} (hu:Tryd.prog.underlying t=some d) (hd:d.isRow=true) (hs:(Tryd.prog.info? t).map (·.size)=some 259) (h:BoxM w g t F n vN vO) (hk:wpList Tryd.prog ops Q rest (a.put o.dst (.agg (zaf F n vN vO))) w):wpList Tryd.prog ops Q (o::rest) a w:=
 wpList_load_mid hgd t x ho g 0 hx (zaf F n vN vO).toList _ h.whole hu hd (by rw[hs];simp[zbk]) (by simpa using hk)
theorem ya0 (h:BoxM w g t F n vN vO) (G:Nat->Nat) (m:Int) (uN uO:Value):BoxM (w.setRow g (zaf G m uN uO)) g t G m uN uO:=setRow_heap w g _ _ t (0,0) h
theorem zag (hgd:o.guard=none) (x y:Operand) (ho:o.op = .store t x y) (hx:a.eval x = .pointer (some ⟨g,0,none⟩)) (hy:a.eval y = .agg (zaf G m uN uO)) (hs:(Tryd.prog.info? t).map (·.size)=some 259) (h1:uN.oneCell'=true) (h2:uO.oneCell'=true) (h:BoxM w g t F n vN vO)
 (hk:BoxM (w.setRow g (zaf G m uN uO)) g t G m uN uO->wpList Tryd.prog ops Q rest (a.put o.dst undef) (w.setRow g (zaf G m uN uO))):wpList Tryd.prog ops Q (o::rest) a w:=by
 refine wpList_plain hgd fun _ hK=>?_
 have hst:(storeVar t ⟨g,0,none⟩ (.agg (zaf G m uN uO))).run Tryd.prog w = .ok () (w.setRow g (zaf G m uN uO)):=run_storeVar_row w g t t _ _ h (by rw[hs];simp[zbk]) (by simp[zbk]) (zvz h1 h2);unfold Oper.wp execOp;simp only[ho,hx,hy,Instr.storeAt,Instr.sureAddr,Sem.run_bind,Sem.run_pure,Result.andThen_ok,hst];exact hK _ _ (hk (ya0 h G m uN uO))
theorem zc8 {fn:Func} {tmps:Array Value} {x y:Nat} {v:Value} (hr:fn.results=#[.cell x t,.tmp y]) (hx:tmps.getD x undef = .pointer (some ⟨g,0,none⟩)) (hy:tmps.getD y undef=v) {d:TypeDesc} (hu:Tryd.prog.underlying t=some d) (hd:d.isRow=true) (hs:(Tryd.prog.info? t).map (·.size)=some 259)
 (h:BoxM w g t F n vN vO):(results fn tmps).run Tryd.prog w = .ok (.tuple #[.agg (zaf F n vN vO),v]) w:=by
 have e:(#[ResultVar.cell x t,.tmp y]:Array ResultVar)=[ResultVar.cell x t,.tmp y].toArray:=rfl;rw[ygj] at hx hy;unfold results;rw[hr,e];simp[Sem.run_bind,hx,hy,znv hu hd hs h,asAddr]
end
theorem zet {Q:Nat->Prop} {w w':World} (h:Kept Q w w') {g:Nat} (hg:Q g∨w.heap.size<=g) (A:Array Value):Kept Q w (w'.setRow g A):=
 ⟨h.os,h.tape,h.output,by rw[setRow_size];exact h.size,fun k hk hn=>(setRow_other w' g k A fun e=>by subst e;exact hg.elim hn fun x=>by omega).trans (h.block k hk hn)⟩
end
def RdStr (w:World) (A:Option Addr) (L:List ByteArray):Prop:=∀ i s,L[i]?=some s->∃ b off,A=some ⟨b,off,none⟩∧b<w.heap.size∧w.cell? ⟨b,off+i,none⟩=some (.string s)
theorem RdStr.stays {w w':World} {A:Option Addr} {L:List ByteArray} (h:RdStr w A L) (hb:Below w.heap.size w w'):RdStr w' A L:=fun i s e=>by
 obtain⟨b,off,h1,h2,h3⟩:=h i s e;exact⟨b,off,h1,yff h2 hb.size,za4 h3 hb⟩
section
open Go
def upd (f:Nat->Nat) (i v:Nat):Nat->Nat:=fun x=>if x=i then v else f x
theorem zac (f:Nat->Nat) (i v:Nat):upd f i v i=v:=by simp[upd]
theorem zao (f:Nat->Nat) {i x:Nat} (v:Nat) (h:x≠i):upd f i v x=f x:=by simp[upd,h]
structure PT where
 N:Nat
 n:Nat
 st:Nat->Nat
 at':Nat->Nat
 grp:Nat->Nat
 bg:Nat->Nat
 en:Nat->Nat
 md:Nat->Nat
def putF (p:PT) (s i:Nat):PT:={p with st:=upd p.st i s,at':=upd p.at' s i}
def zck (p:PT) (s:Nat):PT:=
 let q:=putF (putF p (p.st (p.bg (p.grp s)+p.md (p.grp s))) (p.at' s)) s (p.bg (p.grp s)+p.md (p.grp s))
 {q with md:=upd p.md (p.grp s) (p.md (p.grp s)+1)}
def relab (st:Nat->Nat) (v lo:Nat):Nat->(Nat->Nat)->(Nat->Nat)
 | 0,g=>g
 | k+1,g=>upd (relab st v lo k g) (st (lo+k)) v
def zbt (p:PT) (g:Nat):PT:=
 if p.bg g+p.md g=p.en g then {p with md:=upd p.md g 0}
 else if p.md g<=p.en g-(p.bg g+p.md g) then
  {p with n:=p.n+1,bg:=upd (upd p.bg g (p.bg g+p.md g)) p.n (p.bg g),en:=upd p.en p.n (p.bg g+p.md g),md:=upd (upd p.md g 0) p.n 0,grp:=relab p.st p.n (p.bg g) (p.md g) p.grp}
 else
  {p with n:=p.n+1,en:=upd (upd p.en g (p.bg g+p.md g)) p.n (p.en g),bg:=upd p.bg p.n (p.bg g+p.md g),md:=upd (upd p.md g 0) p.n 0,grp:=relab p.st p.n (p.bg g+p.md g) (p.en g-(p.bg g+p.md g)) p.grp}
structure PInv (p:PT):Prop where
 stN:∀ i,i<p.N->p.st i<p.N
 atN:∀ s,s<p.N->p.at' s<p.N
 sa:∀ s,s<p.N->p.st (p.at' s)=s
 ats:∀ i,i<p.N->p.at' (p.st i)=i
 gn:∀ s,s<p.N->p.grp s<p.n
 lo:∀ s,s<p.N->p.bg (p.grp s)<=p.at' s∧p.at' s<p.en (p.grp s)
 of:∀ g i,g<p.n->p.bg g<=i->i<p.en g->i<p.N∧p.grp (p.st i)=g
 ne:∀ g,g<p.n->p.bg g<p.en g∧p.en g<=p.N
 md:∀ g,g<p.n->p.bg g+p.md g<=p.en g
def Mk (p:PT) (s:Nat):Prop:=p.at' s<p.bg (p.grp s)+p.md (p.grp s)
section
variable {p:PT}
theorem zo0 (st:Nat->Nat) (v lo:Nat) (g:Nat->Nat) (x:Nat):∀ k,relab st v lo k g x=if ∃ j,j<k∧st (lo+j)=x then v else g x
 | 0=>by
  rw[relab,if_neg];rintro⟨j,hj,_⟩;omega
 | k+1=>by
  rw[relab]
  by_cases h:x=st (lo+k)
  .subst h;rw[zac,if_pos ⟨k,by omega,rfl⟩]
  .rw[zao _ _ h,zo0 st v lo g x k]
   by_cases h2:∃ j,j<k∧st (lo+j)=x
   .rw[if_pos h2,if_pos (by obtain⟨j,hj,e⟩:=h2;exact⟨j,by omega,e⟩)]
   .rw[if_neg h2,if_neg];rintro⟨j,hj,e⟩
    by_cases e':j=k
    .subst e';exact h e.symm
    .exact h2 ⟨j,by omega,e⟩
theorem PInv.relab (h:PInv p) (v lo k:Nat) (hk:lo+k<=p.N) {x:Nat} (hx:x<p.N):relab p.st v lo k p.grp x=if lo<=p.at' x∧p.at' x<lo+k then v else p.grp x:=by
 rw[zo0]
 by_cases h1:lo<=p.at' x∧p.at' x<lo+k
 .rw[if_pos h1,if_pos];exact⟨p.at' x-lo,by omega,by rw[show lo+(p.at' x-lo)=p.at' x by omega];exact h.sa x hx⟩
 .rw[if_neg h1,if_neg];rintro⟨j,hj,e⟩;have:=h.ats (lo+j) yie;rw[e] at this;omega
theorem PInv.inj (h:PInv p) {s t:Nat} (hs:s<p.N) (ht:t<p.N) (e:p.at' s=p.at' t):s=t:=by
 rw[←h.sa s hs,←h.sa t ht,e]
theorem zz4 (h:PInv p) {s:Nat} (hs:s<p.N) (hm:¬ Mk p s):PInv (zck p s)∧(zck p s).N=p.N∧(zck p s).n=p.n∧(zck p s).grp=p.grp∧(zck p s).bg=p.bg∧(zck p s).en=p.en∧∀ x,x<p.N->(Mk (zck p s) x↔Mk p x∨x=s):=by
 obtain⟨G,hG⟩:∃ G,p.grp s=G:=⟨_,rfl⟩;obtain⟨T,hT⟩:∃ T,p.bg G+p.md G=T:=⟨_,rfl⟩;obtain⟨H,hH⟩:∃ H,p.at' s=H:=⟨_,rfl⟩;obtain⟨Y,hY⟩:∃ Y,p.st T=Y:=⟨_,rfl⟩;have hGn:G<p.n:=hG▸h.gn s hs;have hlo:=h.lo s hs;rw[hG,hH] at hlo;have hTH:T<=H:=by
  unfold Mk at hm;rw[hG,hT,hH] at hm;omega
 have hTe:T<p.en G:=yie;obtain⟨hTN,hYG⟩:=h.of G T hGn yie hTe;rw[hY] at hYG;have hYN:Y<p.N:=hY▸h.stN T hTN;have hHN:H<p.N:=hH▸h.atN s hs;have haY:p.at' Y=T:=(by rw[←hY];exact h.ats T hTN);have hsH:p.st H=s:=(by rw[←hH];exact h.sa s hs);have e1:(zck p s).st=upd (upd p.st H Y) T s:=(by simp only[zck,putF,hG,hT,hH,hY]);have e2:(zck p s).at'=upd (upd p.at' Y H) s T:=(by simp only[zck,putF,hG,hT,hH,hY]);have e3:(zck p s).md=upd p.md G (p.md G+1):=(by simp only[zck,hG]);have e4:(zck p s).grp=p.grp:=rfl;have e5:(zck p s).bg=p.bg:=rfl;have e6:(zck p s).en=p.en:=rfl;have e7:(zck p s).N=p.N:=rfl;have e8:(zck p s).n=p.n:=rfl;have a1:∀ x,x<p.N->(zck p s).at' x=if x=s then T else if x=Y then H else p.at' x:=fun x hx=>by rw[e2];rfl
 have s1:∀ i,(zck p s).st i=if i=T then s else if i=H then Y else p.st i:=fun i=>by rw[e1];rfl
 have hYs:Y=s↔T=H:=by
  constructor
  .rintro rfl;rw[←haY,hH]
  .intro e;rw[←hsH,←e,hY]
 refine⟨⟨?_,?_,?_,?_,?_,?_,?_,?_,?_⟩,rfl,rfl,rfl,rfl,rfl,?_⟩
 .intro i hi;rw[e7] at hi ⊢;rw[s1];split
  .exact hs
  .split
   .exact hYN
   .exact h.stN i hi
 .intro x hx;rw[e7] at hx ⊢;rw[a1 x hx];split
  .exact hTN
  .split
   .exact hHN
   .exact h.atN x hx
 .intro x hx;rw[e7] at hx;rw[a1 x hx,s1]
  by_cases c1:x=s
  .subst c1;simp
  .rw[if_neg c1]
   by_cases c2:x=Y
   .subst c2;rw[if_pos rfl]
    by_cases c3:H=T
    .exact absurd (hYs.2 c3.symm) c1
    .rw[if_neg c3,if_pos rfl]
   .rw[if_neg c2];have hx1:p.at' x≠T:=fun e=>c2 (h.inj hx hYN (e.trans haY.symm))
    have hx2:p.at' x≠H:=fun e=>c1 (h.inj hx hs (e.trans hH.symm))
    rw[if_neg hx1,if_neg hx2];exact h.sa x hx
 .intro i hi;rw[e7] at hi;rw[s1]
  by_cases c1:i=T
  .subst c1;rw[if_pos rfl,a1 s hs,if_pos rfl]
  .rw[if_neg c1]
   by_cases c2:i=H
   .subst c2;rw[if_pos rfl,a1 Y hYN]
    by_cases c3:Y=s
    .rw[if_pos c3];exact hYs.1 c3
    .rw[if_neg c3,if_pos rfl]
   .rw[if_neg c2,a1 _ (h.stN i hi)];have hx1:p.st i≠s:=fun e=>c2 (by rw[←h.ats i hi,e,hH])
    have hx2:p.st i≠Y:=fun e=>c1 (by rw[←h.ats i hi,e,haY])
    rw[if_neg hx1,if_neg hx2];exact h.ats i hi
 .intro x hx;exact h.gn x hx
 .intro x hx;rw[e7] at hx;rw[e4,e5,e6,a1 x hx]
  by_cases c1:x=s
  .rw[if_pos c1,c1,hG];omega
  .rw[if_neg c1]
   by_cases c2:x=Y
   .rw[if_pos c2,c2,hYG];exact hlo
   .rw[if_neg c2];exact h.lo x hx
 .intro g i hg h1 h2;rw[e5] at h1;rw[e6] at h2;rw[e8] at hg;obtain⟨h3,h4⟩:=h.of g i hg h1 h2;refine⟨h3,?_⟩;rw[e4,s1]
  by_cases c1:i=T
  .rw[if_pos c1,hG];rw[c1,hY,hYG] at h4;exact h4
  .rw[if_neg c1]
   by_cases c2:i=H
   .rw[if_pos c2,hYG];rw[c2,hsH,hG] at h4;exact h4
   .rw[if_neg c2];exact h4
 .intro g hg;exact h.ne g hg
 .intro g hg;rw[e8] at hg;rw[e5,e6,e3]
  by_cases c:g=G
  .subst c;rw[zac];omega
  .rw[zao _ _ c];exact h.md g hg
 .intro x hx;unfold Mk;rw[e4,e5,e3,a1 x hx]
  by_cases c1:x=s
  .rw[if_pos c1,c1,hG,zac];exact⟨fun _ => .inr rfl,fun _=>by omega⟩
  .rw[if_neg c1]
   by_cases c2:x=Y
   .subst c2;have hTH':T≠H:=fun e=>c1 (hYs.2 e)
    rw[if_pos rfl,hYG,zac,haY];constructor
    .intro h1;omega
    .rintro (h1|h1)
     .omega
     .exact absurd h1 c1
   .rw[if_neg c2]
    by_cases c3:p.grp x=G
    .rw[c3,zac];have hx1:p.at' x≠T:=fun e=>c2 (h.inj hx hYN (e.trans haY.symm))
     constructor
     .intro h1;exact .inl yie
     .rintro (h1|h1)
      .omega
      .exact absurd h1 c1
    .rw[zao _ _ c3];exact⟨fun h1 => .inl h1,fun h1=>h1.elim id fun e=>absurd e c1⟩
end
end
section
open Go
section
variable {p:PT}
theorem PInv.mk_iff (h:PInv p) {g x:Nat} (hg:g<p.n) (hx:x<p.N):(p.bg g<=p.at' x∧p.at' x<p.en g↔p.grp x=g):=by
 constructor
 .rintro⟨h1,h2⟩;have:=(h.of g (p.at' x) hg h1 h2).2
  rwa [h.sa x hx] at this
 .rintro rfl;exact h.lo x hx
theorem zqw (h:PInv p) {g:Nat} (hg:g<p.n) {q:PT} {lo hi lo' hi':Nat} (e1:q.N=p.N) (e2:q.n=p.n+1) (e3:q.st=p.st) (e4:q.at'=p.at')
 (hgrp:∀ x,x<p.N->q.grp x=if lo<=p.at' x∧p.at' x<hi then p.n else p.grp x)
 (b1:q.bg p.n=lo) (b2:q.en p.n=hi) (b3:q.bg g=lo') (b4:q.en g=hi') (bo:∀ k,k<p.n->k≠g->q.bg k=p.bg k∧q.en k=p.en k∧q.md k=p.md k) (m1:q.md p.n=0) (m2:q.md g=0)
 (hr:lo<hi∧lo'<hi'∧((lo=p.bg g∧hi=lo'∧hi'=p.en g)∨(lo'=p.bg g∧hi'=lo∧hi=p.en g))):PInv q:=by
 have hne:=h.ne g hg;have hsub:∀ i,lo<=i->i<hi->p.bg g<=i∧i<p.en g:=fun i a b=>by omega
 have hin:∀ x,x<p.N->lo<=p.at' x->p.at' x<hi->p.grp x=g:=fun x hx a b=>(h.mk_iff hg hx).1 (hsub _ a b)
 refine⟨?_,?_,?_,?_,?_,?_,?_,?_,?_⟩
 .rw[e1,e3];exact h.stN
 .rw[e1,e4];exact h.atN
 .rw[e1,e3,e4];exact h.sa
 .rw[e1,e3,e4];exact h.ats
 .intro x hx;rw[e1] at hx;rw[hgrp x hx,e2];split
  .omega
  .have:=h.gn x hx;omega
 .intro x hx;rw[e1] at hx;rw[hgrp x hx,e4]
  by_cases c:lo<=p.at' x∧p.at' x<hi
  .rw[if_pos c,b1,b2];exact c
  .rw[if_neg c];have hl:=h.lo x hx
   by_cases c2:p.grp x=g
   .rw[c2,b3,b4];rw[c2] at hl;omega
   .obtain⟨o1,o2,_⟩:=bo _ (h.gn x hx) c2;rw[o1,o2];exact hl
 .intro k i hk a b;rw[e2] at hk;rw[e1,e3]
  by_cases c:k=p.n
  .subst c;rw[b1] at a;rw[b2] at b;obtain⟨s1,s2⟩:=hsub i a b;have hi:=(h.of g i hg s1 s2).1;refine⟨hi,?_⟩;rw[hgrp _ (h.stN i hi),h.ats i hi,if_pos ⟨a,b⟩]
  .by_cases c2:k=g
   .subst c2;rw[b3] at a;rw[b4] at b;obtain⟨s1,s2⟩:=h.of k i hg yie yie;refine⟨s1,?_⟩;rw[hgrp _ (h.stN i s1),h.ats i s1,if_neg yie];exact s2
   .obtain⟨o1,o2,_⟩:=bo k yie c2;rw[o1] at a;rw[o2] at b;obtain⟨s1,s2⟩:=h.of k i yie a b;refine⟨s1,?_⟩;rw[hgrp _ (h.stN i s1),h.ats i s1,if_neg]
    .exact s2
    .rintro⟨a',b'⟩;obtain⟨t1,t2⟩:=hsub i a' b';exact c2 (s2.symm.trans (h.of g i hg t1 t2).2)
 .intro k hk;rw[e2] at hk;rw[e1]
  by_cases c:k=p.n
  .subst c;rw[b1,b2];omega
  .by_cases c2:k=g
   .subst c2;rw[b3,b4];omega
   .obtain⟨o1,o2,_⟩:=bo k yie c2;rw[o1,o2];exact h.ne k yie
 .intro k hk;rw[e2] at hk
  by_cases c:k=p.n
  .subst c;rw[b1,b2,m1];omega
  .by_cases c2:k=g
   .subst c2;rw[b3,b4,m2];omega
   .obtain⟨o1,o2,o3⟩:=bo k yie c2;rw[o1,o2,o3];exact h.md k yie
def Parted (p q:PT) (g:Nat):Prop:=
 (q.n=p.n∧(∀ x,x<p.N->q.grp x=p.grp x)∧∀ x,x<p.N->p.grp x=g->Mk p x)∨
 (q.n=p.n+1∧((∀ x,x<p.N->(q.grp x=p.n↔p.grp x=g∧Mk p x)∧(q.grp x≠p.n->q.grp x=p.grp x))∨(∀ x,x<p.N->(q.grp x=p.n↔p.grp x=g∧¬ Mk p x)∧(q.grp x≠p.n->q.grp x=p.grp x))))
theorem zr7 (h:PInv p) {g:Nat} (hg:g<p.n) (h0:0<p.md g):PInv (zbt p g)∧(zbt p g).N=p.N∧Parted p (zbt p g) g∧(∀ x,x<p.N->(Mk (zbt p g) x↔Mk p x∧p.grp x≠g))∧∀ k,k<p.n->k≠g->(zbt p g).md k=p.md k:=by
 have hne:=h.ne g hg;have hmd:=h.md g hg;have hgn:g≠p.n:=by omega
 by_cases c1:p.bg g+p.md g=p.en g
 .have e:zbt p g={p with md:=upd p.md g 0}:=(by unfold zbt;rw[if_pos c1]);rw[e];refine⟨⟨h.stN,h.atN,h.sa,h.ats,h.gn,h.lo,h.of,h.ne,fun k hk=>?_⟩,rfl,.inl ⟨rfl,fun x hx=>rfl,fun x hx hxg=>?_⟩,fun x hx=>?_,fun k hk hkg=>zao _ _ hkg⟩
  .show p.bg k+upd p.md g 0 k<=p.en k
   by_cases ck:k=g
   .subst ck;rw[zac];omega
   .rw[zao _ _ ck];exact h.md k hk
  .have:=h.lo x hx;unfold Mk;rw[hxg] at this ⊢;omega
  .have hl:=h.lo x hx;unfold Mk
   show p.at' x<p.bg (p.grp x)+upd p.md g 0 (p.grp x)↔_
   by_cases cx:p.grp x=g
   .rw[cx] at hl;rw[cx,zac];constructor
    .intro h1;omega
    .rintro⟨_,h1⟩;exact absurd rfl h1
   .rw[zao _ _ cx];exact⟨fun h1=>⟨h1,cx⟩,fun h1=>h1.1⟩
 .have hmk:∀ x,x<p.N->p.grp x=g->(Mk p x↔p.at' x<p.bg g+p.md g):=fun x hx e=>by unfold Mk;rw[e]
  by_cases c2:p.md g<=p.en g-(p.bg g+p.md g)
  .obtain⟨q,hq⟩:∃ q,zbt p g=q:=⟨_,rfl⟩;have e:q={p with n:=p.n+1,bg:=upd (upd p.bg g (p.bg g+p.md g)) p.n (p.bg g),en:=upd p.en p.n (p.bg g+p.md g),md:=upd (upd p.md g 0) p.n 0,grp:=relab p.st p.n (p.bg g) (p.md g) p.grp}:=by
    rw[←hq];unfold zbt;rw[if_neg c1,if_pos c2]
   rw[hq];have f1:q.N=p.N:=yj3;have f2:q.n=p.n+1:=yj3;have f3:q.st=p.st:=yj3;have f4:q.at'=p.at':=yj3;have f5:q.bg=upd (upd p.bg g (p.bg g+p.md g)) p.n (p.bg g):=yj3;have f6:q.en=upd p.en p.n (p.bg g+p.md g):=yj3;have f7:q.md=upd (upd p.md g 0) p.n 0:=yj3;have f8:∀ x,x<p.N->q.grp x=if p.bg g<=p.at' x∧p.at' x<p.bg g+p.md g then p.n else p.grp x:=fun x hx=>by rw[e];exact h.relab _ _ _ yie hx
   have g1:∀ x,x<p.N->(p.bg g<=p.at' x∧p.at' x<p.bg g+p.md g↔p.grp x=g∧Mk p x):=fun x hx=>by
    constructor
    .rintro⟨a,b⟩;have:=(h.mk_iff hg hx).1 ⟨a,by omega⟩;exact⟨this,(hmk x hx this).2 b⟩
    .rintro⟨a,b⟩;have:=(h.mk_iff hg hx).2 a;exact⟨this.1,(hmk x hx a).1 b⟩
   have hbo:∀ k,k<p.n->k≠g->q.bg k=p.bg k∧q.en k=p.en k∧q.md k=p.md k:=fun k hk hkg=>by
    rw[f5,f6,f7,zao _ _ (show k≠p.n by omega),zao _ _ hkg,zao _ _ (show k≠p.n by omega),zao _ _ (show k≠p.n by omega),zao _ _ hkg];exact⟨rfl,rfl,rfl⟩
   have hP:PInv q:=zqw h hg f1 f2 f3 f4 f8 (by rw[f5,zac]) (by rw[f6,zac]) (by rw[f5,zao _ _ hgn,zac]) (by rw[f6,zao _ _ hgn]) hbo (by rw[f7,zac]) (by rw[f7,zao _ _ hgn,zac]) yie;refine⟨hP,f1,.inr ⟨f2,.inl fun x hx=>⟨?_,fun hx'=>?_⟩⟩,fun x hx=>?_,fun k hk hkg=>(hbo k hk hkg).2.2⟩
   .rw[f8 x hx,←g1 x hx]
    by_cases c:p.bg g<=p.at' x∧p.at' x<p.bg g+p.md g
    .rw[if_pos c];exact⟨fun _=>c,fun _=>rfl⟩
    .rw[if_neg c];have:=h.gn x hx;exact⟨fun e=>by omega,fun e=>absurd e c⟩
   .rw[f8 x hx] at hx' ⊢
    by_cases c:p.bg g<=p.at' x∧p.at' x<p.bg g+p.md g
    .rw[if_pos c] at hx';exact absurd rfl hx'
    .rw[if_neg c]
   .have hgx:=h.gn x hx;have hl:=h.lo x hx
    show q.at' x<q.bg (q.grp x)+q.md (q.grp x)↔_
    rw[f4,f8 x hx]
    by_cases c:p.bg g<=p.at' x∧p.at' x<p.bg g+p.md g
    .rw[if_pos c,f5,f7,zac,zac];have:=(g1 x hx).1 c;exact⟨fun h1=>by omega,fun h1=>absurd this.1 h1.2⟩
    .rw[if_neg c]
     by_cases cx:p.grp x=g
     .rw[cx,f5,f7,zao _ _ hgn,zac,zao _ _ hgn,zac];rw[cx] at hl;exact⟨fun h1=>by omega,fun h1=>absurd rfl h1.2⟩
     .obtain⟨o1,_,o3⟩:=hbo _ hgx cx;rw[o1,o3];exact⟨fun h1=>⟨h1,cx⟩,fun h1=>h1.1⟩
  .obtain⟨q,hq⟩:∃ q,zbt p g=q:=⟨_,rfl⟩;have e:q={p with n:=p.n+1,en:=upd (upd p.en g (p.bg g+p.md g)) p.n (p.en g),bg:=upd p.bg p.n (p.bg g+p.md g),md:=upd (upd p.md g 0) p.n 0,grp:=relab p.st p.n (p.bg g+p.md g) (p.en g-(p.bg g+p.md g)) p.grp}:=by
    rw[←hq];unfold zbt;rw[if_neg c1,if_neg c2]
   rw[hq];have f1:q.N=p.N:=yj3;have f2:q.n=p.n+1:=yj3;have f3:q.st=p.st:=yj3;have f4:q.at'=p.at':=yj3;have f5:q.bg=upd p.bg p.n (p.bg g+p.md g):=yj3;have f6:q.en=upd (upd p.en g (p.bg g+p.md g)) p.n (p.en g):=yj3;have f7:q.md=upd (upd p.md g 0) p.n 0:=yj3;have f8:∀ x,x<p.N->q.grp x=if p.bg g+p.md g<=p.at' x∧p.at' x<p.en g then p.n else p.grp x:=fun x hx=>by
    rw[e];have:=h.relab p.n (p.bg g+p.md g) (p.en g-(p.bg g+p.md g)) yie hx;rw[show p.bg g+p.md g+(p.en g-(p.bg g+p.md g))=p.en g by omega] at this;exact this
   have g1:∀ x,x<p.N->(p.bg g+p.md g<=p.at' x∧p.at' x<p.en g↔p.grp x=g∧¬ Mk p x):=fun x hx=>by
    constructor
    .rintro⟨a,b⟩;have:=(h.mk_iff hg hx).1 ⟨by omega,b⟩;exact⟨this,fun hm=>by have:=(hmk x hx this).1 hm;omega⟩
    .rintro⟨a,b⟩;have h1:=(h.mk_iff hg hx).2 a;exact⟨Nat.not_lt.1 fun z=>b ((hmk x hx a).2 z),h1.2⟩
   have hbo:∀ k,k<p.n->k≠g->q.bg k=p.bg k∧q.en k=p.en k∧q.md k=p.md k:=fun k hk hkg=>by
    rw[f5,f6,f7,zao _ _ (show k≠p.n by omega),zao _ _ (show k≠p.n by omega),zao _ _ hkg,zao _ _ (show k≠p.n by omega),zao _ _ hkg];exact⟨rfl,rfl,rfl⟩
   have hP:PInv q:=zqw h hg f1 f2 f3 f4 f8 (by rw[f5,zac]) (by rw[f6,zac]) (by rw[f5,zao _ _ hgn]) (by rw[f6,zao _ _ hgn,zac]) hbo (by rw[f7,zac]) (by rw[f7,zao _ _ hgn,zac]) yie;refine⟨hP,f1,.inr ⟨f2,.inr fun x hx=>⟨?_,fun hx'=>?_⟩⟩,fun x hx=>?_,fun k hk hkg=>(hbo k hk hkg).2.2⟩
   .rw[f8 x hx,←g1 x hx]
    by_cases c:p.bg g+p.md g<=p.at' x∧p.at' x<p.en g
    .rw[if_pos c];exact⟨fun _=>c,fun _=>rfl⟩
    .rw[if_neg c];have:=h.gn x hx;exact⟨fun e=>by omega,fun e=>absurd e c⟩
   .rw[f8 x hx] at hx' ⊢
    by_cases c:p.bg g+p.md g<=p.at' x∧p.at' x<p.en g
    .rw[if_pos c] at hx';exact absurd rfl hx'
    .rw[if_neg c]
   .have hgx:=h.gn x hx;have hl:=h.lo x hx
    show q.at' x<q.bg (q.grp x)+q.md (q.grp x)↔_
    rw[f4,f8 x hx]
    by_cases c:p.bg g+p.md g<=p.at' x∧p.at' x<p.en g
    .rw[if_pos c,f5,f7,zac,zac];have:=(g1 x hx).1 c;exact⟨fun h1=>by omega,fun h1=>absurd this.1 h1.2⟩
    .rw[if_neg c]
     by_cases cx:p.grp x=g
     .rw[cx,f5,f7,zao _ _ hgn,zao _ _ hgn,zac];rw[cx] at hl;exact⟨fun h1=>by omega,fun h1=>absurd rfl h1.2⟩
     .obtain⟨o1,_,o3⟩:=hbo _ hgx cx;rw[o1,o3];exact⟨fun h1=>⟨h1,cx⟩,fun h1=>h1.1⟩
end
end
section
def lstI (n:Nat) (f:Nat->Nat):List Value:=(List.range n).map fun i => .int .i64 (f i:Int)
theorem zeq (n:Nat) (f:Nat->Nat):(lstI n f).length=n:=by simp[lstI]
theorem zat {n:Nat} {f:Nat->Nat} {i:Nat} (h:i<n):(lstI n f)[i]?=some (.int .i64 (f i:Int)):=by simp[lstI,h]
theorem zz6 (n:Nat) (f:Nat->Nat) (i v:Nat):(lstI n f).set i (.int .i64 (v:Int))=lstI n (upd f i v):=by
 apply ygi;intro j;rw[ygu]
 by_cases hj:j<n
 .rw[zat hj,zat hj,zeq]
  by_cases e:i=j
  .subst e;rw[if_pos rfl,if_pos hj,zac]
  .rw[if_neg e,zao _ _ (fun e'=>e e'.symm)]
 .have h1:(lstI n (upd f i v))[j]?=none:=yfj (by rw[zeq];omega);have h2:(lstI n f)[j]?=none:=yfj (by rw[zeq];omega);rw[h1,h2,zeq]
  by_cases e:i=j
  .rw[if_pos e,if_neg yie]
  .rw[if_neg e]
def NRow (w:World) (B:Nat) (v:Value) (n:Nat) (f:Nat->Nat):Prop:=w.ownsRow B 3 1 v n (lstI n f)
section
variable {w w':World} {B g n:Nat} {v:Value} {f:Nat->Nat} {Q:Nat->Prop}
theorem NRow.at (h:NRow w B v n f) {i:Nat} (hi:i<n):∃ b c,v = .slice (some ⟨b,0,none⟩) n c∧v.ownBlock=some b∧w.cell? ⟨b,i,none⟩=some (.int .i64 (f i:Int)):=by
 rcases h.2 with ⟨_,h0⟩|⟨b,c,cur,rfl,_⟩
 .omega
 .exact⟨b,c,rfl,rfl,(yf7 h i yie).trans (zat hi)⟩
theorem NRow.kept (h:NRow w B v n f) (hk:Kept Q w w') (hq:∀ b,v.ownBlock=some b->¬ Q b):NRow w' B v n f:=za8 h fun b e hb=>hk.block b hb (hq b e)
theorem NRow.set {b c:Nat} (h:NRow w B (.slice (some ⟨b,0,none⟩) n c) n f) (i v:Nat):NRow (w.setCell ⟨b,i,none⟩ (.int .i64 (v:Int))) B (.slice (some ⟨b,0,none⟩) n c) n (upd f i v):=by
 have:=(yg1 h i (.int .i64 (v:Int))).1;rw[zz6] at this;exact this
theorem NRow.frozen {b c:Nat} (h:NRow w B (.slice (some ⟨b,0,none⟩) n c) n f) (j:Nat):w.frozen? ⟨b,j,none⟩=false:=yfw h j
end
def Ap (u v:Value):Prop:=∀ x,u.ownBlock=some x->v.ownBlock≠some x
structure PM (w:World) (B g:Nat) (a b c d e m:Value) (p:PT):Prop where
 gB:B<=g
 box:w.heap[g]?=some (.cells #[a,b,c,d,e,m] 165 (0,0))
 ra:NRow w B a p.N p.st
 rb:NRow w B b p.N p.at'
 rc:NRow w B c p.N p.grp
 rd:NRow w B d p.n p.bg
 re:NRow w B e p.n p.en
 rm:NRow w B m p.n p.md
 ap:[a,b,c,d,e,m].Pairwise Ap
section
variable {w w':World} {B g:Nat} {a b c d e m:Value} {p:PT}
theorem zb6 {n:Nat} {f:Nat->Nat} {v:Value} (h:NRow w B v n f) (hg:w.heap[g]?=some (.cells #[a,b,c,d,e,m] 165 (0,0))):∀ x,v.ownBlock=some x->x≠g:=fun x hx=>by
 obtain⟨cu,hc⟩:=za7 h hx;exact za1 hc hg yij
theorem PM.put {ba ca bb cb s i:Nat} (h:PM w B g (.slice (some ⟨ba,0,none⟩) p.N ca) (.slice (some ⟨bb,0,none⟩) p.N cb) c d e m p):PM ((w.setCell ⟨ba,i,none⟩ (.int .i64 (s:Int))).setCell ⟨bb,s,none⟩ (.int .i64 (i:Int))) B g (.slice (some ⟨ba,0,none⟩) p.N ca) (.slice (some ⟨bb,0,none⟩) p.N cb) c d e m (putF p s i):=by
 have hap:=h.ap;simp only[yg3,yfi,forall_eq_or_imp,yfk,false_imp_iff,implies_true,and_true,ygb,Ap] at hap;obtain⟨⟨x1,x2,x3,x4,x5⟩,⟨y2,y3,y4,y5⟩,_⟩:=hap;have k1:Kept (fun x=>x=ba) w (w.setCell ⟨ba,i,none⟩ (.int .i64 (s:Int))):=(Kept.refl (fun x=>x=ba) w).setCell (a:=⟨ba,i,none⟩) (.inl rfl) _;have k2:Kept (fun x=>x=bb) (w.setCell ⟨ba,i,none⟩ (.int .i64 (s:Int))) ((w.setCell ⟨ba,i,none⟩ (.int .i64 (s:Int))).setCell ⟨bb,s,none⟩ (.int .i64 (i:Int))):=(Kept.refl (fun x=>x=bb) _).setCell (a:=⟨bb,s,none⟩) (.inl rfl) _;have g1:=zb6 h.ra h.box ba rfl;have g2:=zb6 h.rb h.box bb rfl;have nab:ba≠bb:=fun e'=>x1 ba rfl (by rw[e'];rfl)
 have oth:∀ (v:Value) (n:Nat) (f:Nat->Nat),NRow w B v n f->(∀ x,(Value.slice (some ⟨ba,0,none⟩) p.N ca).ownBlock=some x->v.ownBlock≠some x)->(∀ x,(Value.slice (some ⟨bb,0,none⟩) p.N cb).ownBlock=some x->v.ownBlock≠some x)->NRow ((w.setCell ⟨ba,i,none⟩ (.int .i64 (s:Int))).setCell ⟨bb,s,none⟩ (.int .i64 (i:Int))) B v n f:=fun v n f hr z1 z2 =>
  (hr.kept k1 fun x e1 e2=>z1 ba rfl (by rw[e2] at e1;exact e1)).kept k2 fun x e1 e2=>z2 bb rfl (by rw[e2] at e1;exact e1)
 refine⟨h.gB,?_,?_,?_,oth _ _ _ h.rc x2 y2,oth _ _ _ h.rd x3 y3,oth _ _ _ h.re x4 y4,oth _ _ _ h.rm x5 y5,h.ap⟩
 .exact (yf9 _ _ _ _ (fun e'=>g2 e'.symm)).trans ((yf9 _ _ _ _ (fun e'=>g1 e'.symm)).trans h.box)
 .exact (h.ra.set i s).kept k2 fun x e1 e2=>nab (by
                                                  have:ba=x:=by injection e1
                                                  omega)
 .exact (h.rb.kept k1 fun x e1 e2=>nab (by
                                         have:bb=x:=by injection e1
                                         omega)).set s i
end
theorem ybb {w:World} {B g:Nat} {a b c d e m:Value} {p:PT} {s i:Nat} (h:PM w B g a b c d e m p) (hs:s<p.N) (hi:i<p.N) (hN:p.N<=100000):
 Calls Tryd.prog 78 #[.pointer (some ⟨g,0,none⟩),.int .i64 (s:Int),.int .i64 (i:Int)] w fun e' w'=>e' = .returned (.tuple #[])∧PM w' B g a b c d e m (putF p s i)∧Kept (fun x=>a.ownBlock=some x∨b.ownBlock=some x) w w':=by
 obtain⟨ba,ca,rfl,_,z1⟩:=h.ra.at hi;obtain⟨bb,cb,rfl,_,z2⟩:=h.rb.at hs;have HP:=Zh (h.put (s:=s) (i:=i));have c0:w.cell? ⟨g,0,none⟩=some (.slice (some ⟨ba,0,none⟩) p.N ca):=cell_of_row w g 0 _ _ (0,0) h.box;have c1:w.cell? ⟨g,1,none⟩=some (.slice (some ⟨bb,0,none⟩) p.N cb):=cell_of_row w g 1 _ _ (0,0) h.box;have f1:=h.ra.frozen i;have f2:=h.rb.frozen s;have n1:=zb6 h.ra h.box ba rfl;have hap:=h.ap;simp only[yg3,yfi,forall_eq_or_imp,Ap] at hap;have nab:bb≠ba:=fun e'=>hap.1.1 ba rfl (by rw[←e'];rfl)
 have HK:Hid (Kept (fun x=>(Value.slice (some ⟨ba,0,none⟩) p.N ca).ownBlock=some x∨(Value.slice (some ⟨bb,0,none⟩) p.N cb).ownBlock=some x) w ((w.setCell ⟨ba,i,none⟩ (.int .i64 (s:Int))).setCell ⟨bb,s,none⟩ (.int .i64 (i:Int)))):=Zh (((Kept.refl _ w).setCell (a:=⟨ba,i,none⟩) (.inl (.inl rfl)) _).setCell (a:=⟨bb,s,none⟩) (.inl (.inr rfl)) _);obtain⟨N,hN'⟩:∃ N,p.N=N:=⟨_,rfl⟩;rw[hN'] at c0 c1 hs hi hN HP HK ⊢;have i0:(0:Int)<=(i:Int):=yie;have i1:(i:Int)<(N:Int):=yie;have s0:(0:Int)<=(s:Int):=yie;have s1:(s:Int)<(N:Int):=yie;clear h hN' hap;go_enter Tryd.func78,Tryd.ntmps78;go_wp2;exact⟨rfl,.tuple #[],by simp[results,Tryd.results78],rfl,HP.o,HK.o⟩
end
section
open Go
structure yd9 (δ:Nat->Nat->Nat) (C:Nat) (alk:Nat->Nat->Prop):Prop where
 step:∀ s t c,c<C->alk s t->alk (δ s c) (δ t c)
structure HI (alk:Nat->Nat->Prop) (A:(Nat->Prop)->Prop) (g:Nat) (p:PT):Prop where
 i0:∀ s t,s<p.N->t<p.N->alk s t->p.grp s=p.grp t
 i2:∀ s t,s<p.N->t<p.N->(∀ X,A X->(X s↔X t))->(∀ k,g<=k->k<p.n->(p.grp s=k↔p.grp t=k))->p.grp s=p.grp t
section
variable {alk:Nat->Nat->Prop} {A:(Nat->Prop)->Prop} {g b:Nat} {p q:PT}
theorem Parted.ref (h:Parted p q b) (hp:PInv p) {s t:Nat} (hs:s<p.N) (ht:t<p.N) (e:q.grp s=q.grp t):p.grp s=p.grp t:=by
 rcases h with ⟨_,h1,_⟩|⟨_,h1|h1⟩
 .rw[←h1 s hs,←h1 t ht,e]
 all_goals
  by_cases c:q.grp s=p.n
  .have c':q.grp t=p.n:=e▸c;rw[((h1 s hs).1.1 c).1,((h1 t ht).1.1 c').1]
  .have c':q.grp t≠p.n:=e▸c;rw[←(h1 s hs).2 c,←(h1 t ht).2 c',e]
theorem Parted.mk (h:Parted p q b) (hp:PInv p) {s t:Nat} (hs:s<p.N) (ht:t<p.N) (hb:p.grp s=b) (e:q.grp s=q.grp t):Mk p s↔Mk p t:=by
 have hb':=(h.ref hp hs ht e).symm.trans hb;rcases h with ⟨_,h1,h2⟩|⟨_,h1|h1⟩
 .exact⟨fun _=>h2 t ht hb',fun _=>h2 s hs hb⟩
 .have a1:=(h1 s hs).1;have a2:=(h1 t ht).1;rw[e] at a1;rw[a1] at a2;constructor
  .intro m;exact (a2.1 ⟨hb,m⟩).2
  .intro m;exact (a2.2 ⟨hb',m⟩).2
 .have a1:=(h1 s hs).1;have a2:=(h1 t ht).1;rw[e] at a1;rw[a1] at a2;constructor
  .intro m;exact Classical.byContradiction fun m'=>(a2.2 ⟨hb',m'⟩).2 m
  .intro m;exact Classical.byContradiction fun m'=>(a2.1 ⟨hb,m'⟩).2 m
theorem HI.part (h:HI alk A g p) (hp:PInv p) (hq:q.N=p.N) (hP:Parted p q b) (hg:g<=p.n) (hM:∀ s t,s<p.N->t<p.N->alk s t->p.grp s=b->(Mk p s↔Mk p t)):HI alk A g q:=by
 refine⟨fun s t hs ht ha=>?_,fun s t hs ht hX hk=>?_⟩
 .rw[hq] at hs ht;have e:=h.i0 s t hs ht ha;rcases hP with ⟨_,h1,_⟩|⟨_,h1|h1⟩
  .rw[h1 s hs,h1 t ht,e]
  all_goals
   have a1:=(h1 s hs).1;have a2:=(h1 t ht).1;have hst:q.grp s=p.n↔q.grp t=p.n:=by
    rw[a1,a2];constructor
    .rintro⟨x,y⟩;have:=hM s t hs ht ha x;exact⟨e▸x,by simpa [this] using y⟩
    .rintro⟨x,y⟩;have:=hM s t hs ht ha (e.trans x);exact⟨e.trans x,by simpa [this] using y⟩
   by_cases c:q.grp s=p.n
   .rw[c,hst.1 c]
   .have c':q.grp t≠p.n:=fun z=>c (hst.2 z)
    rw[(h1 s hs).2 c,(h1 t ht).2 c',e]
 .rw[hq] at hs ht;rcases hP with ⟨hn,h1,_⟩|⟨hn,h1|h1⟩
  .rw[h1 s hs,h1 t ht];refine h.i2 s t hs ht hX fun k hk1 hk2=>?_
   have:=hk k hk1 yie
   rwa [h1 s hs,h1 t ht] at this
  all_goals
   have hst:=hk p.n hg yie
   by_cases c:q.grp s=p.n
   .rw[c,hst.1 c]
   .have c':q.grp t≠p.n:=fun z=>c (hst.2 z)
    rw[(h1 s hs).2 c,(h1 t ht).2 c'];refine h.i2 s t hs ht hX fun k hk1 hk2=>?_
    have:=hk k hk1 yie
    rwa [(h1 s hs).2 c,(h1 t ht).2 c'] at this
end
def zb3:List Nat->PT->PT
 | [],p=>p
 | g::l,p=>zb3 l (zbt p g)
structure MidH (M:Nat->Prop) (p:PT):Prop where
 one:∀ s t,s<p.N->t<p.N->p.grp s=p.grp t->p.md (p.grp s)=0->(M s↔M t)
 mks:∀ x,x<p.N->0<p.md (p.grp x)->(Mk p x↔M x)
theorem zmk {p:PT} (h:PInv p) {x:Nat} (hx:x<p.N) (h0:p.md (p.grp x)=0):¬ Mk p x:=fun e=>by
 have:=h.lo x hx;unfold Mk at e;omega
section
variable {alk:Nat->Nat->Prop} {A:(Nat->Prop)->Prop} {g:Nat} {M:Nat->Prop}
theorem zkx (hMa:∀ s t,alk s t->(M s↔M t)):∀ (l:List Nat) (p:PT),PInv p->HI alk A g p->MidH M p->g<=p.n->l.Nodup->(∀ k,k<p.n->(k∈l↔0<p.md k))->(∀ k∈l,k<p.n)->
 PInv (zb3 l p)∧(zb3 l p).N=p.N∧HI alk A g (zb3 l p)∧p.n<=(zb3 l p).n∧(∀ k,k<(zb3 l p).n->(zb3 l p).md k=0)∧(∀ s t,s<p.N->t<p.N->(zb3 l p).grp s=(zb3 l p).grp t->p.grp s=p.grp t∧(M s↔M t))
 | [],p,hp,hh,hm,hg,hn,hl,hk=>by
  have h0:∀ k,k<p.n->p.md k=0:=fun k hk'=>by
   have:=hl k hk';simp at this;omega
  exact⟨hp,rfl,hh,yez _,h0,fun s t hs ht e=>⟨e,hm.one s t hs ht e (h0 _ (hp.gn s hs))⟩⟩
 | b::l,p,hp,hh,hm,hg,hn,hl,hk=>by
  have hb:b<p.n:=hk b yii;have h0:0<p.md b:=(hl b hb).1 yii;obtain⟨q1,q2,q3,q4,q5⟩:=zr7 hp hb h0;obtain⟨q,hq⟩:∃ q,zbt p b=q:=⟨_,rfl⟩
  show PInv (zb3 l (zbt p b))∧(zb3 l (zbt p b)).N=p.N∧HI alk A g (zb3 l (zbt p b))∧p.n<=(zb3 l (zbt p b)).n∧(∀ k,k<(zb3 l (zbt p b)).n->(zb3 l (zbt p b)).md k=0)∧(∀ s t,s<p.N->t<p.N->(zb3 l (zbt p b)).grp s=(zb3 l (zbt p b)).grp t->p.grp s=p.grp t∧(M s↔M t))
  rw[hq] at q1 q2 q3 q4 q5 ⊢;have hnn:p.n<=q.n:=by rcases q3 with ⟨e,_⟩|⟨e,_⟩ <;> omega
  have hbl:b∉l:=(yhd.1 hn).1;have hmd:∀ x,x<p.N->p.grp x=b->q.md (q.grp x)=0:=fun x hx hxb=>by
   rcases yhu (q.md (q.grp x)) with z|z
   .exact z
   .exfalso;have hgx:q.grp x<q.n:=q1.gn x (q2▸hx);obtain⟨b1,b2⟩:=q1.ne _ hgx;have b3:=q1.md _ hgx;obtain⟨o1,o2⟩:=q1.of (q.grp x) (q.bg (q.grp x)) hgx (yez _) b1;have hy:q.st (q.bg (q.grp x))<p.N:=q2▸q1.stN _ o1;have hmy:Mk q (q.st (q.bg (q.grp x))):=by
     unfold Mk;rw[o2,q1.ats _ o1];omega
    have:=(q4 _ hy).1 hmy;have hr:=q3.ref hp hy hx o2;exact this.2 (hr.trans hxb)
  have hmd2:∀ x,x<p.N->p.grp x≠b->q.grp x=p.grp x∧q.md (q.grp x)=p.md (p.grp x):=fun x hx hxb=>by
   have e:q.grp x=p.grp x:=by
    rcases q3 with ⟨_,h1,_⟩|⟨_,h1|h1⟩
    .exact h1 x hx
    all_goals
     refine (h1 x hx).2 fun z=>hxb ((h1 x hx).1.1 z).1
   exact⟨e,by rw[e];exact q5 _ (hp.gn x hx) hxb⟩
  have hmid:MidH M q:=by
   refine⟨fun s t hs ht e hz=>?_,fun x hx hz=>?_⟩
   .rw[q2] at hs ht;have e':=q3.ref hp hs ht e
    by_cases c:p.grp s=b
    .have h2:=q3.mk hp hs ht c e;rw[←hm.mks s hs (by rw[c];exact h0),←hm.mks t ht (by rw[←e',c];exact h0)];exact h2
    .obtain⟨e1,e2⟩:=hmd2 s hs c;exact hm.one s t hs ht e' (by rw[←e2];exact hz)
   .rw[q2] at hx;have c:p.grp x≠b:=fun c=>by rw[hmd x hx c] at hz;omega
    obtain⟨e1,e2⟩:=hmd2 x hx c;rw[q4 x hx,hm.mks x hx (by rw[←e2];exact hz)];exact⟨fun z=>z.1,fun z=>⟨z,c⟩⟩
  have hhi:HI alk A g q:=hh.part hp q2 q3 hg fun s t hs ht ha hsb=>by
   have e:=hh.i0 s t hs ht ha;rw[hm.mks s hs (by rw[hsb];exact h0),hm.mks t ht (by rw[←e,hsb];exact h0)];exact hMa s t ha
  have hset:∀ k,k<q.n->(k∈l↔0<q.md k):=fun k hkq=>by
   obtain⟨b1,b2⟩:=q1.ne k hkq;obtain⟨o1,o2⟩:=q1.of k (q.bg k) hkq (yez _) b1;have hy:q.st (q.bg k)<p.N:=q2▸q1.stN _ o1
   by_cases c:p.grp (q.st (q.bg k))=b
   .have:=hmd _ hy c;rw[o2] at this;constructor
    .intro hkl;exfalso;have hkn:k<p.n:=hk k (by simp[hkl]);have hkb:k≠b:=fun e=>hbl (e▸hkl)
     obtain⟨c1,c2⟩:=hp.ne k hkn;have h3:=(hl k hkn).1 (by simp[hkl]);have:=q5 k hkn hkb;omega
    .intro z;omega
   .obtain⟨e1,e2⟩:=hmd2 _ hy c;rw[o2] at e1 e2;have hkn:k<p.n:=(by have:=hp.gn _ hy;omega);have hkb:k≠b:=fun e=>c (e1.symm.trans e)
    have h3:=hl k hkn;simp only[yfi] at h3;rw[e2,←e1,←h3];exact⟨fun z => .inr z,fun z=>z.elim (fun e=>absurd e hkb) id⟩
  obtain⟨r1,r2,r3,r4,r5,r6⟩:=zkx hMa l q q1 hhi hmid yie (yhd.1 hn).2 hset (fun k hkl=>by have:=hk k (by simp[hkl]);omega);refine⟨r1,r2.trans q2,r3,by omega,r5,fun s t hs ht e=>?_⟩;obtain⟨z1,z2⟩:=r6 s t (q2▸hs) (q2▸ht) e;exact⟨q3.ref hp hs ht z1,z2⟩
end
end
section
open Go
def cntG (grp:Nat->Nat):Nat->Nat->Nat
 | 0,g=>0
 | S+1,g=>cntG grp S g+if grp S=g then 1 else 0
def bgG (grp:Nat->Nat) (N:Nat):Nat->Nat
 | 0=>0
 | g+1=>bgG grp N g+cntG grp N g
def layG (grp:Nat->Nat) (N:Nat):Nat->(Nat->Nat)×(Nat->Nat)×(Nat->Nat)
 | 0=>(fun _=>0,fun _=>0,bgG grp N)
 | S+1=>(upd (layG grp N S).1 ((layG grp N S).2.2 (grp S)) S,upd (layG grp N S).2.1 S ((layG grp N S).2.2 (grp S)),upd (layG grp N S).2.2 (grp S) ((layG grp N S).2.2 (grp S)+1))
def newF (grp:Nat->Nat) (N n:Nat):PT:=⟨N,n,(layG grp N N).1,(layG grp N N).2.1,grp,bgG grp N,(layG grp N N).2.2,fun _=>0⟩
section
variable {grp:Nat->Nat} {N n:Nat}
theorem zx5 (g:Nat) {S T:Nat} (h:S<=T):cntG grp S g<=cntG grp T g:=by
 induction T with
 | zero =>
  have:S=0:=by omega
  subst this;exact yez _
 | succ T ih =>
  by_cases e:S=T+1
  .subst e;exact yez _
  .have:=ih yie;rw[cntG];omega
theorem zgk {s T:Nat} (h:s<T):cntG grp s (grp s)<cntG grp T (grp s):=by
 have h1:=zx5 (grp:=grp) (grp s) (show s+1<=T from h);rw[cntG,if_pos rfl] at h1;omega
theorem zg1 {g k:Nat} (h:g<k):bgG grp N g+cntG grp N g<=bgG grp N k:=by
 induction k with
 | zero=>omega
 | succ k ih =>
  rw[bgG]
  by_cases e:g=k
  .subst e;exact yez _
  .have:=ih yie;omega
theorem zi0:∀ S g,(layG grp N S).2.2 g=bgG grp N g+cntG grp S g
 | 0,g=>by simp[layG,cntG]
 | S+1,g=>by
  rw[layG,cntG];simp only
  by_cases e:g=grp S
  .subst e;rw[zac,zi0 S,if_pos rfl];omega
  .rw[zao _ _ e,zi0 S,if_neg (fun h=>e h.symm)];rfl
def posG (grp:Nat->Nat) (N s:Nat):Nat:=bgG grp N (grp s)+cntG grp s (grp s)
theorem zwb:∀ S s,s<S->(layG grp N S).2.1 s=posG grp N s
 | 0,s,h=>by omega
 | S+1,s,h=>by
  rw[layG];simp only
  by_cases e:s=S
  .subst e;rw[zac,zi0];rfl
  .rw[zao _ _ e];exact zwb S s yie
theorem zyn {s t:Nat} (hs:s<N) (ht:t<N) (e:posG grp N s=posG grp N t):s=t:=by
 unfold posG at e;have h1:=zgk (grp:=grp) hs;have h2:=zgk (grp:=grp) ht;rcases yhp (grp s) (grp t) with h|h|h
 .have:=zg1 (grp:=grp) (N:=N) h;omega
 .rw[h] at e h1;rcases yhp s t with h3|h3|h3
  .have h4:=zgk (grp:=grp) h3;rw[h] at h4;omega
  .exact h3
  .have h4:=zgk (grp:=grp) h3;omega
 .have:=zg1 (grp:=grp) (N:=N) h;omega
theorem zwa:∀ S,S<=N->∀ s,s<S->(layG grp N S).1 (posG grp N s)=s
 | 0,_,s,h=>by omega
 | S+1,hS,s,h=>by
  rw[layG];simp only;have hp:(layG grp N S).2.2 (grp S)=posG grp N S:=zi0 S _;rw[hp]
  by_cases e:s=S
  .subst e;rw[zac]
  .rw[zao _ _ (fun h'=>e (zyn yie yie h'))];exact zwa S yie s yie
def sumG (grp:Nat->Nat) (S:Nat):Nat->Nat
 | 0=>0
 | g+1=>sumG grp S g+cntG grp S g
theorem zns (S:Nat):∀ n,sumG grp (S+1) n=sumG grp S n+if grp S<n then 1 else 0
 | 0=>by simp[sumG]
 | n+1=>by
  rw[sumG,sumG,zns S n,cntG]
  by_cases e:grp S=n
  .rw[if_neg yie,if_pos e,if_pos yie];omega
  .by_cases e2:grp S<n
   .rw[if_pos e2,if_neg e,if_pos yie];omega
   .rw[if_neg e2,if_neg e,if_neg yie];omega
theorem zgo:∀ S,(∀ s,s<S->grp s<n)->sumG grp S n=S
 | 0,_=>by
  have:∀ n,sumG grp 0 n=0:=fun n=>by
   induction n with
   | zero=>rfl
   | succ n ih=>rw[sumG,ih];rfl
  exact this n
 | S+1,h=>by
  rw[zns,zgo S (fun s hs=>h s yie),if_pos (h S yie)]
theorem zsc (n:Nat):bgG grp N n=sumG grp N n:=by
 induction n with
 | zero=>rfl
 | succ n ih=>rw[bgG,sumG,ih]
theorem znl:∀ n i,i<bgG grp N n->∃ g,g<n∧bgG grp N g<=i∧i<bgG grp N g+cntG grp N g
 | 0,i,h=>by simp[bgG] at h
 | n+1,i,h=>by
  rw[bgG] at h
  by_cases c:i<bgG grp N n
  .obtain⟨g,h1,h2⟩:=znl n i c;exact⟨g,by omega,h2⟩
  .exact⟨n,by omega,by omega,h⟩
theorem zlt (g:Nat):∀ S j,j<cntG grp S g->∃ s,s<S∧grp s=g∧cntG grp s g=j
 | 0,j,h=>by simp[cntG] at h
 | S+1,j,h=>by
  by_cases c:j<cntG grp S g
  .obtain⟨s,h1,h2⟩:=zlt g S j c;exact⟨s,by omega,h2⟩
  .rw[cntG] at h
   by_cases e:grp S=g
   .rw[if_pos e] at h;exact⟨S,by omega,e,by omega⟩
   .rw[if_neg e] at h;omega
theorem znk (hg:∀ s,s<N->grp s<n) {i:Nat} (hi:i<N):∃ s,s<N∧posG grp N s=i:=by
 have h1:bgG grp N n=N:=(by rw[zsc,zgo N hg]);obtain⟨g,_,h3,h4⟩:=znl (grp:=grp) (N:=N) n i yie;obtain⟨s,h5,h6,h7⟩:=zlt (grp:=grp) g N (i-bgG grp N g) yie;refine⟨s,h5,?_⟩;unfold posG;rw[h6,h7];omega
theorem zv3 (hg:∀ s,s<N->grp s<n) {s:Nat} (hs:s<N):posG grp N s<N:=by
 have h1:bgG grp N n=N:=(by rw[zsc,zgo N hg]);have h2:=zgk (grp:=grp) hs;have h3:=zg1 (grp:=grp) (N:=N) (hg s hs);unfold posG;omega
theorem ybo (hg:∀ s,s<N->grp s<n) (hne:∀ g,g<n->∃ s,s<N∧grp s=g):PInv (newF grp N n):=by
 have h1:bgG grp N n=N:=(by rw[zsc,zgo N hg]);have hat:∀ s,s<N->(newF grp N n).at' s=posG grp N s:=fun s hs=>zwb N s hs
 have hst:∀ s,s<N->(newF grp N n).st (posG grp N s)=s:=fun s hs=>zwa N (yez _) s hs
 have hen:∀ g,(newF grp N n).en g=bgG grp N g+cntG grp N g:=fun g=>zi0 N g
 refine⟨fun i hi=>?_,fun s hs=>?_,fun s hs=>?_,fun i hi=>?_,hg,fun s hs=>?_,fun g i hgn a b=>?_,fun g hgn=>?_,fun g hgn=>?_⟩
 .obtain⟨s,hs,rfl⟩:=znk hg (show i<N from hi);rw[hst s hs];exact hs
 .rw[hat s hs];exact zv3 hg hs
 .rw[hat s hs,hst s hs]
 .obtain⟨s,hs,rfl⟩:=znk hg (show i<N from hi);rw[hst s hs,hat s hs]
 .rw[hat s hs,hen]
  show bgG grp N (grp s)<=posG grp N s∧posG grp N s<bgG grp N (grp s)+cntG grp N (grp s)
  have:=zgk (grp:=grp) (show s<N from hs);unfold posG;omega
 .rw[hen] at b;change bgG grp N g<=i at a;have h3:=zg1 (grp:=grp) (N:=N) (show g<n from hgn);obtain⟨s,h5,h6,h7⟩:=zlt (grp:=grp) g N (i-bgG grp N g) yie;have hp:posG grp N s=i:=(by unfold posG;rw[h6,h7];omega);refine⟨show i<N by omega,?_⟩;rw[←hp,hst s h5];exact h6
 .rw[hen];have h3:=zg1 (grp:=grp) (N:=N) (show g<n from hgn);obtain⟨s,hs,e⟩:=hne g hgn;have h4:=zgk (grp:=grp) hs;rw[e] at h4
  show bgG grp N g<bgG grp N g+cntG grp N g∧bgG grp N g+cntG grp N g<=N
  omega
 .rw[hen]
  show bgG grp N g+0<=bgG grp N g+cntG grp N g
  omega
end
end
section
open Go Go.ChangeShapes Go.WideShapes Go.ChangeAt Go.RowKit
theorem Tryd.ownKnobNone:ownKnob Tryd.prog.godebug=none:=by kernel_rfl
theorem Tryd.laidOutOk:laidOutB Tryd.prog=true:=by kernel_rfl
section
variable {H:Type} {enc:TypeId×Value->H} {W:World} {base:Nat} {spare:Nat->Bool} {held:Bool} {v:Value} {d:DataW H} {ps:List MemPlace}
theorem zta (hv:Value.okWide Tryd.prog W .any base 24 v) (h:DataW.Trod enc Tryd.prog W 0 (fun _=>true) held 24 v d ps):
 ∃ A n cap xs,v = .slice A n cap∧n=xs.length∧RdB W W.heap.size A xs∧(∀ k,k<xs.length->0<=xs.getD k 0∧xs.getD k 0<=255)∧n<=cap∧cap<=maxLen:=by
 obtain⟨A,n,cap,rfl⟩:=okWide_slice Tryd.underlying24 hv;obtain⟨fuel,hf⟩:=h;rcases open_ints Tryd.underlying24 Tryd.underlying5 yih hf with ⟨hcs,_⟩|⟨x,l,c,zs,hcs,_,hl,hm,hz,_,hcell,hwz⟩
 .simp[Value.cells] at hcs;obtain⟨rfl,rfl,rfl⟩:=hcs;exact⟨none,0,0,[],rfl,rfl,fun k hk=>by simp at hk,fun k hk=>by simp at hk,yez _,yf8 _⟩
 .simp[Value.cells] at hcs;obtain⟨rfl,rfl,rfl⟩:=hcs;simp at hz;refine⟨_,n,cap,zs.take n,rfl,by simp;omega,?_,?_,hl,hm⟩
  .intro k hk;simp at hk;obtain⟨b,off,rfl,hc⟩:=ints_at hcell yie;have hck:=hc k yie;refine⟨b,off,rfl,ygk W ⟨b,off+k,none⟩ hck,?_⟩;rw[hck,yf0,yf0,ygt yie]
  .intro k hk;have hk':=hk;simp at hk';have hb:=range_u8 hwz k;rw[yf0,ygt yie];exact hb
end
end
section
open Go
def zcw (κ nx:Nat->Nat):Nat->Nat->List Nat->List Nat->List Nat×List Nat
 | 0,c,fs,row=>(fs,row)
 | k+1,c,fs,row=>if κ (nx c)∈fs.map κ then zcw κ nx k (c+1) fs (row++[idxM (fs.map κ) (κ (nx c))]) else zcw κ nx k (c+1) (fs++[nx c]) (row++[fs.length])
def zf9 (κ:Nat->Nat) (δ:Nat->Nat->Nat) (C:Nat):Nat->Nat->List Nat->List (List Nat)->List Nat×List (List Nat)
 | 0,i,fs,rows=>(fs,rows)
 | fu+1,i,fs,rows=>match fs[i]? with
  | none=>(fs,rows)
  | some s=>zf9 κ δ C fu (i+1) (zcw κ (δ s) C 0 fs []).1 (rows++[(zcw κ (δ s) C 0 fs []).2])
section
variable {κ κ' nx:Nat->Nat} {δ:Nat->Nat->Nat} {C N:Nat}
structure Met (κ:Nat->Nat) (N:Nat) (fs:List Nat):Prop where
 lt:∀ s∈fs,s<N
 nod:(fs.map κ).Nodup
theorem Met.push {fs:List Nat} (h:Met κ N fs) {t:Nat} (ht:t<N) (hn:κ t∉fs.map κ):Met κ N (fs++[t]):=by
 refine⟨fun s hs=>?_,?_⟩
 .rw[yfm,yfn] at hs;rcases hs with hs|rfl
  .exact h.lt s hs
  .exact ht
 .rw[yfu,ygn];refine⟨h.nod,by simp,fun a ha b hb e=>?_⟩;simp at hb;subst hb;exact hn (e▸ha)
theorem zgw:∀ (k c:Nat) (fs row:List Nat),(∀ d,d<c+k->nx d<N)->Met κ N fs->Met κ N (zcw κ nx k c fs row).1
 | 0,c,fs,row,hx,h=>h
 | k+1,c,fs,row,hx,h=>by
  rw[zcw];split
  .exact zgw k (c+1) fs _ (fun d hd=>hx d yie) h
  .rename_i hn;exact zgw k (c+1) _ _ (fun d hd=>hx d yie) (h.push (hx c yie) hn)
theorem zw0 {k c i:Nat} {fs row:List Nat} (hi:(fs.map κ)[i]?=some (κ (nx c))) (hno:∀ j,j<i->(fs.map κ)[j]?≠some (κ (nx c))):zcw κ nx (k+1) c fs row=zcw κ nx k (c+1) fs (row++[i]):=by
 have hm:κ (nx c)∈fs.map κ:=yfh hi;have e:idxM (fs.map κ) (κ (nx c))=i:=by
  have h1:=zq1 hm;rcases yhp (idxM (fs.map κ) (κ (nx c))) i with e|e|e
  .exact absurd h1 (hno _ e)
  .exact e
  .exfalso;unfold idxM at e;have:=List.not_of_lt_findIdx (p:=fun x=>x==κ (nx c)) (xs:=fs.map κ) (i:=i) (by simpa [List.idxOf] using e);obtain⟨hk,he⟩:=yf4.1 hi;rw[he] at this;simp at this
 rw[zcw,if_pos hm,e]
theorem zw1 {k c:Nat} {fs row:List Nat} (hno:∀ j,j<fs.length->(fs.map κ)[j]?≠some (κ (nx c))):zcw κ nx (k+1) c fs row=zcw κ nx k (c+1) (fs++[nx c]) (row++[fs.length]):=by
 have hm:κ (nx c)∉fs.map κ:=fun hm=>by
  obtain⟨j,hj⟩:=ygr hm;exact hno j (by have:=(yf4.1 hj).1;simpa using this) hj
 rw[zcw,if_neg hm]
theorem zw2 {fu i s:Nat} {fs:List Nat} {rows:List (List Nat)} (hs:fs[i]?=some s) {fs' row:List Nat} (hr:zcw κ (δ s) C 0 fs []=(fs',row)):zf9 κ δ C (fu+1) i fs rows=zf9 κ δ C fu (i+1) fs' (rows++[row]):=by
 rw[zf9,hs];simp only;rw[hr]
theorem zw3 {fu i:Nat} {fs:List Nat} {rows:List (List Nat)} (hs:fs[i]?=none):zf9 κ δ C (fu+1) i fs rows=(fs,rows):=by
 rw[zf9,hs]
end
end
section
open Go
def zbx (E:List (Nat×Nat)) (i:Nat):List Nat:=(E.filter fun e=>decide (e.1=i)).map (·.2)
def cntE (E:List (Nat×Nat)) (i:Nat):Nat:=(zbx E i).length
def endE (E:List (Nat×Nat)):Nat->Nat
 | 0=>cntE E 0
 | i+1=>endE E i+cntE E (i+1)
def begE (E:List (Nat×Nat)) (i:Nat):Nat:=endE E i-cntE E i
def layE:List (Nat×Nat)->(Nat->Nat)×(Nat->Nat)->(Nat->Nat)×(Nat->Nat)
 | [],r=>r
 | (k,v)::l,(b,f)=>layE l (upd b k (b k-1),upd f (b k-1) v)
theorem zgm (D E:List (Nat×Nat)) (i:Nat):zbx (D++E) i=zbx D i++zbx E i:=by simp[zbx]
theorem zev (D E:List (Nat×Nat)) (i:Nat):cntE (D++E) i=cntE D i+cntE E i:=by simp[cntE,zgm]
theorem zdh (k v i:Nat):zbx [(k,v)] i=if k=i then [v] else []:=by
 unfold zbx
 by_cases h:k=i <;> simp[h]
theorem ze2 (E:List (Nat×Nat)) (i:Nat):begE E i+cntE E i=endE E i∧begE E (i+1)=endE E i:=by
 unfold begE;have h:cntE E i<=endE E i:=by cases i <;> simp[endE]
 refine⟨by omega,?_⟩;rw[endE];omega
theorem zov (E:List (Nat×Nat)) {i j:Nat} (h:i<j):endE E i<=begE E j:=by
 induction j with
 | zero=>omega
 | succ j ih =>
  rw[(ze2 E j).2]
  by_cases e:i=j
  .subst e;exact yez _
  .have:=ih yie;have:=(ze2 E j).1;omega
structure LayI (E D:List (Nat×Nat)) (b f:Nat->Nat):Prop where
 beg:∀ i,b i=endE E i-cntE D i
 vals:∀ i j v,(zbx D i)[j]?=some v->f (endE E i-1-j)=v
theorem zwc {E:List (Nat×Nat)}:∀ (l D:List (Nat×Nat)) (b f:Nat->Nat),E=D++l->LayI E D b f->LayI E E (layE l (b,f)).1 (layE l (b,f)).2
 | [],D,b,f,hE,h=>by
  rw[ygm] at hE;subst hE;exact h
 | (k,v)::l,D,b,f,hE,h=>by
  have hE':E=(D++[(k,v)])++l:=(by rw[hE];simp);have hc:∀ i,cntE D i+(if k=i then 1 else 0)<=cntE E i:=fun i=>by
   rw[hE',zev,zev];have:cntE [(k,v)] i=if k=i then 1 else 0:=by unfold cntE;rw[zdh];split <;> rfl
   omega
  have hck:=hc k;rw[if_pos rfl] at hck;have hbk:=h.beg k;have hek:=ze2 E k
  show LayI E E (layE l (upd b k (b k-1),upd f (b k-1) v)).1 (layE l (upd b k (b k-1),upd f (b k-1) v)).2
  refine zwc l (D++[(k,v)]) _ _ hE' ⟨fun i=>?_,fun i j x hx=>?_⟩
  .rw[zev];have e1:cntE [(k,v)] i=if k=i then 1 else 0:=by unfold cntE;rw[zdh];split <;> rfl
   by_cases c:i=k
   .subst c;rw[zac,e1,if_pos rfl];omega
   .rw[zao _ _ c,e1,if_neg (fun e=>c e.symm),h.beg i];rfl
  .rw[zgm,zdh] at hx
   by_cases c:k=i
   .subst c;rw[if_pos rfl] at hx
    by_cases cj:j<(zbx D k).length
    .rw[yfb cj] at hx;have hcd:j<cntE D k:=cj;rw[zao _ _ yie];exact h.vals k j x hx
    .have hj:j=cntE D k:=by
      have:=(yf4.1 hx).1;rw[yfd,ygd] at this;unfold cntE;omega
     rw[yfc yie] at hx;have:(zbx D k).length=cntE D k:=rfl;rw[this,hj,ygf] at hx;simp at hx;subst hx;have e2:endE E k-1-j=b k-1:=yie;rw[e2,zac]
   .rw[if_neg c,ygm] at hx;have hj:j<cntE D i:=(yf4.1 hx).1;have hci:=hc i;rw[if_neg c] at hci;have hei:=ze2 E i;rw[zao _ _ ?_]
    .exact h.vals i j x hx
    .rcases ygs i k with hik|hik
     .have:=zov E hik;omega
     .have:=zov E (show k<i by omega);omega
theorem zrk {E:List (Nat×Nat)} {f:Nat->Nat} (i:Nat):(layE E (endE E,f)).1 i=begE E i∧(List.range (cntE E i)).map (fun j=>(layE E (endE E,f)).2 (begE E i+j))=(zbx E i).reverse:=by
 have h0:LayI E [] (endE E) f:=⟨fun i=>by simp[cntE,zbx],fun i j v hv=>by simp[zbx] at hv⟩;have h:=zwc (E:=E) E [] (endE E) f yii h0;refine⟨h.beg i,?_⟩;have he:=ze2 E i;apply ygi;intro j
 by_cases hj:j<cntE E i
 .have hl:cntE E i-1-j<(zbx E i).length:=(by unfold cntE at hj ⊢;omega);have hv:=h.vals i (cntE E i-1-j) _ (yey hl);have hpos:endE E i-1-(cntE E i-1-j)=begE E i+j:=yie;rw[hpos] at hv;rw[List.getElem?_reverse (by unfold cntE at hj;exact hj),yfs,yhe hj]
  show some _=(zbx E i)[(zbx E i).length-1-j]?
  rw[show (zbx E i).length-1-j=cntE E i-1-j from rfl,yey hl,←hv]
 .rw[yfj yil,yfj (by simp;unfold cntE at hj;omega)]
end
section
open Go
def rowE (δ:Nat->Nat->Nat) (C s:Nat):List (Nat×Nat):=(List.range C).map fun c=>(δ s c*C+c,s)
def zdu (δ:Nat->Nat->Nat) (C:Nat):Nat->List (Nat×Nat)
 | 0=>[]
 | s+1=>zdu δ C s++rowE δ C s
theorem yan {a b c d C:Nat} (hc:c<C) (hd:d<C):a*C+c=b*C+d↔a=b∧c=d:=by
 constructor
 .intro h;have h1:(a*C+c) / C=(b*C+d) / C:=(by rw[h]);have h2:(a*C+c) % C=(b*C+d) % C:=(by rw[h]);have hC:0<C:=yie;rw[ygv a,ygv b,Nat.mul_add_div hC,Nat.mul_add_div hC,Nat.div_eq_of_lt hc,Nat.div_eq_of_lt hd] at h1;rw[ygv a,ygv b,Nat.mul_add_mod,Nat.mul_add_mod,yh8 hc,yh8 hd] at h2;exact⟨by omega,h2⟩
 .rintro⟨rfl,rfl⟩;rfl
theorem znm (δ:Nat->Nat->Nat) (C s t c:Nat) (hc:c<C):∀ k,k<=C->zbx ((List.range k).map fun c=>(δ s c*C+c,s)) (t*C+c)=if c<k∧δ s c=t then [s] else []
 | 0,_=>by simp[zbx]
 | k+1,hk=>by
  rw[ygh,yfu,zgm,znm δ C s t c hc k yie]
  show _++zbx [(δ s k*C+k,s)] (t*C+c)=_
  rw[zdh]
  by_cases e:c=k
  .subst e;rw[if_neg yie,yhc]
   by_cases e2:δ s c=t
   .rw[if_pos (by rw[e2]),if_pos ⟨by omega,e2⟩]
   .rw[if_neg (fun h=>e2 ((yan yie hc).1 h).1),if_neg (fun h=>e2 h.2)]
  .rw[if_neg (fun h=>e ((yan yie hc).1 h).2.symm),ygm]
   by_cases e2:c<k∧δ s c=t
   .rw[if_pos e2,if_pos ⟨by omega,e2.2⟩]
   .rw[if_neg e2,if_neg];rintro⟨h1,h2⟩;exact e2 ⟨by omega,h2⟩
theorem zho (δ:Nat->Nat->Nat) (C t c:Nat) (hc:c<C):∀ S,zbx (zdu δ C S) (t*C+c)=(List.range S).filter fun s=>decide (δ s c=t)
 | 0=>by simp[zdu,zbx]
 | S+1=>by
  rw[zdu,zgm,zho δ C t c hc S,rowE,znm δ C S t c hc C (yez _),ygh,yh7]
  congr 1
  by_cases e:δ S c=t <;> simp[e,hc]
def toW (δ:Nat->Nat->Nat) (C S t c:Nat):List Nat:=(zbx (zdu δ C S) (t*C+c)).reverse
theorem zlz {δ:Nat->Nat->Nat} {C S t c:Nat} (hc:c<C) (s:Nat):s∈toW δ C S t c↔s<S∧δ s c=t:=by
 unfold toW;rw[List.mem_reverse,zho δ C t c hc];simp
theorem znp {δ:Nat->Nat->Nat} {C S t c:Nat} (hc:c<C):(toW δ C S t c).Nodup:=by
 unfold toW;rw[ygp,List.pairwise_reverse,zho δ C t c hc];exact (List.Pairwise.filter _ (ygp.1 List.nodup_range)).imp fun h e=>h e.symm
def zcp (δ:Nat->Nat->Nat) (C S c:Nat) (goals:List Nat):List Nat:=goals.flatMap fun t=>toW δ C S t c
theorem ziz {δ:Nat->Nat->Nat} {C S c:Nat} (hc:c<C) (goals:List Nat) (s:Nat):s∈zcp δ C S c goals↔s<S∧δ s c∈goals:=by
 unfold zcp;rw[List.mem_flatMap];constructor
 .rintro⟨t,ht,hs⟩;obtain⟨h1,h2⟩:=(zlz hc s).1 hs;exact⟨h1,h2▸ht⟩
 .rintro⟨h1,h2⟩;exact⟨_,h2,(zlz hc s).2 ⟨h1,rfl⟩⟩
theorem zg8 {δ:Nat->Nat->Nat} {C S c:Nat} (hc:c<C):∀ goals:List Nat,goals.Nodup->(zcp δ C S c goals).Nodup
 | [],_=>by simp[zcp]
 | t::l,h=>by
  obtain⟨h1,h2⟩:=yhd.1 h
  show (toW δ C S t c++zcp δ C S c l).Nodup
  rw[ygn];refine⟨znp hc,zg8 hc l h2,fun a ha b hb e=>?_⟩;subst e;obtain⟨_,e1⟩:=(zlz hc a).1 ha;obtain⟨_,e2⟩:=(ziz hc l a).1 hb;exact h1 (e1▸e2)
end
theorem ye0 (a b:Int) (w:World):(binOp .eql 40 (.iface 74 (.int .i64 a)) (.iface 74 (.int .i64 b))).run Tryd.prog w = .ok (.bool (a==b)) w:=by kernel_rfl
theorem zqc (w:World) (c:Nat) (h1:1<=c) (h2:c<=11):Calls Tryd.prog 9 #[.iface 74 (.int .i64 (c:Int))] w fun e w'=>e = .returned (.int .i64 (c:Int))∧w=w':=by
 have he:=ye0;go_enter Tryd.func9,Tryd.ntmps9;go_wp2;go_loopg [3] 12 (fun m s wr=>∃ j:Nat,s = .int .i64 (j:Int)∧1<=j∧j<=c∧m=13-j∧wr=w)
 case atStart=>exact⟨1,by first | rfl | trivial,yez _,h1,by first | rfl | trivial,rfl⟩
 case round =>
  obtain⟨j,rfl,hj1,hj,hm,hww⟩:=hrel;obtain rfl:=hww.symm;have HM:=Zh hm;clear hm;have i1:(j:Int)<=11:=by omega
  by_cases hjc:j=c
  .subst hjc;go_wp2;go_ret;exact⟨rfl,rfl⟩
  .have hq:((c:Int)==(j:Int))=false:=yil;go_wp2;go_roundg (13-(j+1))
   case measure=>have:=HM.o;omega
   case rel=>exact⟨j+1,by go_num,by omega,by omega,rfl,rfl⟩
theorem yce (p:Nat->Bool) (b:Nat):(bits .and .u64 (word p (b / 64) / 2 ^ (b % 64)) 1==1)=p b:=by
 have h:=zmx p (b % 64+64*0:Nat);have e:((2:Int) ^ (b % 64))=((2 ^ (b % 64):Nat):Int):=yii;have lt:zbl p (b / 64) / 2 ^ (b % 64)<18446744073709551616:=Nat.lt_of_le_of_lt (Nat.div_le_self _ _) (zcd _ _);unfold word;rw[e,←Int.natCast_ediv,show (1:Int)=((1:Nat):Int) from rfl,bits_and_u64_nat _ _ lt yie];have t:=zau p (b / 64) (b % 64);rw[yh3] at t;have hm:b % 64<64:=yie;have hx:64*(b / 64)+b % 64=b:=yie;rw[hx] at t;simp only[hm,decide_true,yhx] at t;rw[←t,Nat.and_one_is_mod];generalize zbl p (b / 64) / 2 ^ (b % 64)=m;rw[ygc,beq_iff_eq,decide_eq_true_iff];omega
theorem zym (k:Nat) (h:k<64):2 ^ k<18446744073709551616:=by
 have h:=ygq (n:=2) yie (show k<=63 by omega);have e:(2:Nat) ^ 63=9223372036854775808:=yij;omega
theorem ycx (p:Nat->Bool) (b:Nat):bits .or .u64 (word p (b / 64)) (IntKind.u64.wrap (2 ^ (b % 64)))=word (add1 p b) (b / 64):=by
 have e:((2:Int) ^ (b % 64))=((2 ^ (b % 64):Nat):Int):=yii;have lt:=zym (b % 64) yie;have wr:IntKind.u64.wrap ((2 ^ (b % 64):Nat):Int)=((2 ^ (b % 64):Nat):Int):=by
  generalize 2 ^ (b % 64)=m at lt ⊢;exact zdc yie yie
 unfold word;rw[e,wr,bits_or_u64_nat _ _ (zcd _ _) lt,zu6]
def zbi (p q:Nat->Bool):Nat->Bool:=fun x=>p x && !q x
theorem zpx (p q:Nat->Bool) (i:Nat):bits .andNot .u64 (word p i) (word q i)=word (zbi p q) i:=by
 have h1:(BitVec.ofInt 64 ((zbl p i:Nat):Int)).toNat=zbl p i:=by
  rw[BitVec.ofInt_natCast,BitVec.toNat_ofNat];exact yh8 (zcd _ _)
 have h2:(BitVec.ofInt 64 ((zbl q i:Nat):Int)).toNat=zbl q i:=by
  rw[BitVec.ofInt_natCast,BitVec.toNat_ofNat];exact yh8 (zcd _ _)
 have e:zbl p i &&& (2 ^ 64-1-zbl q i)=zbl (zbi p q) i:=by
  apply yga;intro j;have hq:=zcd q i;rw[Nat.testBit_and,show 2 ^ 64-1-zbl q i=2 ^ 64-(zbl q i+1) by omega,yhv yie,zau,zau,zau];cases decide (j<64) <;> simp[zbi]
 unfold word
 show IntKind.u64.wrap ((BitVec.ofInt 64 ((zbl p i:Nat):Int) &&& ~~~ BitVec.ofInt 64 ((zbl q i:Nat):Int)).toNat:Int)=_
 rw[BitVec.toNat_and,BitVec.toNat_not,h1,h2,e,IntKind.wrap_u64];have:=zcd (zbi p q) i;omega
def zdq (q:Nat->Bool) (i p:Nat):Nat:=zdv (fun j=>decide (p<=j)&&q (64*i+j)) 64
theorem zmz (q:Nat->Bool) (i p:Nat):zdq q i p<18446744073709551616:=zn5 64 _
theorem zed (q:Nat->Bool) (i p j:Nat):(zdq q i p).testBit j=(decide (j<64)&&(decide (p<=j)&&q (64*i+j))):=zei 64 _ j
theorem zq9 (q:Nat->Bool) (i:Nat):zdq q i 0=zbl q i:=zds 64 _ _ fun j _=>by simp
theorem ztp {q:Nat->Bool} {i p:Nat} (h:zdq q i p=0) (j:Nat) (h1:p<=j) (h2:j<64):q (64*i+j)=false:=by
 have t:=zed q i p j;rw[h] at t;simp[h1,h2] at t;exact t
theorem zw4:∀ (n x:Nat),x<2 ^ n->x≠0->∃ k m,k<n∧x=2 ^ k*(2*m+1)
 | 0,x,h,h0=>by simp at h;omega
 | n+1,x,h,h0=>by
  by_cases hx:x % 2=1
  .exact⟨0,x / 2,by omega,by omega⟩
  .rw[Nat.pow_succ] at h;obtain⟨k,m,hk,e⟩:=zw4 n (x / 2) yie yie;refine⟨k+1,m,by omega,?_⟩;have:x=2*(x / 2):=by omega
   rw[this,e,Nat.pow_succ,ygv (2 ^ k) 2,Nat.mul_assoc]
theorem zgx (k m j:Nat):(2 ^ k*(2*m+1)).testBit j=(decide (k<=j)&&(2*m+1).testBit (j-k)):=by
 have h:=Nat.testBit_two_pow_mul (i:=k) (a:=2*m+1) (j:=j)
 simpa using h
theorem zri (k m j:Nat):(2 ^ k*(2*m+1)-1).testBit j=if j<k then true else (2*m).testBit (j-k):=by
 have hp:0<2 ^ k:=yhq k;have e:2 ^ k*(2*m+1)-1=2 ^ k*(2*m)+(2 ^ k-1):=(by rw[Nat.mul_add,ygl];omega);rw[e,Nat.testBit_two_pow_mul_add _ yie];split
 .rename_i h;rw[Nat.testBit_two_pow_sub_one];simp[h]
 .rfl
theorem zmi (m j:Nat):(2*m+1).testBit (j+1)=m.testBit j:=by
 rw[Nat.testBit_succ];congr 1;omega
theorem zjv (m j:Nat):(2*m).testBit (j+1)=m.testBit j:=by
 rw[Nat.testBit_succ];congr 1;omega
theorem zz7 (k m:Nat) (h:2 ^ k*(2*m+1)<2 ^ 64):(2 ^ k*(2*m+1)) &&& (2 ^ 64-2 ^ k*(2*m+1))=2 ^ k:=by
 have hp:0<2 ^ k:=yhq k;have h1:0<2 ^ k*(2*m+1):=Nat.mul_pos hp yie;apply yga;intro j;have e:2 ^ 64-2 ^ k*(2*m+1)=2 ^ 64-((2 ^ k*(2*m+1)-1)+1):=yie;rw[Nat.testBit_and,e,yhv yie,zgx,zri,yh4]
 by_cases h2:j<k
 .have:¬ k<=j:=by omega
  have h3:¬ k=j:=yie;simp[this,h3]
 .by_cases h3:j=k
  .subst h3;have h64:j<64:=by
    rcases ygs j 64 with h4|h4
    .exact h4
    .have:=ygq (n:=2) yie h4;have h5:2 ^ j*1<=2 ^ j*(2*m+1):=Nat.mul_le_mul_left _ yie;omega
   simp[h64]
  .obtain⟨d,rfl⟩:∃ d,j=k+(d+1):=⟨j-k-1,by omega⟩;have h4:¬ k=k+(d+1):=yie;rw[show k+(d+1)-k=d+1 by omega,zmi,zjv];simp[h4,h2];exact fun h _=>h
theorem zz8 (k m:Nat):(2 ^ k*(2*m+1)) &&& (2 ^ k*(2*m+1)-1)=2 ^ k*(2*m):=by
 apply yga;intro j;have h:=Nat.testBit_two_pow_mul (i:=k) (a:=2*m) (j:=j);rw[Nat.testBit_and,zgx,zri]
 by_cases h2:j<k
 .have:¬ k<=j:=by omega
  simp[this] at h ⊢
  simpa using h.symm
 .have h6:k<=j:=yie;rw[if_neg h2];simp[h6] at h ⊢;rw[h]
  by_cases h3:j=k
  .subst h3;simp
  .obtain⟨d,rfl⟩:∃ d,j=k+(d+1):=⟨j-k-1,by omega⟩;rw[show k+(d+1)-k=d+1 by omega,zmi,zjv];simp
theorem ztq {q:Nat->Bool} {i p:Nat} (h:zdq q i p≠0):∃ k,p<=k∧k<64∧q (64*i+k)=true∧(∀ j,p<=j->j<k->q (64*i+j)=false)∧
 zdq q i p &&& (zdq q i p-1)=zdq q i (k+1)∧zdq q i p &&& (2 ^ 64-zdq q i p)=2 ^ k:=by
 obtain⟨k,m,hk,e⟩:=zw4 64 (zdq q i p) (zmz q i p) h;have tk:=zed q i p k;rw[e,zgx] at tk;simp[hk] at tk;have hb:∀ j,p<=j->j<k->q (64*i+j)=false:=by
  intro j h1 h2;have t:=zed q i p j;have h3:¬ k<=j:=yie;rw[e,zgx] at t;simp[h3,h1,show j<64 by omega] at t;exact t
 refine⟨k,tk.1,hk,tk.2,hb,?_,?_⟩
 .rw[e,zz8];apply yga;intro j;have hm:=Nat.testBit_two_pow_mul (i:=k) (a:=2*m) (j:=j);have t:=zed q i p j;rw[e,zgx] at t;rw[hm,zed]
  by_cases h2:k+1<=j
  .obtain⟨d,rfl⟩:∃ d,j=k+(d+1):=⟨j-k-1,by omega⟩;rw[show k+(d+1)-k=d+1 by omega,zmi] at t;rw[show k+(d+1)-k=d+1 by omega,zjv];have h5:p<=k+(d+1):=yie;simp[h5] at t;simp[t]
  .by_cases h3:j=k
   .subst h3;simp;omega
   .have h4:¬ k<=j:=yie;have h5:¬ k+1<=j:=yie;simp[h4,h5]
 .rw[e,zz7 k m (by rw[←e];exact zmz q i p)]
def upP (q:Nat->Bool) (m:Nat):List Nat:=(List.range m).filter q
theorem yaz {q:Nat->Bool} {k:Nat} (h:q k=true):upP q (k+1)=upP q k++[k]:=by
 unfold upP;rw[ygh,yh7];simp[h]
theorem zy2 {q:Nat->Bool} {k:Nat} (h:q k=false):upP q (k+1)=upP q k:=by
 unfold upP;rw[ygh,yh7];simp[h]
theorem zlv {q:Nat->Bool} {a:Nat}:∀ (d:Nat),(∀ j,a<=j->j<a+d->q j=false)->upP q (a+d)=upP q a
 | 0,_=>rfl
 | d+1,h=>by rw[←Nat.add_assoc,zy2 (h (a+d) yie yie),zlv d fun j h1 h2=>h j h1 yie]
theorem upP_mem {q:Nat->Bool} {m k:Nat}:k∈upP q m↔k<m∧q k=true:=by simp[upP]
def deBr:List Nat:=[0,1,56,2,57,49,28,3,61,58,42,50,38,29,17,4,62,47,59,36,45,43,51,22,53,39,33,30,24,18,12,5,63,55,48,27,60,41,37,16,46,35,44,21,52,32,23,11,54,26,40,15,34,20,31,10,25,14,19,9,13,8,7,6]
theorem yck:∀ k:Fin 64,deBr.getD ((2 ^ k.val*285870213051353865 % 18446744073709551616) / 288230376151711744) 0=k.val∧(2 ^ k.val*285870213051353865 % 18446744073709551616) / 288230376151711744<64:=by decide +kernel
section
attribute [local go_sem ↓] Go.wp_at_zero Go.wp_at_succ
def Tab (w:World):Prop:=0<w.heap.size∧∀ k,k<64->w.cell? ⟨0,k,none⟩=some (.int .u8 (deBr.getD k 0))
theorem Tab.below {w w':World} {B:Nat} (h:Tab w) (hb:Below B w w') (hB:0<B):Tab w':=⟨yff h.1 hb.size,fun k hk=>(hb.cell (p:=⟨0,k,none⟩) hB).trans (h.2 k hk)⟩
theorem tz_p (w:World) (x k:Nat) (hx:x<18446744073709551616) (hk:k<64) (h:x &&& (2 ^ 64-x)=2 ^ k) (ht:Tab w):Calls Tryd.prog 85 #[.int .u64 x] w fun e w'=>e = .returned (.int .i64 k)∧w=w':=by
 have hx0:x≠0:=by
  rintro rfl;have:=yhq k;simp at h;omega
 have hb0:((x:Int)==0)=false:=yil;have e1:IntKind.u64.wrap (-(x:Int))=((2 ^ 64-x:Nat):Int):=by
  rw[IntKind.wrap_u64];have:(2:Nat) ^ 64=18446744073709551616:=by decide
  omega
 have e2:bits .and .u64 (x:Int) ((2 ^ 64-x:Nat):Int)=((2 ^ k:Nat):Int):=by
  rw[bits_and_u64_nat _ _ hx (by have:(2:Nat) ^ 64=18446744073709551616:=yij;omega),h]
 obtain⟨d1,d2⟩:=yck ⟨k,hk⟩;simp only at d1 d2;have e3:IntKind.u64.wrap (((2 ^ k:Nat):Int)*285870213051353865)=((2 ^ k*285870213051353865 % 18446744073709551616:Nat):Int):=by
  rw[IntKind.wrap_u64];omega
 generalize 2 ^ k*285870213051353865 % 18446744073709551616=y at d1 d2 e3;have hc:=ht.2 _ d2;rw[d1] at hc;generalize hp:((2 ^ k:Nat))=p2 at *;generalize hn:2 ^ 64-x=nx at *;have j1:(y:Int) / 288230376151711744<64:=yie;have j2:((y:Int) / 288230376151711744).toNat=y / 288230376151711744:=yie;have j0:(0:Int)<=(y:Int) / 288230376151711744:=yie;clear d1 h hp hn hx0;go_enter Tryd.func85,Tryd.ntmps85;go_wp2;go_ret;exact⟨rfl,rfl⟩
end
section
def zjd (ops:Array Oper):Bool:=ops.all fun o=>match o.op with | .defer _=>false | _=>true
theorem ztf {ops:Array Oper} (h:zjd ops=true) {i:Nat} {o:Oper} (hi:ops[i]?=some o):∀ c,o.op ≠ .defer c:=by
 intro c hc;unfold zjd at h;rw[Array.all_eq_true] at h;obtain⟨hlt,e⟩:=Array.getElem?_eq_some_iff.1 hi;have:=h i hlt;rw[e,hc] at this;cases this
section
variable {P:Program} {ops:Array Oper} {Q:Exit->Act->World->Prop} {md:Region.Mode} {l n:Nat}
theorem zkf (hd:zjd ops=true) (hL:¬ LetsOut Q) {i:Nat} {K:Act->World->Prop} {a:Act} {w:World} (h:wpOp P ops Q i K a w):wpOpIn (Fence.wide.inRound l) n P ops Q i K a w:=by
 unfold wpOp at h;unfold wpOpIn;cases ho:ops[i]? with
 | none=>rw[ho] at h;exact h
 | some o =>
  rw[ho] at h;simp only at h ⊢;split
  .rename_i hw;rw[if_pos hw] at h;rcases h with h|⟨_,h⟩
   .refine⟨fun _ _=>trivial,?_⟩;rw[Oper.semAt_eq _ _ _ (ztf hd ho)];unfold Oper.wp at h;generalize (execOp a.eval o).run P w=r at h ⊢;cases r with
    | ok x w' =>
     cases x <;> simp only[Oper.upon,Oper.uponIn] at h ⊢
     case value=>exact h
     case skip=>exact h
     case defer=>exact h
     case enter=>exact⟨fun e=>yj0,callsIn_wide.2 h⟩
     case row=>exact⟨fun e=>yj0,fun c cs _=>let ⟨v,w2,r,s⟩:=h c cs;⟨v,w2,r,stepsIn_wide.2 s⟩⟩
    | halt x w'=>cases x <;> simp only[Oper.upon,Oper.uponIn] at h ⊢;exact h
   .exact absurd h hL
  .rename_i hw;rw[if_neg hw] at h;exact⟨fun _ _=>trivial,h⟩
theorem zdf (hd:zjd ops=true) (hL:¬ LetsOut Q):∀ (fuel:Nat) (listed:Array Bool) (a:Act) (w:World),wpAny P md ops Q fuel listed a w->wpAnyIn (Fence.wide.inRound l) n P md ops Q fuel listed a w
 | 0,listed,a,w,h=>h
 | fuel+1,listed,a,w,h=>⟨h.1,fun i hi=>wpOpIn_mono (fun a' w' h'=>zdf hd hL fuel _ a' w' h') (zkf hd hL (h.2 i hi))⟩
end
theorem zde {P:Program} {Q:Exit->Act->World->Prop} {r n id:Nat} {a:Act} {w:World} {l:List Oper} (k:Nat) (hm:P.follows .mixedOrders=true) (hB:Region.lexTailB .any l.toArray k=true) (hd:zjd l.toArray=true) (hL:¬ LetsOut Q)
 (h:wpStill P l.toArray w.drew (fun a'=>wpList P l.toArray Q (l.drop k) a' w.drew) (l.take k) a):(Code.region id l.toArray true).wpIn (Fence.wide.inRound r) n P Q a w:=by
 refine wpIn_region_any hm (zdf hd hL _ _ _ _ ?_);simp only[Region.lexTailB,yh2,decide_eq_true_eq] at hB;have hk:k<l.length:=(by have:=hB.1.1.1.2;simpa using this);have e1:(l.take k).length=k:=(by rw[yg8];omega);have e2:(l.drop k).length=l.toArray.size-k:=yii;have e3:(l.take k).length+(l.toArray.size-k)=l.toArray.size:=(by rw[e1];simp;omega);have start:HeadInv .any l.toArray k (Array.replicate l.toArray.size false):=by
  refine⟨by simp,fun j oj _ hl=>?_,fun t _ ht=>getD_in (by simpa using ht) (getD_replicate_false _ _)⟩;rw[getD_replicate_false] at hl;cases hl
 have hat:∀ j,j<(l.take k).length->(l.take k)[j]?=l.toArray[0+j]?:=fun j hj=>by
  rw[e1] at hj;simp[hj]
 have lex:=wpAnyL_lex (md := .any) (g:=l.toArray.size-k) hB.1.1.1.1 hB.1.1.2 hB.1.2 hB.1.1.1.2 (l.take k) 0 _ a hat yie start (by rw[e1];exact hB.2) h;have tail:=wpAny_of_head (Q':=Q) (g:=l.toArray.size-k) (fun listed a' hs=>?_) _ _ _ lex
 .rwa [e3] at tail
 .have t1:=wpAny_of_seq (md := .any) (Q':=Q) (l.drop k) k listed a' w.drew (fun j=>by simp[List.getElem?_drop]) (by rw[e2];exact hs.1) hs.2
  rwa [e2] at t1
end
section
open Go Go.ChangeShapes Go.WideShapes Go.ChangeAt Go.RowKit
def deInts:List Int:=deBr.map fun (n:Nat)=>(n:Int)
theorem yc4 {H:Type}:(Rows.laid_math_bits_deBruijn64tab:DataW H)=Lib.tabData .u8 deInts:=rfl
theorem gDe : Tryd.prog.globalNamed "math/bits.deBruijn64tab" = some 0 := by kernel_rfl
theorem tDe:(Tryd.prog.globals[0]?).map (·.type)=some 183:=by kernel_rfl
def zl8 : List (String × DataW Unit) := [("math/bits.deBruijn64tab", Rows.laid_math_bits_deBruijn64tab)]
theorem zpi {W:World} (h:laidMetH Tryd.prog zl8 W):Tab W:=by
 rw[MakeChecks.laidMetH_plain _ _ _ yih] at h;unfold zl8 at h;rw[yc4] at h;have ht:=Lib.tabIs_of_head gDe tDe Tryd.underlying183 Tryd.underlying5 yih yih h;have hc:∀ k,k<64->W.cell? ⟨0,k,none⟩=some (.int .u8 (deBr.getD k 0:Nat)):=fun k hk=>by
  have hl:deInts.length=64:=(by decide +kernel);rw[ht.cell gDe k yie];have e:deInts.getD k 0=((deBr.getD k 0:Nat):Int):=by
   unfold deInts;rw[yf0,yf0,yfs];cases deBr[k]? <;> rfl
  rw[e]
 exact⟨ygk W _ (hc 0 yie),hc⟩
theorem zzv (os:Os) (args:Array Value):laidMetH Tryd.prog zl8 ((World.doorLaid Tryd.prog 14 os).forCall (fun _ _=>0) ⟨#[],args,[]⟩).memory:=
 laidMetH_of_parts3 (fuel:=8) (laidMet_of_run' 8 yih yih) yih yih
end
end Go.Proofs.YtipfgpfplakhiaaDoor
