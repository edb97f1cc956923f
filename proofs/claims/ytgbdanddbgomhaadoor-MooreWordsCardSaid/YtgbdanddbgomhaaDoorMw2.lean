import Derived.Test.YtgbdanddbgomhaaDoorRows
import Derived.WalkKit
import Derived.WalkSpells
import Derived.WalkLawsBesides
import Derived.Maps.AppendAt
import Derived.Deep.AppendLies
import Derived.Laws.Bits64
import Derived.Laws.Bits64b
import Derived.IntWalk
import Derived.Laws.OwnMore
import Derived.Deep.LoopGhost
import Derived.RowKit
import Derived.Laws.BitsLemmas
import Derived.Lib.Hide
import Derived.Laws.Tables
import Derived.Laws.Cells
import Derived.Laws.CopyOwn
import Derived.Deep.MidRow
import Derived.Laws.BytesArg
import Derived.RangeFuncNested
import Derived.StillTailTactics
import Derived.OrdersIn
import Derived.BigQuiet
import Derived.ProofKit
import Derived.OpenShut
import Derived.Laws.IdiomArrays
import Derived.Lib.SmallJoins
set_option linter.unusedVariables false
set_option linter.unusedSimpArgs false
set_option maxRecDepth 20000
namespace Go.Proofs.YtgbdanddbgomhaaDoor
open Go Go.RowKit
theorem Zh {p:Prop} (h:p):RowKit.Hid p:=h
section
theorem za0 {w:World} {g:Nat} {o:Obj} (h:w.heap[g]?=some o):g<w.heap.size:=by
 rcases Nat.lt_or_ge g w.heap.size with hlt|hge
 . exact hlt
 . rw[Array.getElem?_eq_none hge] at h;cases h
theorem za8 {w w':World} {B e size n:Nat} {v:Value} {xs:List Value} (h:w.ownsRow B e size v n xs) (hb:Below w.heap.size w w'):w'.ownsRow B e size v n xs:=by
 refine⟨h.1,?_⟩;rcases h.2 with h0|⟨g,cap,cur,hv,hB,hh,r⟩
 . exact Or.inl h0
 . exact Or.inr ⟨g,cap,cur,hv,hB,(hb.block g (za0 hh)).trans hh,r⟩
theorem zap {w:World} {B B' e size n:Nat} {v:Value} {xs:List Value} (h:w.ownsRow B e size v n xs) (hB:B'<=B):w.ownsRow B' e size v n xs:=by
 refine⟨h.1,?_⟩;rcases h.2 with h0|⟨g,cap,cur,hv,hg,r⟩
 . exact Or.inl h0
 . exact Or.inr ⟨g,cap,cur,hv,by omega,r⟩
theorem gro {w a b:World} (h:Below w.heap.size w a) (hb:Below a.heap.size a b):Below w.heap.size w b:=h.trans (hb.mono h.size)
theorem gro1 {w a b:World} {o:Obj} (h:Below w.heap.size w a) (hb:Below (a.alloc o).heap.size (a.alloc o) b):Below w.heap.size w b:=gro (h.alloc h.size o) hb
theorem zay {w w1:World} (h:Below w.drew.heap.size w.drew w1):Below w.heap.size w w1:=⟨h.os,h.tape,h.output,h.size,h.block⟩
theorem za2 {w w1:World} {a:Addr} {v:Value} (h:w.cell? a=some v) (hb:Below w.heap.size w w1):w1.cell? a=some v:=(hb.cell (World.block_lt_of_cell? w a h)).trans h
def RdB (w:World) (B:Nat) (A:Option Addr) (xs:List Int):Prop:=
 ∀ k,k<xs.length->∃ b off,A=some ⟨b,off,none⟩∧b<B∧w.cell? ⟨b,off+k,none⟩=some (.int .u8 (xs.getD k 0))
section
variable {w w':World} {B B':Nat} {A:Option Addr} {xs:List Int}
theorem RdB.below (h:RdB w B A xs) (hb:Below B w w'):RdB w' B A xs:=fun k hk=>by
 obtain⟨b,off,e,hB,hc⟩:=h k hk;exact⟨b,off,e,hB,(hb.cell (p:=⟨b,off+k,none⟩) hB).trans hc⟩
theorem RdB.more (h:RdB w B A xs) (hB:B<=B'):RdB w B' A xs:=fun k hk=>by
 obtain⟨b,off,e,hb,hc⟩:=h k hk;exact⟨b,off,e,by omega,hc⟩
theorem RdB.at (h:RdB w B A xs) {k:Nat} (hk:k<xs.length):∃ b off,A=some ⟨b,off,none⟩∧b<B∧∀ j,j<xs.length->w.cell? ⟨b,off+j,none⟩=some (.int .u8 (xs.getD j 0)):=by
 obtain⟨b,off,e,hB,_⟩:=h k hk;refine⟨b,off,e,hB,fun j hj=>?_⟩;obtain⟨b',off',e',_,hc⟩:=h j hj;rw[e] at e';injection e' with e'
 injection e' with e1 e2
 subst e1 e2;exact hc
theorem ziy {base n:Nat} {e:TypeId} {v:Value} (h:w.ownsRow base e 1 v n (xs.map (Value.int .u8))):∃ A cap,v = .slice A n cap∧n=xs.length∧RdB w w.heap.size A xs∧(A=none->n=0∧cap=0):=by
 have hn:n=xs.length:=(by have:=h.1;simp at this;omega);rcases h.2 with ⟨rfl,rfl⟩|⟨g,cap,cur,rfl,hg,hh,hc,hm,hs,ht⟩
 . exact⟨none,0,rfl,hn,fun k hk=>by omega,fun _=>⟨rfl,rfl⟩⟩
 . refine⟨_,cap,rfl,hn,fun k hk=>⟨g,0,rfl,za0 hh,?_⟩,fun h=>by cases h⟩;rw[Nat.zero_add,cell_of_row w g k cur e (0,0) hh];have e1:(cur.toList.take (n*1))[k]?=(xs.map (Value.int .u8))[k]?:=(by rw[ht]);rw[List.getElem?_take_of_lt (by omega)] at e1;rw[←Array.getElem?_toList,e1];simp[List.getD_eq_getElem?_getD,List.getElem?_eq_getElem hk]
end
end
section
section
variable {P:Program} (w:World)
theorem zuz (t ty:TypeId) (base:Nat) (e:TypeId) (i:TypeInfo) (z:Value) (size bytes:Nat) (ht:P.underlying t=some (.slice e)) (hi:P.info? e=some i) (hz:i.zero=some z)
   (hsize:i.size=size) (hby:i.bytes=bytes) (hzs:z.cells.size=size) (hsz:0<size)
   (v:Value) (n:Nat) (xs:List Value) (hown:w.ownsRow base e size v n xs)
   (A:Option Addr) (m c:Nat) (news:List Value) (hl:news.length=m*size) (hnil:A=none->m=0) (hnews:∀ ad,A=some ad->∀ j u,news[j]?=some u->w.cell? (ad.add j)=some u) (h1:∀ u∈news,u.oneCell'=true)
   (h63:n+m<=maxLen) (hbytes:(n+m)*bytes<=140737488355328) (hbase:base<=w.heap.size):
   ∃ v' w',(Builtin.append_ #[t,t] ty #[v,.slice A m c]).run P w = .ok v' w'∧w'.ownsRow base e size v' (n+m) (xs++news)∧w.grownBy w' v.ownBlock:=by
 cases A with
 | none =>
   have hm:=hnil rfl;subst hm;have hn:news=[]:=List.eq_nil_of_length_eq_zero (by simpa using hl);subst hn;refine⟨v,w,?_,by simpa using hown,⟨rfl,rfl,rfl,Nat.le_refl _,fun _ _ _=>rfl⟩⟩;rcases hown.2 with ⟨rfl,rfl⟩|⟨g,cap,cur,rfl,_,_,hnc,_⟩
   . simp[Builtin.append_,run_underlying ht,sizeOf,typeInfo,hi,Builtin.lenOf,Builtin.firstCells]
   . simp[Builtin.append_,run_underlying ht,sizeOf,typeInfo,hi,Builtin.lenOf,Builtin.firstCells,hnc,storeCells]
 | some ad =>
   obtain⟨v',w',hr,h2,h3,_⟩:=run_append_own_at (P:=P) w base t ty e i z size bytes ht hi hz hsize hby hzs hsz v n xs hown ad m c news hl (hnews ad rfl) h1 h63 hbytes hbase;exact⟨v',w',hr,h2,h3⟩
theorem zw9 {o:Oper} {a:Act} {K:Act->World->Prop} {Q:Exit->Act->World->Prop} (s x:Operand) (t:TypeId)
   (ho:o.op = .call {callee := .builtin .append,args:=#[s,x],argTypes:=#[t,t]})
   (base:Nat) (e:TypeId) (i:TypeInfo) (z:Value) (size bytes:Nat) (ht:P.underlying t=some (.slice e)) (hi:P.info? e=some i) (hz:i.zero=some z)
   (hsize:i.size=size) (hby:i.bytes=bytes) (hzs:z.cells.size=size) (hsz:0<size)
   (v:Value) (n:Nat) (xs:List Value) (hs:a.eval s=v) (hown:w.ownsRow base e size v n xs)
   (A:Option Addr) (m c:Nat) (news:List Value) (hx:a.eval x = .slice A m c) (hl:news.length=m*size) (hnil:A=none->m=0) (hnews:∀ ad,A=some ad->∀ j u,news[j]?=some u->w.cell? (ad.add j)=some u) (h1:∀ u∈news,u.oneCell'=true)
   (h63:n+m<=maxLen) (hbytes:(n+m)*bytes<=140737488355328) (hbase:base<=w.heap.size)
   (h:∀ v' w',w'.ownsRow base e size v' (n+m) (xs++news)->w.grownBy w' v.ownBlock->K (a.put o.dst v') w'):o.wp P a w K Q:=by
 obtain⟨v',w',hr,h2,h3⟩:=zuz (P:=P) w t o.type base e i z size bytes ht hi hz hsize hby hzs hsz v n xs hown A m c news hl hnil hnews h1 h63 hbytes hbase;unfold Oper.wp execOp;simp only[ho,resolve,invoke,builtin,Sem.run_bind,Sem.run_pure,Result.andThen_ok,List.map_toArray,List.map_cons,List.map_nil,hs,hx,hr];exact h v' w' h2 h3
theorem zso {ops:Array Oper} {o:Oper} {a:Act} {K:Act->World->Prop} {Q:Exit->Act->World->Prop} {E:Prop} (hgd:o.guard=none) (s x:Operand) (t:TypeId)
   (ho:o.op = .call {callee := .builtin .append,args:=#[s,x],argTypes:=#[t,t]})
   (base:Nat) (e:TypeId) (i:TypeInfo) (z:Value) (size bytes:Nat) (ht:P.underlying t=some (.slice e)) (hi:P.info? e=some i) (hz:i.zero=some z)
   (hsize:i.size=size) (hby:i.bytes=bytes) (hzs:z.cells.size=size) (hsz:0<size)
   (v:Value) (n:Nat) (xs:List Value) (hs:a.eval s=v) (hown:w.ownsRow base e size v n xs)
   (A:Option Addr) (m c:Nat) (news:List Value) (hx:a.eval x = .slice A m c) (hl:news.length=m*size) (hnil:A=none->m=0) (hnews:∀ ad,A=some ad->∀ j u,news[j]?=some u->w.cell? (ad.add j)=some u) (h1:∀ u∈news,u.oneCell'=true)
   (h63:n+m<=maxLen) (hbytes:(n+m)*bytes<=140737488355328) (hbase:base<=w.heap.size)
   (h:∀ v' w',w'.ownsRow base e size v' (n+m) (xs++news)->w.grownBy w' v.ownBlock->K (a.put o.dst v') w'):
   if Region.wanted o (yielded ops a.tmps)=true then Oper.wp P o a w K Q else E:=by
 have hw:Region.wanted o (yielded ops a.tmps)=true:=(by simp[Region.wanted,hgd]);rw[if_pos hw];exact zw9 w s x t ho base e i z size bytes ht hi hz hsize hby hzs hsz v n xs hs hown A m c news hx hl hnil hnews h1 h63 hbytes hbase h
end
theorem zv8 {w:World} {B:Nat} {A:Option Addr} {xs:List Int} (h:RdB w B A xs):∀ ad,A=some ad->∀ j u,(xs.map (Value.int .u8))[j]?=some u->w.cell? (ad.add j)=some u:=by
 intro ad hA j u hu;have hj:j<xs.length:=by
   rcases Nat.lt_or_ge j xs.length with h|h
   . exact h
   . rw[List.getElem?_eq_none (by simpa using h)] at hu;cases hu
 obtain⟨b,off,e,_,hc⟩:=h j hj;rw[hA] at e;injection e with e
 subst e;have hadd:(⟨b,off,none⟩:Addr).add j=⟨b,off+j,none⟩:=by unfold Addr.add;split <;> simp_all
 rw[hadd,hc];simp only[List.getElem?_map,List.getElem?_eq_getElem hj,Option.map_some,Option.some.injEq] at hu;rw[←hu,List.getD_eq_getElem?_getD,List.getElem?_eq_getElem hj];rfl
theorem zie (xs:List Int):∀ u∈xs.map (Value.int .u8),u.oneCell'=true:=by
 intro u hu;simp only[List.mem_map] at hu;obtain⟨x,_,rfl⟩:=hu;rfl
end
section
section
variable {P:Program} (w:World)
end
def HasO (w:World) (g:Nat) (o:Obj):Prop:=w.heap[g]?=some o
theorem zat (w:World) (cs:Array Value) (t:TypeId) (g:Nat) (h:w.heap.size=g):HasO (w.alloc (.cells cs t)) g (.cells cs t (0,0)):=by
 subst h;exact heap_alloc_new w _
theorem zb1 {w:World} {g:Nat} {o:Obj} (o':Obj) (h:HasO w g o):HasO (w.alloc o') g o:=(Below.heap_alloc w o' g (za0 h)).trans h
theorem zch {w:World} {g:Nat} {o:Obj} (h:HasO w g o):HasO w.drew g o:=h
theorem zb9 {w w':World} {g:Nat} {o:Obj} {row:Option Nat} (hg:w.grownBy w' row) (h:HasO w g o) (hne:some g≠row):HasO w' g o:=(hg.block g (za0 h) hne).trans h
theorem zcr {w w':World} {g:Nat} {o:Obj} (hb:Below w.heap.size w w') (h:HasO w g o):HasO w' g o:=(hb.block g (za0 h)).trans h
theorem zah {w w':World} {g:Nat} {o:Obj} (h:HasO w g o) (hb:Below w.heap.size w w'):HasO w' g o:=(hb.block g (za0 h)).trans h
theorem zmz {B:Nat} {a w:World} (h:Below B a w) (hB:B=a.heap.size) (o:Obj):Below B a (w.alloc o):=h.alloc (hB▸h.size) o
theorem zbe {w:World} {a:Addr} {v:Value} (h:w.cell? a=some v) (o:Obj):(w.alloc o).cell? a=some v:=(World.cell?_of_block (Below.heap_alloc w o a.block (World.block_lt_of_cell? w a h))).trans h
theorem zaj {w:World} {a:Addr} {v:Value} (h:w.cell? a=some v):w.drew.cell? a=some v:=h
theorem zbf {B:Nat} {a w:World} (h:Below B a w) (n:Nat):Below B a (w.drewN n):=⟨h.os,h.tape,h.output,h.size,h.block⟩
theorem zdd {w:World} {g:Nat} {o:Obj} {a:Addr} (u:Value) (h:HasO w g o) (hne:g=a.block->False):HasO (w.setCell a u) g o:=(Below.heap_setCell w a u g hne).trans h
end
section
open Go
def bitsN (q:Nat->Bool):Nat->Nat
 | 0=>0
 | n+1=>(q 0).toNat+2*bitsN (fun j=>q (j+1)) n
theorem zif:∀ (n:Nat) (q:Nat->Bool),bitsN q n<2 ^ n
 | 0,_=>by simp[bitsN]
 | n+1,q=>by
   have h:=zif n (fun j=>q (j+1));have:(q 0).toNat<=1:=by cases q 0 <;> simp
   rw[bitsN,Nat.pow_succ];omega
theorem zca:∀ (n:Nat) (q:Nat->Bool) (j:Nat),(bitsN q n).testBit j=(decide (j<n)&&q j)
 | 0,q,j=>by simp[bitsN]
 | n+1,q,0=>by
   rw[bitsN,Nat.testBit_zero];cases q 0 <;> simp <;> omega
 | n+1,q,j+1=>by
   have h:=zca n (fun j=>q (j+1)) j;rw[bitsN,Nat.testBit_add_one,show ((q 0).toNat+2*bitsN (fun j=>q (j+1)) n) / 2=bitsN (fun j=>q (j+1)) n by cases q 0 <;> simp <;> omega,h];simp
theorem zbx (n:Nat) (q r:Nat->Bool) (h:∀ j,j<n->q j=r j):bitsN q n=bitsN r n:=by
 apply Nat.eq_of_testBit_eq;intro j;rw[zca,zca]
 by_cases hj:j<n
 . simp[hj,h j hj]
 . simp[hj]
def wordN (p:Nat->Bool) (i:Nat):Nat:=bitsN (fun j=>p (64*i+j)) 64
def word (p:Nat->Bool) (i:Nat):Int:=(wordN p i:Int)
theorem zb7 (p:Nat->Bool) (i:Nat):wordN p i<18446744073709551616:=zif 64 _
theorem zf3 (p:Nat->Bool) (i:Nat):0<=word p i:=by unfold word;omega
theorem zos (p:Nat->Bool) (i:Nat):word p i<=18446744073709551615:=by have:=zb7 p i;unfold word;omega
theorem zad (p:Nat->Bool) (i j:Nat):(wordN p i).testBit j=(decide (j<64)&&p (64*i+j)):=zca 64 _ j
theorem zbp (p q:Nat->Bool) (i:Nat) (h:∀ j,j<64->p (64*i+j)=q (64*i+j)):wordN p i=wordN q i:=zbx 64 _ _ h
theorem zb4 {p q:Nat->Bool} (h:∀ x,x<256->p x=q x) {i:Nat} (hi:i<4):word p i=word q i:=by
 unfold word;rw[zbp p q i fun j hj=>h _ (by omega)]
def add1 (p:Nat->Bool) (b:Nat):Nat->Bool:=fun x=>p x||x==b
def orP (p q:Nat->Bool):Nat->Bool:=fun x=>p x||q x
def notP (p:Nat->Bool):Nat->Bool:=fun x => !p x
def noneP:Nat->Bool:=fun _=>false
def rangeP (lo hi:Int):Nat->Bool:=fun x=>decide (lo<=x)&&decide ((x:Int)<=hi)
def memP (l:List Int):Nat->Bool:=fun x=>l.any fun y=>y==(x:Int)
theorem za5 (i:Nat):word noneP i=0:=by
 have:wordN noneP i=0:=by
   apply Nat.eq_of_testBit_eq;intro j;rw[zad];simp[noneP]
 simp[word,this]
theorem zbl {n:Int} (h0:0<=n) (h1:n<=18446744073709551615):IntKind.u64.wrap n=n:=by
 simp[IntKind.wrap,IntKind.bits,IntKind.signed];omega
theorem zpm (b:Int) (h0:0<=b):((2:Int) ^ (b % 64).toNat)=((2 ^ (b % 64).toNat:Nat):Int)∧2 ^ (b % 64).toNat<18446744073709551616:=by
 refine⟨by simp,?_⟩;have:(b % 64).toNat<=63:=by omega
 have h:=Nat.pow_le_pow_right (n:=2) (by omega) this;have e:(2:Nat) ^ 63=9223372036854775808:=(by decide);omega
theorem zi8 (p:Nat->Bool) (b:Int) (h0:0<=b) (h1:b<=255):
   (bits .and .u64 (word p (b / 64).toNat / 2 ^ (b % 64).toNat) 1==1)=p b.toNat:=by
 have e:=(zpm b h0).1;have lt:wordN p (b / 64).toNat / 2 ^ (b % 64).toNat<18446744073709551616:=Nat.lt_of_le_of_lt (Nat.div_le_self _ _) (zb7 _ _);unfold word;rw[e,←Int.natCast_ediv,show (1:Int)=((1:Nat):Int) from rfl,bits_and_u64_nat _ _ lt (by omega)];have t:=zad p (b / 64).toNat (b % 64).toNat;rw[Nat.testBit_eq_decide_div_mod_eq] at t;have hm:(b % 64).toNat<64:=(by omega);have hx:64*(b / 64).toNat+(b % 64).toNat=b.toNat:=(by omega);rw[hx] at t;simp only[hm,decide_true,Bool.true_and] at t;rw[←t,Nat.and_one_is_mod];generalize wordN p (b / 64).toNat / 2 ^ (b % 64).toNat=m;rw[Bool.eq_iff_iff,beq_iff_eq,decide_eq_true_iff];omega
theorem zvq (p:Nat->Bool) (b:Int) (h0:0<=b) (h1:b<=255):
   ((word p (b / 64).toNat / 2 ^ (b % 64).toNat).tmod 2==1)=p b.toNat:=by
 have e:=(zpm b h0).1;unfold word;rw[e,←Int.natCast_ediv];have t:=zad p (b / 64).toNat (b % 64).toNat;rw[Nat.testBit_eq_decide_div_mod_eq] at t;have hm:(b % 64).toNat<64:=(by omega);have hx:64*(b / 64).toNat+(b % 64).toNat=b.toNat:=(by omega);rw[hx] at t;simp only[hm,decide_true,Bool.true_and] at t;rw[←t];generalize wordN p (b / 64).toNat / 2 ^ (b % 64).toNat=m;rw[Int.tmod_eq_emod_of_nonneg (by omega),Bool.eq_iff_iff,beq_iff_eq,decide_eq_true_iff];omega
theorem zhh (p:Nat->Bool) (b:Nat) (i:Nat) (hi:i≠b / 64):word (add1 p b) i=word p i:=by
 unfold word;rw[zbp (add1 p b) p i fun j hj=>?_];have:¬ (64*i+j=b):=by omega
 simp[add1,this]
theorem zol (p:Nat->Bool) (b:Nat):wordN (add1 p b) (b / 64)=wordN p (b / 64) ||| 2 ^ (b % 64):=by
 apply Nat.eq_of_testBit_eq;intro j;rw[Nat.testBit_or,zad,zad,Nat.testBit_two_pow]
 by_cases hj:j<64
 . have:(64*(b / 64)+j==b)=decide (b % 64=j):=by
     rw[Bool.eq_iff_iff];simp;omega
   simp[hj,add1,this]
 . have:¬ (b % 64=j):=by omega
   simp[hj,this]
theorem zjx:∀ (n:Nat) (q:Nat->Bool) (b:Nat),b<n->q b=false->bitsN (fun j=>q j||j==b) n=bitsN q n+2 ^ b
 | n+1,q,0,_,hq=>by
   have e:bitsN (fun j=>(q (j+1)||j+1==0)) n=bitsN (fun j=>q (j+1)) n:=zbx _ _ _ fun j _=>by simp
   simp only[bitsN,e,hq];simp;omega
 | n+1,q,b+1,hb,hq=>by
   have h:=zjx n (fun j=>q (j+1)) b (by omega) hq;have e:bitsN (fun j=>(q (j+1)||j+1==b+1)) n=bitsN (fun j=>(q (j+1)||j==b)) n:=zbx _ _ _ fun j _=>by simp
   have e0:(q 0||0==b+1)=q 0:=(by simp);simp only[bitsN,e,e0,h,Nat.pow_succ];omega
theorem zuj (p:Nat->Bool) (b:Int) (h0:0<=b) (h1:b<=255) (hp:p b.toNat=false):
   IntKind.u64.wrap (word p (b / 64).toNat+IntKind.u64.wrap (2 ^ (b % 64).toNat))=word (add1 p b.toNat) (b / 64).toNat:=by
 obtain⟨e,lt⟩:=zpm b h0;have key:wordN (add1 p b.toNat) (b / 64).toNat=wordN p (b / 64).toNat+2 ^ (b % 64).toNat:=by
   have hx:64*(b / 64).toNat+(b % 64).toNat=b.toNat:=(by omega);have h:=zjx 64 (fun j=>p (64*(b / 64).toNat+j)) (b % 64).toNat (by omega) (by rw[hx];exact hp);unfold wordN;rw[←h];apply zbx;intro j hj;have:(64*(b / 64).toNat+j==b.toNat)=(j==(b % 64).toNat):=by
     rw[Bool.eq_iff_iff];simp;omega
   simp[add1,this]
 have bd:=zb7 (add1 p b.toNat) (b / 64).toNat;unfold word;rw[e,key];generalize 2 ^ (b % 64).toNat=m at *;rw[zbl (n:=(m:Int)) (by omega) (by omega),zbl (by omega) (by omega)];omega
theorem zt5 (p q:Nat->Bool) (i:Nat):bits .or .u64 (word p i) (word q i)=word (orP p q) i:=by
 unfold word;have e:wordN p i ||| wordN q i=wordN (orP p q) i:=by
   apply Nat.eq_of_testBit_eq;intro j;rw[Nat.testBit_or,zad,zad,zad];cases decide (j<64) <;> simp[orP]
 rw[bits_or_u64_nat _ _ (zb7 _ _) (zb7 _ _),e]
end
section
def setV (p:Nat->Bool):Value := .agg #[.int .u64 (word p 0),.int .u64 (word p 1),.int .u64 (word p 2),.int .u64 (word p 3)]
theorem zcz {p q:Nat->Bool} (h:∀ x,x<256->p x=q x):setV p=setV q:=by
 unfold setV;rw[zb4 h (i:=0) (by omega),zb4 h (i:=1) (by omega),zb4 h (i:=2) (by omega),zb4 h (i:=3) (by omega)]
def Box4 (w:World) (g:Nat) (p:Nat->Bool):Prop:=w.heap[g]?=some (.cells #[.int .u64 (word p 0),.int .u64 (word p 1),.int .u64 (word p 2),.int .u64 (word p 3)] 26 (0,0))
section
variable {w w':World} {g B:Nat} {p q:Nat->Bool}
theorem Box4.cell (h:Box4 w g p):
   w.cell? ⟨g,0,none⟩=some (.int .u64 (word p 0))∧w.cell? ⟨g,1,none⟩=some (.int .u64 (word p 1))∧w.cell? ⟨g,2,none⟩=some (.int .u64 (word p 2))∧w.cell? ⟨g,3,none⟩=some (.int .u64 (word p 3)):=by
 unfold Box4 at h;refine⟨?_,?_,?_,?_⟩ <;> exact cell_of_row w g _ _ 26 (0,0) h
theorem Box4.frozen (h:Box4 w g p):
   w.frozen? ⟨g,0,none⟩=false∧w.frozen? ⟨g,1,none⟩=false∧w.frozen? ⟨g,2,none⟩=false∧w.frozen? ⟨g,3,none⟩=false:=by
 unfold Box4 at h;refine⟨?_,?_,?_,?_⟩ <;> simp[World.frozen?,h]
theorem Box4.below (h:Box4 w g p) (hb:Below B w w') (hg:g<B):Box4 w' g p:=(hb.block g hg).trans h
theorem Box4.lt (h:Box4 w g p):g<w.heap.size:=za0 h
theorem Box4.stays (h:Box4 w g p) (hb:Below w.heap.size w w'):Box4 w' g p:=h.below hb h.lt
theorem Box4.alloc (h:Box4 w g p) (o:Obj):Box4 (w.alloc o) g p:=(Below.heap_alloc w o g h.lt).trans h
theorem Box4.grown {row:Option Nat} (h:Box4 w g p) (hb:w.grownBy w' row) (hg:some g≠row):Box4 w' g p:=(hb.block g h.lt hg).trans h
theorem Box4.far (h:Box4 w g p) {a:Addr} (ha:g≠a.block) (u:Value):Box4 (w.setCell a u) g p:=(Below.heap_setCell w a u g ha).trans h
theorem Box4.new (w:World) (p:Nat->Bool):Box4 (w.alloc (.cells #[.int .u64 (word p 0),.int .u64 (word p 1),.int .u64 (word p 2),.int .u64 (word p 3)] 26)) w.heap.size p:=heap_alloc_new w _
theorem Box4.new0 (w:World):Box4 (w.alloc (.cells #[.int .u64 0,.int .u64 0,.int .u64 0,.int .u64 0] 26)) w.heap.size noneP:=by
 have h:=Box4.new w noneP
 simpa only [za5] using h
theorem Box4.congr (h:Box4 w g p) (hq:∀ x,x<256->p x=q x):Box4 w g q:=by
 unfold Box4 at h ⊢
 rwa [←zb4 hq (i:=0) (by omega),←zb4 hq (i:=1) (by omega),←zb4 hq (i:=2) (by omega),←zb4 hq (i:=3) (by omega)]
def put4 (w:World) (g:Nat) (q:Nat->Bool):World:=
 (((w.setCell ⟨g,0,none⟩ (.int .u64 (word q 0))).setCell ⟨g,1,none⟩ (.int .u64 (word q 1))).setCell ⟨g,2,none⟩ (.int .u64 (word q 2))).setCell ⟨g,3,none⟩ (.int .u64 (word q 3))
theorem Box4.put (h:Box4 w g p) (q:Nat->Bool):Box4 (put4 w g q) g q:=by
 unfold Box4 put4 at *;simp[World.setCell,Array.getElem?_modify,h]
theorem Box4.set1 (h:Box4 w g p) (i:Nat) (hi:i<4) (hq:∀ j,j≠i->word q j=word p j):Box4 (w.setCell ⟨g,i,none⟩ (.int .u64 (word q i))) g q:=by
 unfold Box4 at *
 match i,hi with
 | 0,_=>rw[hq 1 (by omega),hq 2 (by omega),hq 3 (by omega)];simp[World.setCell,Array.getElem?_modify,h]
 | 1,_=>rw[hq 0 (by omega),hq 2 (by omega),hq 3 (by omega)];simp[World.setCell,Array.getElem?_modify,h]
 | 2,_=>rw[hq 0 (by omega),hq 1 (by omega),hq 3 (by omega)];simp[World.setCell,Array.getElem?_modify,h]
 | 3,_=>rw[hq 0 (by omega),hq 1 (by omega),hq 2 (by omega)];simp[World.setCell,Array.getElem?_modify,h]
theorem Box4.drew (h:Box4 w g p):Box4 w.drew g p:=h
theorem Box4.putFar {g':Nat} (h:Box4 w g p) (hg:g≠g') (q:Nat->Bool):Box4 (put4 w g' q) g p:=
 (((h.far (a:=⟨g',0,none⟩) hg _).far (a:=⟨g',1,none⟩) hg _).far (a:=⟨g',2,none⟩) hg _).far (a:=⟨g',3,none⟩) hg _
theorem zb6 {a:World} (h:Below B a w) (hg:B<=g) (q:Nat->Bool):Below B a (put4 w g q):=
 (((h.setCell (p:=⟨g,0,none⟩) hg _).setCell (p:=⟨g,1,none⟩) hg _).setCell (p:=⟨g,2,none⟩) hg _).setCell (p:=⟨g,3,none⟩) hg _
end
end
section
theorem Tryd.infoInt:(Tryd.prog.info? 3).map (fun i=>(i.zero,i.size,i.bytes))=some (some (.int .i64 0),1,8):=by kernel_rfl
def Ints (w:World) (B:Nat) (v:Value) (l:List Int):Prop:=w.ownsRow B 3 1 v l.length (l.map (Value.int .i64))
section
variable {w w':World} {B:Nat} {v:Value} {l:List Int}
theorem Ints.nil (w:World) (B:Nat):Ints w B (.slice none 0 0) []:=World.ownsRow_nil w B _ 1
theorem Ints.stays (h:Ints w B v l) (hb:Below w.heap.size w w'):Ints w' B v l:=za8 h hb
theorem Ints.alloc (h:Ints w B v l) (o:Obj):Ints (w.alloc o) B v l:=h.stays ((Below.refl _ _).alloc (Nat.le_refl _) _)
theorem Ints.form (h:Ints w B v l):∃ A c,v = .slice A l.length c:=by
 rcases h.2 with ⟨rfl,h0⟩|⟨g,cap,cur,rfl,_⟩
 . exact⟨none,0,by rw[h0]⟩
 . exact⟨_,_,rfl⟩
theorem Ints.at (h:Ints w B v l) (j:Nat) (hj:j<l.length):∃ g c,v = .slice (some ⟨g,0,none⟩) l.length c∧B<=g∧g<w.heap.size∧w.cell? ⟨g,j,none⟩=some (.int .i64 (l[j]'hj)):=by
 rcases h.2 with ⟨rfl,h0⟩|⟨g,cap,cur,rfl,hB,hg,_⟩
 . omega
 . refine⟨g,cap,rfl,hB,za0 hg,?_⟩;rw[World.ownsRow.cellAt h j (by omega)];simp[hj]
end
end
section
structure Kept (Q:Nat->Prop) (w w':World):Prop where
 os:w'.os=w.os
 tape:w'.tape=w.tape
 output:w'.output=w.output
 size:w.heap.size<=w'.heap.size
 block:∀ b,b<w.heap.size->¬ Q b->w'.heap[b]?=w.heap[b]?
section
variable {Q Q':Nat->Prop} {w w' w'':World}
theorem Kept.refl (Q:Nat->Prop) (w:World):Kept Q w w:=⟨rfl,rfl,rfl,Nat.le_refl _,fun _ _ _=>rfl⟩
theorem Kept.trans (h:Kept Q w w') (k:Kept Q' w' w'') (hq:∀ b,Q' b->Q b∨w.heap.size<=b):Kept Q w w'':=
 ⟨k.os.trans h.os,k.tape.trans h.tape,k.output.trans h.output,Nat.le_trans h.size k.size,fun b hb hn=>(k.block b (Nat.lt_of_lt_of_le hb h.size) fun e=>(hq b e).elim hn (fun e=>by omega)).trans (h.block b hb hn)⟩
theorem Kept.mono (h:Kept Q w w') (hq:∀ b,Q b->Q' b∨w.heap.size<=b):Kept Q' w w':=⟨h.os,h.tape,h.output,h.size,fun b hb hn=>h.block b hb fun e=>(hq b e).elim hn (fun e=>by omega)⟩
theorem Kept.of_below (Q:Nat->Prop) (h:Below w.heap.size w w'):Kept Q w w':=⟨h.os,h.tape,h.output,h.size,fun b hb _=>h.block b hb⟩
theorem Kept.below {B:Nat} (h:Kept Q w w') (hB:B<=w.heap.size) (hq:∀ b,Q b->B<=b):Below B w w':=⟨h.os,h.tape,h.output,h.size,fun b hb=>h.block b (by omega) fun e=>by have:=hq b e;omega⟩
theorem Kept.alloc (h:Kept Q w w') (o:Obj):Kept Q w (w'.alloc o):=⟨h.os,h.tape,h.output,by have:=h.size;simp;omega,fun b hb hn=>by rw[Below.heap_alloc _ _ _ (Nat.lt_of_lt_of_le hb h.size)];exact h.block b hb hn⟩
theorem Kept.drew (h:Kept Q w w'):Kept Q w w'.drew:=⟨h.os,h.tape,h.output,h.size,h.block⟩
theorem Kept.grown {row:Option Nat} (h:Kept Q w w') (hg:w'.grownBy w'' row) (hr:∀ b,row=some b->Q b∨w.heap.size<=b):Kept Q w w'':=
 ⟨hg.os.trans h.os,hg.tape.trans h.tape,hg.output.trans h.output,Nat.le_trans h.size hg.size,fun b hb hn=>(hg.block b (Nat.lt_of_lt_of_le hb h.size) fun e=>(hr b e.symm).elim hn (fun e=>by omega)).trans (h.block b hb hn)⟩
theorem Kept.setCell (h:Kept Q w w') {a:Addr} (ha:Q a.block∨w.heap.size<=a.block) (u:Value):Kept Q w (w'.setCell a u):=
 ⟨h.os,h.tape,h.output,by have:=h.size;simpa [World.setCell] using this,fun b hb hn=>(Below.heap_setCell _ _ _ _ (by intro e;subst e;exact ha.elim hn (fun e'=>by omega))).trans (h.block b hb hn)⟩
theorem Kept.cell {a:Addr} {v:Value} (h:Kept Q w w') (hc:w.cell? a=some v) (hn:¬ Q a.block):w'.cell? a=some v:=
 (World.cell?_of_block (w:=w) (h.block a.block (World.block_lt_of_cell? w a hc) hn)).trans hc
end
theorem za3 {w w':World} {B e size n:Nat} {v:Value} {xs:List Value} (h:w.ownsRow B e size v n xs) (hb:∀ b,v.ownBlock=some b->b<w.heap.size->w'.heap[b]?=w.heap[b]?):w'.ownsRow B e size v n xs:=by
 refine⟨h.1,?_⟩;rcases h.2 with h0|⟨g,cap,cur,rfl,hB,hh,r⟩
 . exact Or.inl h0
 . exact Or.inr ⟨g,cap,cur,rfl,hB,(hb g rfl (za0 hh)).trans hh,r⟩
theorem zaa {w:World} {B e size n:Nat} {v:Value} {xs:List Value} (h:w.ownsRow B e size v n xs) {b:Nat} (hb:v.ownBlock=some b):∃ cur,w.heap[b]?=some (.cells cur e (0,0)):=by
 rcases h.2 with ⟨rfl,_⟩|⟨g,cap,cur,rfl,hB,hh,r⟩
 . cases hb
 . cases hb;exact⟨cur,hh⟩
theorem za1 {w:World} {b c:Nat} {cur cur':Array Value} {ty ty':TypeId} (h:w.heap[b]?=some (.cells cur ty (0,0))) (h':w.heap[c]?=some (.cells cur' ty' (0,0))) (hne:ty≠ty'):b≠c:=by
 intro e;subst e;rw[h] at h';injection h' with h'
 injection h' with _ e _
 exact hne e
end
section
section
variable {w w':World} {B C:Nat} {v u:Value} {l m:List Int}
theorem Ints.form3 (h:Ints w B v l):∃ A n c,v = .slice A n c:=by obtain⟨A,c,e⟩:=h.form;exact⟨A,_,c,e⟩
theorem Ints.block (h:Ints w B v l) (hb:∀ b,v.ownBlock=some b->b<w.heap.size->w'.heap[b]?=w.heap[b]?):Ints w' B v l:=za3 h hb
theorem Ints.off {Q:Nat->Prop} (h:Ints w B v l) (hk:Kept Q w w') (hq:∀ b,v.ownBlock=some b->¬ Q b):Ints w' B v l:=h.block fun b e hb=>hk.block b hb (hq b e)
theorem Ints.low (h:Ints w B v l) (hC:C<=B):Ints w C v l:=zap h hC
theorem Ints.in (h:Ints w B v l) {b:Nat} (hb:v.ownBlock=some b):B<=b∧b<w.heap.size:=World.ownsRow.lt h b hb
theorem Ints.kind (h:Ints w B v l) {b:Nat} (hb:v.ownBlock=some b):∃ cur,w.heap[b]?=some (.cells cur 3 (0,0)):=zaa h hb
theorem Ints.news (h:Ints w B v l):∃ A c,v = .slice A l.length c∧(A=none->l.length=0)∧∀ ad,A=some ad->∀ j u,(l.map (Value.int .i64))[j]?=some u->w.cell? (ad.add j)=some u:=by
 rcases h.2 with ⟨rfl,h0⟩|⟨g,cap,cur,rfl,hB,hg,_⟩
 . exact⟨none,0,by rw[h0],fun _=>h0,fun ad e=>by cases e⟩
 . refine⟨_,cap,rfl,(fun e=>by cases e),fun ad e j u hu=>?_⟩;injection e with e
   subst e;exact World.ownsRow.cells h rfl j u hu
theorem ztn (l:List Int):∀ u∈l.map (Value.int .i64),u.oneCell'=true:=by
 intro u hu;simp only[List.mem_map] at hu;obtain⟨x,_,rfl⟩:=hu;rfl
theorem zlk (ty:TypeId) (h:Ints w B v l) (hu:Ints w C u m) (hl:l.length+m.length<=100000) (hB:B<=w.heap.size):
   ∃ v' w',(Builtin.append_ #[38,38] ty #[v,u]).run Tryd.prog w = .ok v' w'∧Ints w' B v' (l++m)∧w.grownBy w' v.ownBlock∧(v'.ownBlock=v.ownBlock∨v'.ownBlock=some w.heap.size):=by
 obtain⟨i0,hi,hz0,hz1,hz2⟩:=info_parts Tryd.infoInt;obtain⟨A,c,rfl,hn,hc⟩:=hu.news;unfold Ints at h ⊢;rw[List.length_append,List.map_append];cases A with
 | none =>
   have hm:=hn rfl;have hm':m=[]:=List.eq_nil_of_length_eq_zero hm;subst hm';refine⟨v,w,?_,by simpa using h,⟨rfl,rfl,rfl,Nat.le_refl _,fun _ _ _=>rfl⟩,.inl rfl⟩;rcases h.2 with ⟨rfl,h0⟩|⟨g,cap,cur,rfl,_,_,hnc,_⟩
   . simp[Builtin.append_,run_underlying Tryd.underlying38,sizeOf,typeInfo,hi,Builtin.lenOf,Builtin.firstCells]
   . simp[Builtin.append_,run_underlying Tryd.underlying38,sizeOf,typeInfo,hi,Builtin.lenOf,Builtin.firstCells,hnc,storeCells]
 | some ad =>
   obtain⟨v',w',hr,h2,h3,_,h5⟩:=run_append_own_at (P:=Tryd.prog) w B 38 ty 3 i0 (.int .i64 0) 1 8 Tryd.underlying38 hi hz0 hz1 hz2 rfl (by decide) v l.length _ h ad m.length c (m.map (Value.int .i64)) (by simp) (hc ad rfl) (ztn m) (by unfold maxLen;omega) (by omega) hB;exact⟨v',w',hr,h2,h3,h5⟩
variable {o:Oper} {a:Act}
theorem zop {K:Act->World->Prop} {Q:Exit->Act->World->Prop} (s x:Operand) (ho:o.op = .call {callee := .builtin .append,args:=#[s,x],argTypes:=#[38,38]})
   (hs:a.eval s=v) (hx:a.eval x=u) (h:Ints w B v l) (hu:Ints w C u m) (hl:l.length+m.length<=100000) (hB:B<=w.heap.size)
   (hK:∀ v' w',Ints w' B v' (l++m)->w.grownBy w' v.ownBlock->(v'.ownBlock=v.ownBlock∨v'.ownBlock=some w.heap.size)->K (a.put o.dst v') w'):o.wp Tryd.prog a w K Q:=by
 obtain⟨v',w',hr,h2,h3,h4⟩:=zlk o.type h hu hl hB;unfold Oper.wp execOp;simp only[ho,resolve,invoke,builtin,Sem.run_bind,Sem.run_pure,Result.andThen_ok,List.map_toArray,List.map_cons,List.map_nil,hs,hx,hr];exact hK v' w' h2 h3 h4
theorem zf2 {ops:Array Oper} {rest:List Oper} {Q:Exit->Act->World->Prop} (hgd:o.guard=none) (s x:Operand) (ho:o.op = .call {callee := .builtin .append,args:=#[s,x],argTypes:=#[38,38]})
   (hs:a.eval s=v) (hx:a.eval x=u) (h:Ints w B v l) (hu:Ints w C u m) (hl:l.length+m.length<=100000) (hB:B<=w.heap.size)
   (hK:∀ v' w',Ints w' B v' (l++m)->w.grownBy w' v.ownBlock->(v'.ownBlock=v.ownBlock∨v'.ownBlock=some w.heap.size)->wpList Tryd.prog ops Q rest (a.put o.dst v') w'):wpList Tryd.prog ops Q (o::rest) a w:=
 wpList_plain hgd fun _ hK'=>zop s x ho hs hx h hu hl hB fun v' w' h2 h3 h4=>hK' _ _ (hK v' w' h2 h3 h4)
theorem zir {ops:Array Oper} {K:Act->World->Prop} {Q:Exit->Act->World->Prop} {E:Prop} (hgd:o.guard=none) (s x:Operand) (ho:o.op = .call {callee := .builtin .append,args:=#[s,x],argTypes:=#[38,38]})
   (hs:a.eval s=v) (hx:a.eval x=u) (h:Ints w B v l) (hu:Ints w C u m) (hl:l.length+m.length<=100000) (hB:B<=w.heap.size)
   (hK:∀ v' w',Ints w' B v' (l++m)->w.grownBy w' v.ownBlock->(v'.ownBlock=v.ownBlock∨v'.ownBlock=some w.heap.size)->K (a.put o.dst v') w'):if Region.wanted o (yielded ops a.tmps)=true then Oper.wp Tryd.prog o a w K Q else E:=by
 have hw:Region.wanted o (yielded ops a.tmps)=true:=(by simp[Region.wanted,hgd]);rw[if_pos hw];exact zop s x ho hs hx h hu hl hB hK
end
end
def ns (l:List Nat):List Int:=l.map Int.ofNat
theorem za9 (l:List Nat):(ns l).length=l.length:=by simp[ns]
theorem zel (l m:List Nat):ns (l++m)=ns l++ns m:=by simp[ns]
structure FolAt (w:World) (B:Nat) (fs:List Value) (ls:List (List Nat)) (Q:Nat->Prop):Prop where
 len:fs.length=ls.length
 get:∀ (i:Nat) v l,fs[i]?=some v->ls[i]?=some l->Ints w B v (ns l)
 inQ:∀ (i:Nat) v b,fs[i]?=some v->v.ownBlock=some b->Q b
 apart:∀ (i j:Nat) v v' b,fs[i]?=some v->fs[j]?=some v'->v.ownBlock=some b->v'.ownBlock=some b->i=j
def setsC (l:List (Nat->Bool)):List Value:=l.flatMap fun p=>[.int .u64 (word p 0),.int .u64 (word p 1),.int .u64 (word p 2),.int .u64 (word p 3)]
theorem zdh (l:List (Nat->Bool)):(setsC l).length=l.length*4:=by
 induction l with
 | nil=>rfl
 | cons p l ih=>simp only[setsC,List.flatMap_cons,List.length_append,List.length_cons,List.length_nil] at ih ⊢;omega
theorem zbr:∀ (l:List (Nat->Bool)) (k q:Nat) (hk:k<l.length),q<4->(setsC l)[k*4+q]?=some (.int .u64 (word (l[k]'hk) q))
 | [],k,q,hk,_=>by simp at hk
 | p::l,0,q,_,hq=>by
   match q,hq with
   | 0,_=>rfl
   | 1,_=>rfl
   | 2,_=>rfl
   | 3,_=>rfl
 | p::l,k+1,q,hk,hq=>by
   have ih:=zbr l k q (by simpa using hk) hq;have e:(k+1)*4+q=4+(k*4+q):=(by omega);rw[e]
   show ([.int .u64 (word p 0),.int .u64 (word p 1),.int .u64 (word p 2),.int .u64 (word p 3)]++setsC l)[4+(k*4+q)]?=_
   rw[List.getElem?_append_right (by simp)]
   simpa using ih
def cntN (q:Nat->Bool):Nat->Nat
 | 0=>0
 | n+1=>(q 0).toNat+cntN (fun j=>q (j+1)) n
def msk (c:Nat):Nat->Nat
 | 0=>0
 | n+1=>c+256*msk c n
def sumA (n x:Nat):Nat:=(x / 2 &&& msk 85 n)+(x &&& msk 85 n)
def sumB (n x:Nat):Nat:=(x / 4 &&& msk 51 n)+(x &&& msk 51 n)
def sumC (n x:Nat):Nat:=(x / 16+x) &&& msk 15 n
def a8 (b:Nat):Nat:=(b / 2 &&& 85)+(b &&& 85)
def b8 (b:Nat):Nat:=(b / 4 &&& 51)+(b &&& 51)
def c8 (b:Nat):Nat:=(b / 16+b) &&& 15
theorem zro:∀ (n:Nat) (q:Nat->Bool),cntN q n<=n
 | 0,_=>by simp[cntN]
 | n+1,q=>by
   have h:=zro n (fun j=>q (j+1));have:(q 0).toNat<=1:=by cases q 0 <;> simp
   rw[cntN];omega
theorem zh8:∀ (n:Nat) (q r:Nat->Bool),(∀ j,j<n->q j=r j)->cntN q n=cntN r n
 | 0,_,_,_=>rfl
 | n+1,q,r,h=>by rw[cntN,cntN,h 0 (by omega),zh8 n _ _ fun j hj=>h (j+1) (by omega)]
theorem zmq:∀ (m n:Nat) (q:Nat->Bool),cntN q (m+n)=cntN q m+cntN (fun j=>q (m+j)) n
 | 0,n,q=>by simp[cntN]
 | m+1,n,q=>by
   have e:cntN (fun j=>q (m+j+1)) n=cntN (fun j=>q (m+1+j)) n:=zh8 _ _ _ fun j _=>by congr 1;omega
   rw[show m+1+n=(m+n)+1 by omega,cntN,cntN,zmq m n,e];omega
def st1 (a:Int):Int:=IntKind.u64.wrap (bits .and .u64 (a / 2) 6148914691236517205+bits .and .u64 a 6148914691236517205)
def st2 (a:Int):Int:=IntKind.u64.wrap (bits .and .u64 (a / 4) 3689348814741910323+bits .and .u64 a 3689348814741910323)
def st3 (a:Int):Int:=bits .and .u64 (IntKind.u64.wrap (a / 16+a)) 1085102592571150095
def st4 (a:Int):Int:=IntKind.u64.wrap (a+a / 256)
def st5 (a:Int):Int:=IntKind.u64.wrap (a+a / 65536)
def st6 (a:Int):Int:=IntKind.u64.wrap (a+a / 4294967296)
def st7 (a:Int):Int:=bits .and .i64 (wrap64 a) 127
theorem zl5 (p:Nat->Bool) (b:Int) (h0:0<=b) (h1:b<=255):
   [Value.int .u64 (word p 0),.int .u64 (word p 1),.int .u64 (word p 2),.int .u64 (word p 3)][(b / 64).toNat]?=some (.int .u64 (word p (b / 64).toNat)):=by
 have:(b / 64).toNat<4:=by omega
 match h:(b / 64).toNat,this with
 | 0,_=>rfl
 | 1,_=>rfl
 | 2,_=>rfl
 | 3,_=>rfl
theorem zt9 (xs:List Int) (k:Nat) (hk:k<xs.length) (h0:0<=xs.getD k 0) (x:Nat):add1 (memP (xs.take k)) (xs.getD k 0).toNat x=memP (xs.take (k+1)) x:=by
 unfold add1 memP;rw[List.take_succ_eq_append_getElem hk,List.any_append];rw[List.getD_eq_getElem?_getD,List.getElem?_eq_getElem hk] at *;simp only[List.any_cons,List.any_nil,Bool.or_false,Option.getD_some] at *
 congr 1
 rw[Bool.eq_iff_iff];simp;omega
def listP (p:Nat->Bool) (k:Nat):List Int:=((List.range k).filter p).map fun x:Nat=>(x:Int)
theorem zfj (p:Nat->Bool) (k:Nat) (h:p k=true):listP p (k+1)=listP p k++[(k:Int)]:=by
 unfold listP;rw[List.range_succ,List.filter_append,List.map_append];simp[h]
theorem zea (p:Nat->Bool) (k:Nat) (h:p k=false):listP p (k+1)=listP p k:=by
 unfold listP;rw[List.range_succ,List.filter_append,List.map_append];simp[h]
theorem zfi:∀ (p:Nat->Bool) (k:Nat),(listP p k).length=cntN p k
 | p,0=>rfl
 | p,k+1=>by
   rw[zmq k 1];cases h:p k
   . rw[zea p k h,zfi p k];simp[cntN,h]
   . rw[zfj p k h,List.length_append,zfi p k];simp[cntN,h]
theorem zdn (p:Nat->Bool) (k:Nat):(listP p k).length<=k:=by rw[zfi];exact zro _ _
theorem zcp (p:Nat->Bool) (k:Nat) (v:Int):v∈listP p k↔0<=v∧v<k∧p v.toNat=true:=by
 unfold listP;simp only[List.mem_map,List.mem_filter,List.mem_range];constructor
 . rintro⟨x,⟨h1,h2⟩,rfl⟩;exact⟨by omega,by omega,by simpa using h2⟩
 . rintro⟨h0,h1,h2⟩;exact⟨v.toNat,⟨by omega,h2⟩,by omega⟩
theorem zqo (p:Nat->Bool) (k:Nat) (hk:k<=256):∀ j,j<(listP p k).length->0<=(listP p k).getD j 0∧(listP p k).getD j 0<=255:=by
 intro j hj;have:(listP p k).getD j 0∈listP p k:=by
   rw[List.getD_eq_getElem?_getD,List.getElem?_eq_getElem hj];exact List.getElem_mem hj
 have:=(zcp p k _).1 this;omega
theorem zqh (p:Nat->Bool) (k x:Nat) (hx:x<k):memP (listP p k) x=p x:=by
 unfold memP;rw[Bool.eq_iff_iff,List.any_eq_true];constructor
 . rintro⟨v,hv,e⟩;have:=(zcp p k v).1 hv;have e':v=(x:Int):=(by simpa using e);subst e'
   simpa using this.2.2
 . intro h;exact⟨(x:Int),(zcp p k _).2 ⟨by omega,by omega,by simpa using h⟩,by simp⟩
def allP (p:Nat->Bool):List Int:=listP p 256
theorem zui (p:Nat->Bool):∀ j,j<(allP p).length->0<=(allP p).getD j 0∧(allP p).getD j 0<=255:=zqo p 256 (by omega)
theorem zw4 (p:Nat->Bool):(allP p).length<=9223372036854775807:=by have:=zdn p 256;unfold allP;omega
theorem zi0 (p:Nat->Bool) (x:Nat) (hx:x<256):memP (allP p) x=p x:=zqh p 256 x hx
theorem Tryd.infoByte:(Tryd.prog.info? 5).map (fun i=>(i.zero,i.size,i.bytes))=some (some (.int .u8 0),1,1):=by kernel_rfl
theorem zpl (w:World) (v:Int):RdB (w.alloc (.cells #[.int .u8 v] 5)) (w.alloc (.cells #[.int .u8 v] 5)).heap.size (some ⟨w.heap.size,0,none⟩) [v]:=by
 intro k hk;have:k=0:=by simp at hk;omega
 subst this;exact⟨w.heap.size,0,rfl,by simp,by simp⟩
section
def boolsV (n:Nat) (F:Nat->Bool):List Value:=(List.range n).map fun j => .bool (F j)
theorem zc9 (n:Nat) (F:Nat->Bool) (j:Nat) (h:j<n):(boolsV n F)[j]?=some (.bool (F j)):=by simp[boolsV,h]
theorem zjw {n:Nat} {F G:Nat->Bool} (h:∀ j,j<n->F j=G j):boolsV n F=boolsV n G:=by
 apply List.ext_getElem?;intro j
 by_cases hj:j<n
 . rw[zc9 _ _ _ hj,zc9 _ _ _ hj,h j hj]
 . rw[List.getElem?_eq_none (by simp[boolsV];omega),List.getElem?_eq_none (by simp[boolsV];omega)]
theorem zof (n:Nat) (F:Nat->Bool) (p:Nat) (h:p<n) (b:Bool):(boolsV n F).set p (.bool b)=boolsV n (fun j=>if j=p then b else F j):=by
 apply List.ext_getElem?;intro j;rw[List.getElem?_set]
 by_cases hj:j<n
 . rw[zc9 _ _ _ hj,zc9 _ _ _ hj]
   by_cases e:p=j
   . subst e;simp[boolsV,hj]
   . have e':¬ j=p:=fun x=>e x.symm
     simp[e,e']
 . have e:¬ p=j:=(by omega);rw[if_neg e,List.getElem?_eq_none (by simp[boolsV];omega),List.getElem?_eq_none (by simp[boolsV];omega)]
def Bools (w:World) (C g n:Nat) (F:Nat->Bool):Prop:=w.ownsRow C 4 1 (.slice (some ⟨g,0,none⟩) n n) n (boolsV n F)
section
variable {w w':World} {C g n:Nat} {F G:Nat->Bool}
theorem Bools.cell (h:Bools w C g n F) (j:Nat) (hj:j<n):w.cell? ⟨g,j,none⟩=some (.bool (F j)):=by
 rw[World.ownsRow.cellAt h j (by omega),zc9 _ _ _ hj]
theorem Bools.frozen (h:Bools w C g n F) (j:Nat):w.frozen? ⟨g,j,none⟩=false:=World.ownsRow.frozenAt h j
theorem Bools.in (h:Bools w C g n F):C<=g∧g<w.heap.size:=World.ownsRow.lt h g rfl
theorem Bools.kind (h:Bools w C g n F):∃ cur,w.heap[g]?=some (.cells cur 4 (0,0)):=zaa h rfl
theorem Bools.block (h:Bools w C g n F) (hb:w'.heap[g]?=w.heap[g]?):Bools w' C g n F:=za3 h fun b e _=>by injection e with e;subst e;exact hb
theorem Bools.stays (h:Bools w C g n F) (hb:Below w.heap.size w w'):Bools w' C g n F:=h.block (hb.block g h.in.2)
theorem Bools.off {Q:Nat->Prop} (h:Bools w C g n F) (hk:Kept Q w w') (hq:¬ Q g):Bools w' C g n F:=h.block (hk.block g h.in.2 hq)
theorem Bools.congr (h:Bools w C g n F) (hc:∀ j,j<n->F j=G j):Bools w C g n G:=by
 unfold Bools at h ⊢;rw[←zjw hc];exact h
theorem Bools.set (h:Bools w C g n F) (p:Nat) (hp:p<n) (b:Bool):Bools (w.setCell ⟨g,p,none⟩ (.bool b)) C g n (fun j=>if j=p then b else F j):=by
 have:=(World.ownsRow.stored h p (.bool b)).1;rw[zof n F p hp] at this;exact this
end
theorem zoe (n:Nat):(madeCells (Value.bool false).cells (n*1)).toList=boolsV n fun _=>false:=by
 apply List.ext_getElem?;intro j
 by_cases hj:j<n
 . rw[zc9 _ _ _ hj];simp[madeCells,Value.cells,hj,Nat.mod_one]
 . rw[List.getElem?_eq_none (by simp[madeCells,Value.cells];omega),List.getElem?_eq_none (by simp[boolsV];omega)]
end
section
def arrV (n:Nat) (F:Nat->Nat):Array Value:=((List.range n).map fun j=>Value.int .i64 (F j:Int)).toArray
theorem zaq (n:Nat) (F:Nat->Nat):(arrV n F).size=n:=by simp[arrV]
theorem ze1 (n:Nat) (F:Nat->Nat) (j:Nat) (h:j<n):(arrV n F)[j]?=some (.int .i64 (F j:Int)):=by simp[arrV,h]
theorem zoj {n:Nat} {F G:Nat->Nat} (h:∀ j,j<n->F j=G j):arrV n F=arrV n G:=by
 unfold arrV
 congr 1
 exact List.map_congr_left fun j hj=>by rw[h j (List.mem_range.1 hj)]
theorem zuh (n:Nat) (F:Nat->Nat) (j v:Nat) (h:j<n):(arrV n F).setIfInBounds j (.int .i64 (v:Int))=arrV n (fun i=>if i=j then v else F i):=by
 apply Array.ext
 . simp[arrV]
 . intro i h1 h2;have hi:i<n:=(by simpa [arrV] using h2);rw[Array.getElem_setIfInBounds]
   . by_cases e:j=i
     . subst e;simp[arrV]
     . have:¬ i=j:=fun x=>e x.symm
       simp[arrV,e,this]
   . simpa [arrV] using hi
theorem zig (n:Nat) (F:Nat->Nat):∀ v∈(arrV n F).toList,v.oneCell'=true:=by
 intro v hv;simp only[arrV,List.mem_map] at hv;obtain⟨j,_,rfl⟩:=hv;rfl
def BoxN (w:World) (g t n:Nat) (F:Nat->Nat):Prop:=w.heap[g]?=some (.cells (arrV n F) t (0,0))
section
variable {w w':World} {g B t n:Nat} {F G:Nat->Nat}
theorem BoxN.cell (h:BoxN w g t n F) (j:Nat) (hj:j<n):w.cell? ⟨g,j,none⟩=some (.int .i64 (F j:Int)):=by
 rw[cell_of_row w g j _ t (0,0) h];exact ze1 n F j hj
theorem BoxN.frozen (h:BoxN w g t n F) (j:Nat):w.frozen? ⟨g,j,none⟩=false:=by
 unfold BoxN at h;simp[World.frozen?,h]
theorem BoxN.lt (h:BoxN w g t n F):g<w.heap.size:=za0 h
theorem BoxN.below (h:BoxN w g t n F) (hb:Below B w w') (hg:g<B):BoxN w' g t n F:=(hb.block g hg).trans h
theorem BoxN.stays (h:BoxN w g t n F) (hb:Below w.heap.size w w'):BoxN w' g t n F:=h.below hb h.lt
theorem BoxN.alloc (h:BoxN w g t n F) (o:Obj):BoxN (w.alloc o) g t n F:=(Below.heap_alloc w o g h.lt).trans h
theorem BoxN.far (h:BoxN w g t n F) {a:Addr} (ha:g≠a.block) (u:Value):BoxN (w.setCell a u) g t n F:=(Below.heap_setCell w a u g ha).trans h
theorem BoxN.row (h:BoxN w g t n F) {g':Nat} (ha:g≠g') (A:Array Value):BoxN (w.setRow g' A) g t n F:=(setRow_other w g' g A ha).trans h
theorem BoxN.new (w:World) (t n:Nat) (F:Nat->Nat):BoxN (w.alloc (.cells (arrV n F) t)) w.heap.size t n F:=heap_alloc_new w _
theorem BoxN.congr (h:BoxN w g t n F) (hq:∀ j,j<n->F j=G j):BoxN w g t n G:=by
 unfold BoxN at h ⊢
 rwa [←zoj hq]
theorem BoxN.put (h:BoxN w g t n F) (G:Nat->Nat):BoxN (w.setRow g (arrV n G)) g t n G:=setRow_heap w g _ _ t (0,0) h
theorem BoxN.set (h:BoxN w g t n F) (j v:Nat) (hj:j<n):BoxN (w.setCell ⟨g,j,none⟩ (.int .i64 (v:Int))) g t n (fun i=>if i=j then v else F i):=by
 rw[setCell_eq_setRow w g j _ t (0,0) _ h,zuh n F j v hj];exact setRow_heap w g _ _ t (0,0) h
theorem below_setRow {a:World} (h:Below B a w) (hg:B<=g) (A:Array Value):Below B a (w.setRow g A):=
 ⟨h.os,h.tape,h.output,by rw[setRow_size];exact h.size,fun k hk=>(setRow_other w g k A (by omega)).trans (h.block k hk)⟩
end
section
variable {w:World} {g n:Nat} {F G:Nat->Nat} {a:Act} {next:Act->World->Prop} {Q:Exit->Act->World->Prop} {d:Option Nat} {ty:TypeId} {pos:String} {aft:Array Edge} {gd:Option (Nat×Bool)}
theorem zve (h:BoxN w g 57 256 F):(Instr.loadAt 57 (.pointer (some ⟨g,0,none⟩))).run Tryd.prog w = .ok (.agg (arrV 256 F)) w:=by
 have h1:(loadCells ⟨g,0,none⟩ 256).run Tryd.prog w = .ok (arrV 256 F) w:=run_loadCells w _ 256 (fun j => .int .i64 (F j:Int)) (fun j hj=>by rw[Addr.add_lit,Nat.zero_add];exact h.cell j hj);have h2:(isAgg 57).run Tryd.prog w = .ok true w:=(by kernel_rfl);have h3:(sizeOf 57).run Tryd.prog w = .ok 256 w:=(by kernel_rfl);simp[Instr.loadAt,loadVar,Instr.sureAddr,Sem.run_bind,h1,h2,h3]
theorem znt (h:BoxN w g 57 256 F):(loadVar 57 ⟨g,0,none⟩).run Tryd.prog w = .ok (.agg (arrV 256 F)) w:=by
 have h1:(loadCells ⟨g,0,none⟩ 256).run Tryd.prog w = .ok (arrV 256 F) w:=run_loadCells w _ 256 (fun j => .int .i64 (F j:Int)) (fun j hj=>by rw[Addr.add_lit,Nat.zero_add];exact h.cell j hj);have h2:(isAgg 57).run Tryd.prog w = .ok true w:=(by kernel_rfl);have h3:(sizeOf 57).run Tryd.prog w = .ok 256 w:=(by kernel_rfl);simp[loadVar,Sem.run_bind,h1,h2,h3]
theorem zf8 {fn:Func} {tmps:Array Value} {x y:Nat} {v:Value} (hr:fn.results=#[.cell x 57,.tmp y]) (hx:tmps.getD x undef = .pointer (some ⟨g,0,none⟩)) (hy:tmps.getD y undef=v)
   (h:BoxN w g 57 256 F):(results fn tmps).run Tryd.prog w = .ok (.tuple #[.agg (arrV 256 F),v]) w:=by
 have e:(#[ResultVar.cell x 57,.tmp y]:Array ResultVar)=[ResultVar.cell x 57,.tmp y].toArray:=rfl;rw[Array.getD_eq_getD_getElem?] at hx hy;unfold results;rw[hr,e];simp[Sem.run_bind,hx,hy,znt h,asAddr]
theorem zsh (h:BoxN w g 57 256 F):(Instr.storeAt 57 (.pointer (some ⟨g,0,none⟩)) (.agg (arrV 256 G))).run Tryd.prog w = .ok () (w.setRow g (arrV 256 G)):=by
 have h1:(storeCells ⟨g,0,none⟩ (arrV 256 G).toList 0).run Tryd.prog w = .ok () (w.setRow g ((arrV 256 F).toList.take 0++(arrV 256 G).toList).toArray):=
   run_storeCells_from g _ _ 0 _ w h (by simp[arrV]) (zig 256 G)
 have h3:(sizeOf 57).run Tryd.prog w = .ok 256 w:=(by kernel_rfl);have h4:(arrV 256 G).size=256:=zaq _ _;rw[List.take_zero,List.nil_append,Array.toArray_toList] at h1;simp[Instr.storeAt,storeVar,Instr.sureAddr,Sem.run_bind,Value.cells,h1,h3,h4]
theorem zmd (w:World) (j:Nat) (hj:j<256):(Instr.index 57 (.agg (arrV 256 F)) (.int .i64 (j:Int))).run Tryd.prog w = .ok (.int .i64 (F j:Int)) w:=by
 have hu:(underlying 57).run Tryd.prog w = .ok (.array 256 3) w:=(by kernel_rfl);have h3:(sizeOf 3).run Tryd.prog w = .ok 1 w:=(by kernel_rfl);have h2:(isAgg 3).run Tryd.prog w = .ok false w:=(by kernel_rfl);have h4:=ze1 256 F j hj;have h5:(0:Int)<=(j:Int)∧(j:Int)<((256:Nat):Int):=(by omega);simp only[Instr.index,asIntOf,part,Sem.run_bind,Sem.run_pure,Result.andThen_ok,hu,h3,h2,h5,and_self,if_true,Int.toNat_natCast,Nat.mul_one];simp[h4]
theorem zn4 {x:Operand} (hx:a.eval x = .pointer (some ⟨g,0,none⟩)) (h:BoxN w g 57 256 F) (hK:next (a.put d (.agg (arrV 256 F))) w):
   Oper.wp Tryd.prog ⟨d,.load 57 x,ty,pos,aft,gd⟩ a w next Q:=by
 have e:(execOp a.eval ⟨d,.load 57 x,ty,pos,aft,gd⟩).run Tryd.prog w = .ok (.value (.agg (arrV 256 F))) w:=by
   simp[execOp,hx,Sem.run_bind,zve h]
 unfold Oper.wp;rw[e];exact hK
theorem zk7 {x y:Operand} (hx:a.eval x = .pointer (some ⟨g,0,none⟩)) (hy:a.eval y = .agg (arrV 256 G)) (h:BoxN w g 57 256 F) (hK:next (a.put d undef) (w.setRow g (arrV 256 G))):
   Oper.wp Tryd.prog ⟨d,.store 57 x y,ty,pos,aft,gd⟩ a w next Q:=by
 have e:(execOp a.eval ⟨d,.store 57 x y,ty,pos,aft,gd⟩).run Tryd.prog w = .ok .skip (w.setRow g (arrV 256 G)):=by
   simp[execOp,hx,hy,Sem.run_bind,zsh (G:=G) h]
 unfold Oper.wp;rw[e];exact hK
variable {ops:Array Oper} {QE:Exit->Act->World->Prop} {rest:List Oper}
theorem zb0 {x:Operand} (hx:a.eval x = .pointer (some ⟨g,0,none⟩)) (h:BoxN w g 57 256 F) (hK:wpList Tryd.prog ops QE rest (a.put d (.agg (arrV 256 F))) w):
   wpList Tryd.prog ops QE (⟨d,.load 57 x,ty,pos,aft,none⟩::rest) a w:=
 wpList_plain rfl fun K hk=>zn4 hx h (hk _ _ hK)
theorem zbm {x y:Operand} (hx:a.eval x = .pointer (some ⟨g,0,none⟩)) (hy:a.eval y = .agg (arrV 256 G)) (h:BoxN w g 57 256 F) (hK:wpList Tryd.prog ops QE rest (a.put d undef) (w.setRow g (arrV 256 G))):
   wpList Tryd.prog ops QE (⟨d,.store 57 x y,ty,pos,aft,none⟩::rest) a w:=
 wpList_plain rfl fun K hk=>zk7 hx hy h (hk _ _ hK)
end
end
section
open Go
section
variable {K:Type} [DecidableEq K]
def isFst (f:Nat->K) (b:Nat):Bool:=(List.range b).all fun c=>decide (f c≠f b)
def cntK (f:Nat->K):Nat->Nat
 | 0=>0
 | b+1=>cntK f b+if isFst f b then 1 else 0
def fstK (f:Nat->K) (b:Nat):Nat:=((List.range b).find? fun c=>decide (f c=f b)).getD b
def numK (f:Nat->K) (b:Nat):Nat:=cntK f (fstK f b)
theorem zcq (f:Nat->K) (b:Nat):isFst f b=true↔∀ c,c<b->f c≠f b:=by
 unfold isFst;simp
theorem zq9 (f:Nat->K) (b:Nat):isFst f b=false↔∃ c,c<b∧f c=f b:=by
 rw[←Bool.not_eq_true,zcq];simp
theorem zjs (f:Nat->K) {a b:Nat} (h:a<=b):cntK f a<=cntK f b:=by
 induction b with
 | zero =>
           have:a=0:=by omega
           subst this;exact Nat.le_refl _
 | succ b ih =>
   by_cases e:a=b+1
   . subst e;exact Nat.le_refl _
   . have:=ih (by omega);simp only[cntK];omega
theorem zkz (f:Nat->K) {a b:Nat} (h:a<b) (ha:isFst f a=true):cntK f a<cntK f b:=by
 have:=zjs f (show a+1<=b from h);simp only[cntK,ha,if_true] at this;omega
theorem zfx (f:Nat->K) (b:Nat):cntK f b<=b:=by
 induction b with
 | zero=>exact Nat.le_refl _
 | succ b ih=>simp only[cntK];split <;> omega
theorem zdw (f:Nat->K) (b:Nat):fstK f b<=b∧f (fstK f b)=f b∧isFst f (fstK f b)=true:=by
 induction b using Nat.strongRecOn with
 | _ b ih =>
   unfold fstK;cases hf:(List.range b).find? (fun c=>decide (f c=f b)) with
   | none =>
     rw[List.find?_eq_none] at hf;refine⟨Nat.le_refl _,rfl,?_⟩;rw[Option.getD_none,zcq];intro c hc e;exact hf c (List.mem_range.2 hc) (by simpa using e)
   | some c =>
     have hm:=List.mem_of_find?_eq_some hf;have hp:=List.find?_some hf;rw[List.mem_range] at hm;simp at hp;rw[Option.getD_some];refine⟨by omega,hp,?_⟩;rw[zcq];intro d hd e;rw[List.find?_range_eq_some] at hf;exact absurd (e.trans hp) (by have:=hf.2.2 d hd;simpa using this)
theorem zmj (f:Nat->K) {a b:Nat} (ha:isFst f a=true) (hb:isFst f b=true) (e:f a=f b):a=b:=by
 rw[zcq] at ha hb;rcases Nat.lt_trichotomy a b with h|h|h
 . exact absurd e (hb a h)
 . exact h
 . exact absurd e.symm (ha b h)
theorem zrb (f:Nat->K) {b:Nat} (h:isFst f b=true):fstK f b=b:=by
 have:=zdw f b;exact zmj f this.2.2 h this.2.1
theorem zlu (f:Nat->K) {b:Nat} (h:isFst f b=true):numK f b=cntK f b:=by
 unfold numK;rw[zrb f h]
theorem zcn (f:Nat->K) (a b:Nat):numK f a=numK f b↔f a=f b:=by
 obtain⟨_,ea,fa⟩:=zdw f a;obtain⟨_,eb,fb⟩:=zdw f b;unfold numK;constructor
 . intro h;rcases Nat.lt_trichotomy (fstK f a) (fstK f b) with l|l|l
   . have:=zkz f l fa;omega
   . rw[←ea,←eb,l]
   . have:=zkz f l fb;omega
 . intro h;rw[zmj f fa fb (by rw[ea,eb,h])]
theorem zv6 (f:Nat->K) (b:Nat):numK f b<cntK f (b+1):=by
 obtain⟨h,_,fa⟩:=zdw f b;exact zkz f (by omega) fa
theorem zbj (f:Nat->K) {b n:Nat} (h:b<n):numK f b<cntK f n:=Nat.lt_of_lt_of_le (zv6 f b) (zjs f h)
theorem zjr (f:Nat->K) (b:Nat):cntK f (b+1)=max (cntK f b) (numK f b+1):=by
 cases h:isFst f b
 . obtain⟨c,hc,e⟩:=(zq9 f b).1 h;have h1:=zbj f hc;rw[(zcn f c b).2 e] at h1;simp only[cntK,h];simp;omega
 . rw[zlu f h];simp only[cntK,h,if_true];omega
theorem zv7 (f:Nat->K) (b:Nat):numK f b<=cntK f b:=by
 have:=zjr f b;have h2:cntK f (b+1)<=cntK f b+1:=by simp only[cntK];split <;> omega
 omega
end
def keyL (l:List (Nat->Bool)) (b:Nat):List Bool:=l.map fun p=>p b
theorem zjj (l:List (Nat->Bool)) (i:Nat) (h:i<l.length) (b:Nat):keyL (l.take (i+1)) b=keyL (l.take i) b++[(l[i]'h) b]:=by
 unfold keyL;rw[List.take_succ_eq_append_getElem h,List.map_append];rfl
theorem zvm (l:List (Nat->Bool)) (i:Nat) (h:i<l.length) (a b:Nat):keyL (l.take (i+1)) a=keyL (l.take (i+1)) b↔keyL (l.take i) a=keyL (l.take i) b∧(l[i]'h) a=(l[i]'h) b:=by
 rw[zjj l i h,zjj l i h];constructor
 . intro e;have:=List.append_inj' e rfl;exact⟨this.1,by simpa using this.2⟩
 . rintro⟨e1,e2⟩;rw[e1,e2]
def metK (f g:Nat->List Bool) (p:Nat->Bool) (j:Nat) (q:Bool) (c:Nat):Nat:=
 match (List.range j).find? fun b=>p b==q&&numK f b==c with
 | some b=>numK g b+1
 | none=>0
theorem zqd (f g:Nat->List Bool) (p:Nat->Bool) (q:Bool) (c:Nat):metK f g p 0 q c=0:=rfl
def PartsBy (f g:Nat->List Bool) (p:Nat->Bool):Prop:=∀ a b,g a=g b↔f a=f b∧p a=p b
theorem zqe {f g:Nat->List Bool} {p:Nat->Bool} (h:PartsBy f g p) (j:Nat):
   metK f g p j (p j) (numK f j)=if isFst g j then 0 else numK g j+1:=by
 unfold metK;cases hf:(List.range j).find? (fun b=>p b==p j&&numK f b==numK f j) with
 | none =>
   rw[List.find?_eq_none] at hf;have:isFst g j=true:=by
     rw[zcq];intro c hc e;have:=(h c j).1 e;exact hf c (List.mem_range.2 hc) (by simp[this.2,(zcn f c j).2 this.1])
   simp[this]
 | some b =>
   have hm:=List.mem_of_find?_eq_some hf;have hp:=List.find?_some hf;rw[List.mem_range] at hm;simp at hp;have hg:g b=g j:=(h b j).2 ⟨(zcn f b j).1 hp.2,hp.1⟩;have:isFst g j=false:=(zq9 g j).2 ⟨b,hm,hg⟩;simp[this,(zcn g b j).2 hg]
theorem zj9 {f g:Nat->List Bool} {p:Nat->Bool} (h:PartsBy f g p) (j:Nat) (q:Bool) (c:Nat):
   metK f g p (j+1) q c=if q=p j∧c=numK f j then numK g j+1 else metK f g p j q c:=by
 by_cases hq:q=p j∧c=numK f j
 . obtain⟨rfl,rfl⟩:=hq;rw[if_pos ⟨rfl,rfl⟩];unfold metK;rw[List.range_succ,List.find?_append];cases hf:(List.range j).find? (fun b=>p b==p j&&numK f b==numK f j) with
   | none=>simp
   | some b =>
     have hp:=List.find?_some hf;simp at hp;simp[(zcn g b j).2 ((h b j).2 ⟨(zcn f b j).1 hp.2,hp.1⟩)]
 . rw[if_neg hq];unfold metK;rw[List.range_succ,List.find?_append];have:(List.find? (fun b=>p b==q&&numK f b==c) [j])=none:=by
     simp;intro e e2;exact hq ⟨e.symm,e2.symm⟩
   rw[this,Option.or_none]
end
def stoW (w:World) (p v:Value):World:=match p,v with
 | .pointer (some a),.agg cs=>w.setRow a.block cs
 | _,_=>w
def Sto (ty:TypeId) (w:World) (p v:Value):Prop:=(Instr.storeAt ty p v).run Tryd.prog w = .ok () (stoW w p v)
theorem zuk {ty:TypeId} {w:World} {b:Nat} {cur cs:Array Value} {t:TypeId} (h:w.heap[b]?=some (.cells cur t (0,0))) (hi:(Tryd.prog.info? ty).map (·.size)=some cs.size) (ho:cur.size=cs.size) (h1:cs.all (·.oneCell')=true):
   Sto ty w (.pointer (some ⟨b,0,none⟩)) (.agg cs):=by
 unfold Sto stoW;simp only[Instr.storeAt,Instr.sureAddr,Sem.run_bind,Sem.run_pure,Result.andThen_ok,run_storeVar_row w b t ty cur cs h hi ho h1]
theorem zlj {ρ:Operand->Value} {dst:Option Tmp} {x y:Operand} {t ty:TypeId} {pos:String} {after:Array Edge} {guard:Option (Nat×Bool)} {w:World} (h:Sto t w (ρ x) (ρ y)):
   Sem.run Tryd.prog (execOp ρ {dst:=dst,op := .store t x y,type:=ty,pos:=pos,after:=after,guard:=guard}) w = .ok .skip (stoW w (ρ x) (ρ y)):=by
 unfold Sto at h;unfold execOp;simp only[Sem.run_bind,Sem.run_pure,Result.andThen_ok,h]
theorem zr5 {w:World} {b:Nat} {old cs:Array Value} {t:TypeId} (h:w.heap[b]?=some (.cells old t (0,0))):(stoW w (.pointer (some ⟨b,0,none⟩)) (.agg cs)).heap[b]?=some (.cells cs t (0,0)):=setRow_heap w b old cs t (0,0) h
theorem zx1 {w:World} {g o b:Nat} {cs:Array Value} {v:Value} (h:w.cell? ⟨g,o,none⟩=some v) (hne:g≠b):(stoW w (.pointer (some ⟨b,0,none⟩)) (.agg cs)).cell? ⟨g,o,none⟩=some v:=(cell_setRow_other w b cs ⟨g,o,none⟩ hne).trans h
theorem zjy {B:Nat} {w0 w:World} {b:Nat} {cs:Array Value} (h:Below B w0 w) (hb:B<=b):Below B w0 (stoW w (.pointer (some ⟨b,0,none⟩)) (.agg cs)):=below_setRow h hb cs
def stoM (w:World) (p v:Value):World:=match p,v with
 | .pointer (some a),.agg cs=>w.setCells a.block a.off cs.toList
 | _,_=>w
def StoM (ty:TypeId) (w:World) (p v:Value):Prop:=(Instr.storeAt ty p v).run Tryd.prog w = .ok () (stoM w p v)
section
def Bys (w:World) (B:Nat) (v:Value) (l:List Int):Prop:=w.ownsRow B 5 1 v l.length (l.map (Value.int .u8))
section
variable {w w':World} {B C D:Nat} {v:Value} {l m:List Int} {A:Option Addr}
theorem Bys.form (h:Bys w B v l):∃ A c,v = .slice A l.length c:=by
 rcases h.2 with ⟨rfl,h0⟩|⟨g,cap,cur,rfl,_⟩
 . exact⟨none,0,by rw[h0]⟩
 . exact⟨_,_,rfl⟩
theorem Bys.rd (h:Bys w B v l):∃ A c,v = .slice A l.length c∧RdB w w.heap.size A l:=by
 obtain⟨A,c,e,_,hr,_⟩:=ziy h;exact⟨A,c,e,hr⟩
theorem RdB.nil0 (h:RdB w C A m) (hA:A=none):m.length=0:=by
 rcases Nat.eq_zero_or_pos m.length with h0|h0
 . exact h0
 . obtain⟨b,off,e,_⟩:=h 0 h0;rw[hA] at e;cases e
variable {o:Oper} {a:Act} {cap k:Nat}
theorem RdB.take (h:RdB w C A m) (k:Nat):RdB w C A (m.take k):=by
 intro j hj;simp at hj;obtain⟨b,off,e,hb,hc⟩:=h j (by omega);refine⟨b,off,e,hb,?_⟩;rw[hc];simp[List.getD_eq_getElem?_getD,List.getElem?_take_of_lt (show j<k by omega)]
theorem RdB.drop {b off:Nat} (h:RdB w C (some ⟨b,off,none⟩) m) (k:Nat):RdB w C (some ⟨b,off+k,none⟩) (m.drop k):=by
 intro j hj;simp at hj;obtain⟨b',off',e,hb,hc⟩:=h (k+j) (by omega);injection e with e
 injection e with e1 e2
 subst e1 e2;refine⟨b,off+k,rfl,hb,?_⟩;rw[show off+k+j=off+(k+j) by omega,hc];simp[List.getD_eq_getElem?_getD,List.getElem?_drop]
end
end
set_option maxRecDepth 20000 in
theorem zu5 {w:World} {B n c:Nat} {A:Option Addr} {l:List Int} (h:Bys w B (.slice A n c) l):(convert 22 9 (.slice A n c)).run Tryd.prog w = .ok (.string (strOfNums l)) w:=by
 obtain⟨A',c',e,hr⟩:=h.rd;injection e with e1 e2 e3
 subst e1 e2 e3;cases A with
 | none =>
   have h0:=hr.nil0 rfl;have hx:l=[]:=List.length_eq_zero_iff.1 h0;subst hx;exact run_convert_bytes_nil w 22 5 Tryd.underlying22 Tryd.underlying5 _ _ _ Tryd.underlying9
 | some ad =>
   by_cases h0:0<l.length
   . obtain⟨b,off,e,hb,_⟩:=hr 0 h0;injection e with e
     subst e;refine run_convert_bytes_arg w 22 5 Tryd.underlying22 Tryd.underlying5 b off _ _ l rfl (fun i hi=>?_) _ Tryd.underlying9;obtain⟨b',off',e,hb',hc⟩:=hr i hi;injection e with e
     injection e with e1 e2
     subst e1 e2;exact hc
   . have hx:l=[]:=List.length_eq_zero_iff.1 (by omega);subst hx;rcases h.2 with ⟨e,_⟩|⟨g,cap,cur,e,_⟩
     . cases e
     . injection e with e1 e2 e3
       injection e1 with e1
       subst e1;exact run_convert_bytes_arg w 22 5 Tryd.underlying22 Tryd.underlying5 g 0 _ _ [] rfl (fun i hi=>by simp at hi) _ Tryd.underlying9
def resV:Result Value->Value
 | .ok r _=>r
 | _=>undef
def resW (w:World):Result Value->World
 | .ok _ r=>r
 | _=>w
noncomputable def appV (t ty:TypeId) (w:World) (v s:Value):Value:=resV ((Builtin.append_ #[t,t] ty #[v,s]).run Tryd.prog w)
noncomputable def appW (t ty:TypeId) (w:World) (v s:Value):World:=resW w ((Builtin.append_ #[t,t] ty #[v,s]).run Tryd.prog w)
def App (t ty:TypeId) (w:World) (v s:Value):Prop:=(Builtin.append_ #[t,t] ty #[v,s]).run Tryd.prog w = .ok (appV t ty w v s) (appW t ty w v s)
theorem zs5 {t ty:TypeId} {w w':World} {v s v':Value} (h:(Builtin.append_ #[t,t] ty #[v,s]).run Tryd.prog w = .ok v' w'):App t ty w v s∧appV t ty w v s=v'∧appW t ty w v s=w':=by
 unfold App appV appW;rw[h];exact⟨rfl,rfl,rfl⟩
theorem zeq {ρ:Operand->Value} {dst:Option Tmp} {s x:Operand} {t ty:TypeId} {pos:String} {after:Array Edge} {guard:Option (Nat×Bool)} {w:World} (h:App t ty w (ρ s) (ρ x)):
   Sem.run Tryd.prog (execOp ρ {dst:=dst,op := .call {callee := .builtin .append,args:=#[s,x],argTypes:=#[t,t]},type:=ty,pos:=pos,after:=after,guard:=guard}) w = .ok (.value (appV t ty w (ρ s) (ρ x))) (appW t ty w (ρ s) (ρ x)):=by
 unfold App at h;unfold execOp;simp only[resolve,invoke,builtin,Sem.run_bind,Sem.run_pure,Result.andThen_ok,List.map_toArray,List.map_cons,List.map_nil,h]
section
open Go
section
variable {α:Type} [DecidableEq α]
def meetL (ss:List α) (t:α):List α:=if t∈ss then ss else ss++[t]
theorem zqi (ss:List α) (t:α):t∈meetL ss t:=by
 unfold meetL;split
 . assumption
 . simp
theorem zfg {ss:List α} (h:ss.Nodup) (t:α):(meetL ss t).Nodup:=by
 unfold meetL;split
 . exact h
 . rename_i hn;rw[List.nodup_append];refine⟨h,by simp,fun a ha b hb=>?_⟩;rw[List.mem_singleton] at hb;subst hb;exact fun e=>hn (e▸ha)
theorem zja (ss:List α) (t:α):∃ z,meetL ss t=ss++z:=by
 unfold meetL;split
 . exact⟨[],by simp⟩
 . exact⟨[t],rfl⟩
def idxM (ss:List α) (t:α):Nat:=ss.idxOf t
theorem zwt {ss:List α} {t:α} {i:Nat} (hn:ss.Nodup) (h:ss[i]?=some t):idxM ss t=i:=by
 unfold idxM;obtain⟨hi,he⟩:=List.getElem?_eq_some_iff.1 h;have hm:t∈ss:=List.mem_of_getElem? h;have hl:ss.idxOf t<ss.length:=List.idxOf_lt_length_of_mem hm;have e:ss[ss.idxOf t]=t:=List.getElem_idxOf hl;exact (List.getElem_inj hn).1 (e.trans he.symm)
theorem zr4 {ss:List α} {t:α} (h:t∈ss):idxM ss t<ss.length:=List.idxOf_lt_length_of_mem h
theorem zvo {ss:List α} {t:α} (h:t∈ss):ss[idxM ss t]?=some t:=by
 have hl:ss.idxOf t<ss.length:=zr4 h;unfold idxM;rw[List.getElem?_eq_getElem hl,List.getElem_idxOf hl]
theorem zr3 {ss z:List α} {t:α} (h:t∈ss):idxM (ss++z) t=idxM ss t:=by unfold idxM;rw[List.idxOf_append,if_pos h]
def rowS (f:Nat->α) (most:Nat):Nat->Nat->List α->List Nat->Option (List α×List Nat)
 | 0,c,ss,row=>some (ss,row)
 | k+1,c,ss,row=>if (meetL ss (f c)).length>most then none else rowS f most k (c+1) (meetL ss (f c)) (row++[idxM (meetL ss (f c)) (f c)])
def buildS (step:α->Nat->α) (most n:Nat):Nat->Nat->List α->List (List Nat)->Option (List α×List (List Nat))
 | 0,i,ss,rows=>some (ss,rows)
 | fu+1,i,ss,rows=>match ss[i]? with
   | none=>some (ss,rows)
   | some s=>match rowS (step s) most n 0 ss [] with
     | none=>none
     | some (ss',row)=>buildS step most n fu (i+1) ss' (rows++[row])
theorem zpe {f:Nat->α} {most:Nat}:∀ {k c:Nat} {ss:List α} {row:List Nat} {ss':List α} {row':List Nat},rowS f most k c ss row=some (ss',row')->ss.Nodup->ss.length<=most->
   (∀ j,j<row.length->∃ t,f j=t∧t∈ss∧row[j]?=some (idxM ss t))->row.length=c->
   (∃ z,ss'=ss++z)∧ss'.Nodup∧ss'.length<=most∧row'.length=c+k∧∀ j,j<c+k->f j∈ss'∧row'[j]?=some (idxM ss' (f j))
 | 0,c,ss,row,ss',row',h,hn,hm,hr,hc=>by
   unfold rowS at h;injection h with h
   injection h with h1 h2
   subst h1 h2;refine⟨⟨[],by simp⟩,hn,hm,by omega,fun j hj=>?_⟩;obtain⟨t,h1,h2,h3⟩:=hr j (by omega);subst h1;exact⟨h2,h3⟩
 | k+1,c,ss,row,ss',row',h,hn,hm,hr,hc=>by
   unfold rowS at h;split at h
   . cases h
   . rename_i hlen;obtain⟨z,hz⟩:=zja ss (f c);obtain⟨⟨z',h1⟩,h2,h3,h4,h5⟩:=zpe h (zfg hn _) (by omega) (fun j hj=>by
       simp at hj
       by_cases e:j<row.length
       . obtain⟨t,h1,h2,h3⟩:=hr j e;refine⟨t,h1,by rw[hz];exact List.mem_append_left _ h2,?_⟩;rw[List.getElem?_append_left e,h3,hz,zr3 h2]
       . have e':j=c:=(by omega);subst e';refine⟨f j,rfl,zqi _ _,?_⟩;rw[List.getElem?_append_right (by omega),←hc,Nat.sub_self];rfl) (by simp[hc])
     refine⟨⟨z++z',by rw[h1,hz,List.append_assoc]⟩,h2,h3,by omega,fun j hj=>h5 j (by omega)⟩
structure Fnd (step:α->Nat->α) (n:Nat) (ss:List α) (rows:List (List Nat)) (i:Nat):Prop where
 nodup:ss.Nodup
 len:rows.length=i
 row:∀ j,j<i->∃ s row,ss[j]?=some s∧rows[j]?=some row∧row.length=n∧∀ c,c<n->step s c∈ss∧row[c]?=some (idxM ss (step s c))
theorem Fnd.more {step:α->Nat->α} {n:Nat} {ss:List α} {rows:List (List Nat)} {i:Nat} (h:Fnd step n ss rows i) {z:List α} (hn:(ss++z).Nodup) {s:α} (hs:ss[i]?=some s) {row:List Nat} (hl:row.length=n)
   (hr:∀ c,c<n->step s c∈ss++z∧row[c]?=some (idxM (ss++z) (step s c))):Fnd step n (ss++z) (rows++[row]) (i+1):=by
 refine⟨hn,by simp[h.len],fun j hj=>?_⟩
 by_cases e:j<i
 . obtain⟨s',row',h1,h2,h3,h4⟩:=h.row j e;have hjl:=(List.getElem?_eq_some_iff.1 h1).1;refine⟨s',row',by rw[List.getElem?_append_left hjl];exact h1,by rw[List.getElem?_append_left (by rw[h.len];exact e)];exact h2,h3,fun c hc=>?_⟩;obtain⟨h5,h6⟩:=h4 c hc;exact⟨List.mem_append_left _ h5,by rw[zr3 h5];exact h6⟩
 . have e':j=i:=(by omega);subst e';have hjl:=(List.getElem?_eq_some_iff.1 hs).1;exact⟨s,row,by rw[List.getElem?_append_left hjl];exact hs,by rw[List.getElem?_append_right (by rw[h.len];exact Nat.le_refl _),h.len,Nat.sub_self];rfl,hl,hr⟩
theorem zg0 {step:α->Nat->α} {most n:Nat}:∀ {fu i:Nat} {ss:List α} {rows:List (List Nat)} {ss':List α} {rows':List (List Nat)},buildS step most n fu i ss rows=some (ss',rows')->most<fu+i->i<=ss.length->ss.length<=most->Fnd step n ss rows i->Fnd step n ss' rows' ss'.length∧ss'.length<=most∧∃ z,ss'=ss++z
 | 0,i,ss,rows,ss',rows',h,hf,hi,hm,hfo=>by omega
 | fu+1,i,ss,rows,ss',rows',h,hf,hi,hm,hfo=>by
   unfold buildS at h;cases e:ss[i]? with
   | none =>
     rw[e] at h;simp only at h;injection h with h
     injection h with h1 h2
     subst h1 h2;have hil:i=ss.length:=by
       rw[List.getElem?_eq_none_iff] at e;omega
     rw[←hil];exact⟨hfo,by omega,[],by simp⟩
   | some s =>
     rw[e] at h;simp only at h;have hil:=(List.getElem?_eq_some_iff.1 e).1;cases e2:rowS (step s) most n 0 ss [] with
     | none=>rw[e2] at h;cases h
     | some v =>
       obtain⟨ss1,row⟩:=v;rw[e2] at h;simp only at h;obtain⟨⟨z,h1⟩,h2,h3,h4,h5⟩:=zpe e2 hfo.nodup hm (fun j hj=>by simp at hj) rfl;subst h1;obtain⟨h6,h7,z',h8⟩:=zg0 h (by omega) (by simp;omega) h3 (hfo.more h2 e (by omega) (fun c hc=>h5 c (by omega)));exact⟨h6,h7,z++z',by rw[h8,List.append_assoc]⟩
end
end
def RdStr (w:World) (A:Option Addr) (L:List ByteArray):Prop:=∀ i s,L[i]?=some s->∃ b off,A=some ⟨b,off,none⟩∧b<w.heap.size∧w.cell? ⟨b,off+i,none⟩=some (.string s)
theorem RdStr.stays {w w':World} {A:Option Addr} {L:List ByteArray} (h:RdStr w A L) (hb:Below w.heap.size w w'):RdStr w' A L:=fun i s e=>by
 obtain⟨b,off,h1,h2,h3⟩:=h i s e;exact⟨b,off,h1,Nat.lt_of_lt_of_le h2 hb.size,za2 h3 hb⟩
theorem zvs (p:Nat->Bool) (b:Nat):(bits .and .u64 (word p (b / 64) / 2 ^ (b % 64)) 1==1)=p b:=by
 have h:=zi8 p (b % 64+64*0:Nat);have e:((2:Int) ^ (b % 64))=((2 ^ (b % 64):Nat):Int):=(by simp);have lt:wordN p (b / 64) / 2 ^ (b % 64)<18446744073709551616:=Nat.lt_of_le_of_lt (Nat.div_le_self _ _) (zb7 _ _);unfold word;rw[e,←Int.natCast_ediv,show (1:Int)=((1:Nat):Int) from rfl,bits_and_u64_nat _ _ lt (by omega)];have t:=zad p (b / 64) (b % 64);rw[Nat.testBit_eq_decide_div_mod_eq] at t;have hm:b % 64<64:=(by omega);have hx:64*(b / 64)+b % 64=b:=(by omega);rw[hx] at t;simp only[hm,decide_true,Bool.true_and] at t;rw[←t,Nat.and_one_is_mod];generalize wordN p (b / 64) / 2 ^ (b % 64)=m;rw[Bool.eq_iff_iff,beq_iff_eq,decide_eq_true_iff];omega
theorem zsz (k:Nat) (h:k<64):2 ^ k<18446744073709551616:=by
 have h:=Nat.pow_le_pow_right (n:=2) (by omega) (show k<=63 by omega);have e:(2:Nat) ^ 63=9223372036854775808:=(by decide);omega
theorem zw6 (p:Nat->Bool) (b:Nat):bits .or .u64 (word p (b / 64)) (IntKind.u64.wrap (2 ^ (b % 64)))=word (add1 p b) (b / 64):=by
 have e:((2:Int) ^ (b % 64))=((2 ^ (b % 64):Nat):Int):=(by simp);have lt:=zsz (b % 64) (by omega);have wr:IntKind.u64.wrap ((2 ^ (b % 64):Nat):Int)=((2 ^ (b % 64):Nat):Int):=by
   generalize 2 ^ (b % 64)=m at lt ⊢;exact zbl (by omega) (by omega)
 unfold word;rw[e,wr,bits_or_u64_nat _ _ (zb7 _ _) lt,zol]
def minusP (p q:Nat->Bool):Nat->Bool:=fun x=>p x && !q x
theorem zkl (p q:Nat->Bool) (i:Nat):bits .andNot .u64 (word p i) (word q i)=word (minusP p q) i:=by
 have h1:(BitVec.ofInt 64 ((wordN p i:Nat):Int)).toNat=wordN p i:=by
   rw[BitVec.ofInt_natCast,BitVec.toNat_ofNat];exact Nat.mod_eq_of_lt (zb7 _ _)
 have h2:(BitVec.ofInt 64 ((wordN q i:Nat):Int)).toNat=wordN q i:=by
   rw[BitVec.ofInt_natCast,BitVec.toNat_ofNat];exact Nat.mod_eq_of_lt (zb7 _ _)
 have e:wordN p i &&& (2 ^ 64-1-wordN q i)=wordN (minusP p q) i:=by
   apply Nat.eq_of_testBit_eq;intro j;have hq:=zb7 q i;rw[Nat.testBit_and,show 2 ^ 64-1-wordN q i=2 ^ 64-(wordN q i+1) by omega,Nat.testBit_two_pow_sub_succ (by omega),zad,zad,zad];cases decide (j<64) <;> simp[minusP]
 unfold word
 show IntKind.u64.wrap ((BitVec.ofInt 64 ((wordN p i:Nat):Int) &&& ~~~ BitVec.ofInt 64 ((wordN q i:Nat):Int)).toNat:Int)=_
 rw[BitVec.toNat_and,BitVec.toNat_not,h1,h2,e,IntKind.wrap_u64];have:=zb7 (minusP p q) i;omega
def fromP (q:Nat->Bool) (i p:Nat):Nat:=bitsN (fun j=>decide (p<=j)&&q (64*i+j)) 64
theorem zia (q:Nat->Bool) (i p:Nat):fromP q i p<18446744073709551616:=zif 64 _
theorem zc8 (q:Nat->Bool) (i p j:Nat):(fromP q i p).testBit j=(decide (j<64)&&(decide (p<=j)&&q (64*i+j))):=zca 64 _ j
theorem zku (q:Nat->Bool) (i:Nat):fromP q i 0=wordN q i:=zbx 64 _ _ fun j _=>by simp
theorem zny {q:Nat->Bool} {i p:Nat} (h:fromP q i p=0) (j:Nat) (h1:p<=j) (h2:j<64):q (64*i+j)=false:=by
 have t:=zc8 q i p j;rw[h] at t;simp[h1,h2] at t;exact t
theorem zqm:∀ (n x:Nat),x<2 ^ n->x≠0->∃ k m,k<n∧x=2 ^ k*(2*m+1)
 | 0,x,h,h0=>by simp at h;omega
 | n+1,x,h,h0=>by
   by_cases hx:x % 2=1
   . exact⟨0,x / 2,by omega,by omega⟩
   . rw[Nat.pow_succ] at h;obtain⟨k,m,hk,e⟩:=zqm n (x / 2) (by omega) (by omega);refine⟨k+1,m,by omega,?_⟩;have:x=2*(x / 2):=by omega
     rw[this,e,Nat.pow_succ,Nat.mul_comm (2 ^ k) 2,Nat.mul_assoc]
theorem zdm (k m j:Nat):(2 ^ k*(2*m+1)).testBit j=(decide (k<=j)&&(2*m+1).testBit (j-k)):=by
 have h:=Nat.testBit_two_pow_mul (i:=k) (a:=2*m+1) (j:=j)
 simpa using h
theorem zm2 (k m j:Nat):(2 ^ k*(2*m+1)-1).testBit j=if j<k then true else (2*m).testBit (j-k):=by
 have hp:0<2 ^ k:=Nat.two_pow_pos k;have e:2 ^ k*(2*m+1)-1=2 ^ k*(2*m)+(2 ^ k-1):=(by rw[Nat.mul_add,Nat.mul_one];omega);rw[e,Nat.testBit_two_pow_mul_add _ (by omega)];split
 . rename_i h;rw[Nat.testBit_two_pow_sub_one];simp[h]
 . rfl
theorem zhy (m j:Nat):(2*m+1).testBit (j+1)=m.testBit j:=by
 rw[Nat.testBit_succ];congr 1;omega
theorem zft (m j:Nat):(2*m).testBit (j+1)=m.testBit j:=by
 rw[Nat.testBit_succ];congr 1;omega
theorem ztd (k m:Nat) (h:2 ^ k*(2*m+1)<2 ^ 64):(2 ^ k*(2*m+1)) &&& (2 ^ 64-2 ^ k*(2*m+1))=2 ^ k:=by
 have hp:0<2 ^ k:=Nat.two_pow_pos k;have h1:0<2 ^ k*(2*m+1):=Nat.mul_pos hp (by omega);apply Nat.eq_of_testBit_eq;intro j;have e:2 ^ 64-2 ^ k*(2*m+1)=2 ^ 64-((2 ^ k*(2*m+1)-1)+1):=(by omega);rw[Nat.testBit_and,e,Nat.testBit_two_pow_sub_succ (by omega),zdm,zm2,Nat.testBit_two_pow]
 by_cases h2:j<k
 . have:¬ k<=j:=by omega
   have h3:¬ k=j:=(by omega);simp[this,h3]
 . by_cases h3:j=k
   . subst h3;have h64:j<64:=by
       rcases Nat.lt_or_ge j 64 with h4|h4
       . exact h4
       . have:=Nat.pow_le_pow_right (n:=2) (by omega) h4;have h5:2 ^ j*1<=2 ^ j*(2*m+1):=Nat.mul_le_mul_left _ (by omega);omega
     simp[h64]
   . obtain⟨d,rfl⟩:∃ d,j=k+(d+1):=⟨j-k-1,by omega⟩;have h4:¬ k=k+(d+1):=(by omega);rw[show k+(d+1)-k=d+1 by omega,zhy,zft];simp[h4,h2];exact fun h _=>h
theorem zte (k m:Nat):(2 ^ k*(2*m+1)) &&& (2 ^ k*(2*m+1)-1)=2 ^ k*(2*m):=by
 apply Nat.eq_of_testBit_eq;intro j;have h:=Nat.testBit_two_pow_mul (i:=k) (a:=2*m) (j:=j);rw[Nat.testBit_and,zdm,zm2]
 by_cases h2:j<k
 . have:¬ k<=j:=by omega
   simp[this] at h ⊢
   simpa using h.symm
 . have h6:k<=j:=(by omega);rw[if_neg h2];simp[h6] at h ⊢;rw[h]
   by_cases h3:j=k
   . subst h3;simp
   . obtain⟨d,rfl⟩:∃ d,j=k+(d+1):=⟨j-k-1,by omega⟩;rw[show k+(d+1)-k=d+1 by omega,zhy,zft];simp
theorem znz {q:Nat->Bool} {i p:Nat} (h:fromP q i p≠0):∃ k,p<=k∧k<64∧q (64*i+k)=true∧(∀ j,p<=j->j<k->q (64*i+j)=false)∧
   fromP q i p &&& (fromP q i p-1)=fromP q i (k+1)∧fromP q i p &&& (2 ^ 64-fromP q i p)=2 ^ k:=by
 obtain⟨k,m,hk,e⟩:=zqm 64 (fromP q i p) (zia q i p) h;have tk:=zc8 q i p k;rw[e,zdm] at tk;simp[hk] at tk;have hb:∀ j,p<=j->j<k->q (64*i+j)=false:=by
   intro j h1 h2;have t:=zc8 q i p j;have h3:¬ k<=j:=(by omega);rw[e,zdm] at t;simp[h3,h1,show j<64 by omega] at t;exact t
 refine⟨k,tk.1,hk,tk.2,hb,?_,?_⟩
 . rw[e,zte];apply Nat.eq_of_testBit_eq;intro j;have hm:=Nat.testBit_two_pow_mul (i:=k) (a:=2*m) (j:=j);have t:=zc8 q i p j;rw[e,zdm] at t;rw[hm,zc8]
   by_cases h2:k+1<=j
   . obtain⟨d,rfl⟩:∃ d,j=k+(d+1):=⟨j-k-1,by omega⟩;rw[show k+(d+1)-k=d+1 by omega,zhy] at t;rw[show k+(d+1)-k=d+1 by omega,zft];have h5:p<=k+(d+1):=(by omega);simp[h5] at t;simp[t]
   . by_cases h3:j=k
     . subst h3;simp;omega
     . have h4:¬ k<=j:=(by omega);have h5:¬ k+1<=j:=(by omega);simp[h4,h5]
 . rw[e,ztd k m (by rw[←e];exact zia q i p)]
def upP (q:Nat->Bool) (m:Nat):List Nat:=(List.range m).filter q
theorem zut {q:Nat->Bool} {k:Nat} (h:q k=true):upP q (k+1)=upP q k++[k]:=by
 unfold upP;rw[List.range_succ,List.filter_append];simp[h]
theorem zse {q:Nat->Bool} {k:Nat} (h:q k=false):upP q (k+1)=upP q k:=by
 unfold upP;rw[List.range_succ,List.filter_append];simp[h]
theorem zhk {q:Nat->Bool} {a:Nat}:∀ (d:Nat),(∀ j,a<=j->j<a+d->q j=false)->upP q (a+d)=upP q a
 | 0,_=>rfl
 | d+1,h=>by rw[←Nat.add_assoc,zse (h (a+d) (by omega) (by omega)),zhk d fun j h1 h2=>h j h1 (by omega)]
theorem upP_mem {q:Nat->Bool} {m k:Nat}:k∈upP q m↔k<m∧q k=true:=by simp[upP]
def deBr:List Nat:=[0,1,56,2,57,49,28,3,61,58,42,50,38,29,17,4,62,47,59,36,45,43,51,22,53,39,33,30,24,18,12,5,63,55,48,27,60,41,37,16,46,35,44,21,52,32,23,11,54,26,40,15,34,20,31,10,25,14,19,9,13,8,7,6]
theorem zvx:∀ k:Fin 64,deBr.getD ((2 ^ k.val*285870213051353865 % 18446744073709551616) / 288230376151711744) 0=k.val∧(2 ^ k.val*285870213051353865 % 18446744073709551616) / 288230376151711744<64:=by decide +kernel
section
def noDefer (ops:Array Oper):Bool:=ops.all fun o=>match o.op with | .defer _=>false | _=>true
theorem znr {ops:Array Oper} (h:noDefer ops=true) {i:Nat} {o:Oper} (hi:ops[i]?=some o):∀ c,o.op ≠ .defer c:=by
 intro c hc;unfold noDefer at h;rw[Array.all_eq_true] at h;obtain⟨hlt,e⟩:=Array.getElem?_eq_some_iff.1 hi;have:=h i hlt;rw[e,hc] at this;cases this
section
variable {P:Program} {ops:Array Oper} {Q:Exit->Act->World->Prop} {md:Region.Mode} {l n:Nat}
theorem zga (hd:noDefer ops=true) (hL:¬ LetsOut Q) {i:Nat} {K:Act->World->Prop} {a:Act} {w:World} (h:wpOp P ops Q i K a w):wpOpIn (Fence.wide.inRound l) n P ops Q i K a w:=by
 unfold wpOp at h;unfold wpOpIn;cases ho:ops[i]? with
 | none=>rw[ho] at h;exact h
 | some o =>
   rw[ho] at h;simp only at h ⊢;split
   . rename_i hw;rw[if_pos hw] at h;rcases h with h|⟨_,h⟩
     . refine⟨fun _ _=>trivial,?_⟩;rw[Oper.semAt_eq _ _ _ (znr hd ho)];unfold Oper.wp at h;generalize (execOp a.eval o).run P w=r at h ⊢;cases r with
       | ok x w' =>
         cases x <;> simp only[Oper.upon,Oper.uponIn] at h ⊢
         case value=>exact h
         case skip=>exact h
         case defer=>exact h
         case enter=>exact⟨fun e=>(by cases e),callsIn_wide.2 h⟩
         case row=>exact⟨fun e=>(by cases e),fun c cs _=>let ⟨v,w2,r,s⟩:=h c cs;⟨v,w2,r,stepsIn_wide.2 s⟩⟩
       | halt x w'=>cases x <;> simp only[Oper.upon,Oper.uponIn] at h ⊢;exact h
     . exact absurd h hL
   . rename_i hw;rw[if_neg hw] at h;exact⟨fun _ _=>trivial,h⟩
theorem zbo (hd:noDefer ops=true) (hL:¬ LetsOut Q):∀ (fuel:Nat) (listed:Array Bool) (a:Act) (w:World),wpAny P md ops Q fuel listed a w->wpAnyIn (Fence.wide.inRound l) n P md ops Q fuel listed a w
 | 0,listed,a,w,h=>h
 | fuel+1,listed,a,w,h=>⟨h.1,fun i hi=>wpOpIn_mono (fun a' w' h'=>zbo hd hL fuel _ a' w' h') (zga hd hL (h.2 i hi))⟩
end
theorem zbn {P:Program} {Q:Exit->Act->World->Prop} {r n id:Nat} {a:Act} {w:World} {l:List Oper} (k:Nat) (hm:P.follows .mixedOrders=true) (hB:Region.lexTailB .any l.toArray k=true) (hd:noDefer l.toArray=true) (hL:¬ LetsOut Q)
   (h:wpStill P l.toArray w.drew (fun a'=>wpList P l.toArray Q (l.drop k) a' w.drew) (l.take k) a):(Code.region id l.toArray true).wpIn (Fence.wide.inRound r) n P Q a w:=by
 refine wpIn_region_any hm (zbo hd hL _ _ _ _ ?_);simp only[Region.lexTailB,Bool.and_eq_true,decide_eq_true_eq] at hB;have hk:k<l.length:=(by have:=hB.1.1.1.2;simpa using this);have e1:(l.take k).length=k:=(by rw[List.length_take];omega);have e2:(l.drop k).length=l.toArray.size-k:=(by simp);have e3:(l.take k).length+(l.toArray.size-k)=l.toArray.size:=(by rw[e1];simp;omega);have start:HeadInv .any l.toArray k (Array.replicate l.toArray.size false):=by
   refine⟨by simp,fun j oj _ hl=>?_,fun t _ ht=>getD_in (by simpa using ht) (getD_replicate_false _ _)⟩;rw[getD_replicate_false] at hl;cases hl
 have hat:∀ j,j<(l.take k).length->(l.take k)[j]?=l.toArray[0+j]?:=fun j hj=>by
   rw[e1] at hj;simp[hj]
 have lex:=wpAnyL_lex (md := .any) (g:=l.toArray.size-k) hB.1.1.1.1 hB.1.1.2 hB.1.2 hB.1.1.1.2 (l.take k) 0 _ a hat (by omega) start (by rw[e1];exact hB.2) h;have tail:=wpAny_of_head (Q':=Q) (g:=l.toArray.size-k) (fun listed a' hs=>?_) _ _ _ lex
 . rwa [e3] at tail
 . have t1:=wpAny_of_seq (md := .any) (Q':=Q) (l.drop k) k listed a' w.drew (fun j=>by simp[List.getElem?_drop]) (by rw[e2];exact hs.1) hs.2
   rwa [e2] at t1
end
theorem zwv (a b:Int) (w:World):(binOp .eql 44 (.iface 92 (.int .i64 a)) (.iface 92 (.int .i64 b))).run Tryd.prog w = .ok (.bool (a==b)) w:=by kernel_rfl
set_option maxRecDepth 20000 in
set_option maxHeartbeats 2000000 in
theorem zky (w:World) (c:Nat) (h1:1<=c) (h2:c<=11):Calls Tryd.prog 23 #[.iface 92 (.int .i64 (c:Int))] w fun e w'=>e = .returned (.int .i64 (c:Int))∧w=w':=by
 have he:=zwv;go_enter Tryd.func23,Tryd.ntmps23;go_wp2;go_loopg [3] 12 (fun m s wr=>∃ j:Nat,s = .int .i64 (j:Int)∧1<=j∧j<=c∧m=13-j∧wr=w)
 case atStart=>exact⟨1,by first | rfl | trivial,Nat.le_refl _,h1,by first | rfl | trivial,rfl⟩
 case round =>
   obtain⟨j,rfl,hj1,hj,hm,hww⟩:=hrel;obtain rfl:=hww.symm;have HM:=Zh hm;clear hm;have i1:(j:Int)<=11:=by omega
   by_cases hjc:j=c
   . subst hjc;go_wp2;go_ret;exact⟨rfl,rfl⟩
   . have hq:((c:Int)==(j:Int))=false:=(by simp;omega);go_wp2;go_roundg (13-(j+1))
     case measure=>have:=HM.out;omega
     case rel=>exact⟨j+1,by go_num,by omega,by omega,rfl,rfl⟩
section
open Go Go.ChangeShapes Go.WideShapes Go.ChangeAt Go.RowKit
theorem Tryd.ownKnobNone:ownKnob Tryd.prog.godebug=none:=by kernel_rfl
theorem Tryd.laidOutOk:laidOutB Tryd.prog=true:=by kernel_rfl
section
variable {H:Type} {enc:TypeId×Value->H} {W:World} {base:Nat} {spare:Nat->Bool} {held:Bool} {v:Value} {d:DataW H} {ps:List MemPlace}
theorem zno (hv:Value.okWide Tryd.prog W .any base 22 v) (h:DataW.Trod enc Tryd.prog W 0 (fun _=>true) held 22 v d ps):
   ∃ A n cap xs,v = .slice A n cap∧n=xs.length∧RdB W W.heap.size A xs∧(∀ k,k<xs.length->0<=xs.getD k 0∧xs.getD k 0<=255)∧n<=cap∧cap<=maxLen:=by
 obtain⟨A,n,cap,rfl⟩:=okWide_slice Tryd.underlying22 hv;obtain⟨fuel,hf⟩:=h;rcases open_ints Tryd.underlying22 Tryd.underlying5 (by kernel_rfl) hf with ⟨hcs,_⟩|⟨x,l,c,zs,hcs,_,hl,hm,hz,_,hcell,hwz⟩
 . simp[Value.cells] at hcs;obtain⟨rfl,rfl,rfl⟩:=hcs;exact⟨none,0,0,[],rfl,rfl,fun k hk=>by simp at hk,fun k hk=>by simp at hk,Nat.le_refl _,Nat.zero_le _⟩
 . simp[Value.cells] at hcs;obtain⟨rfl,rfl,rfl⟩:=hcs;simp at hz;refine⟨_,n,cap,zs.take n,rfl,by simp;omega,?_,?_,hl,hm⟩
   . intro k hk;simp at hk;obtain⟨b,off,rfl,hc⟩:=ints_at hcell (by omega);have hck:=hc k (by omega);refine⟨b,off,rfl,World.block_lt_of_cell? W ⟨b,off+k,none⟩ hck,?_⟩;rw[hck,List.getD_eq_getElem?_getD,List.getD_eq_getElem?_getD,List.getElem?_take_of_lt (by omega)]
   . intro k hk;have hk':=hk;simp at hk';have hb:=range_u8 hwz k;rw[List.getD_eq_getElem?_getD,List.getElem?_take_of_lt (by omega)];exact hb
end
end
end Go.Proofs.YtgbdanddbgomhaaDoor
