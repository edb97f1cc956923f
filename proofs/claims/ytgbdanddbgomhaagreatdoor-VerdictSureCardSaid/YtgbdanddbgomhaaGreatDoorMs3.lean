import Derived.Lib.Split
import Derived.Lib.SplitLaws
import Derived.Lib.LastIndexByte
import Derived.Lib.Bytealg
import Derived.Test.YtgbdanddbgomhaaGreatDoorRows
import Derived.WalkKit
import Derived.WalkSpells
import Derived.WalkLawsBesides
import Derived.Laws.Bits64
import Derived.Laws.Bits64b
import Derived.IntWalk
import Derived.RowKit
import Derived.Laws.BitsLemmas
import Derived.Lib.Hide
import Derived.Deep.QuietTactic
import Derived.BigQuiet
import Derived.Deep.RegionHeld3
import Derived.Deep.DrawnRows
import Derived.StillTailTactics
import Derived.Maps.AppendAt
import Derived.Deep.AppendLies
import Derived.Deep.RegionLaw
import Derived.LaidEql
import Derived.Stop.Asserts
import Derived.RowKitTokens
import Derived.Laws.Externs
import Derived.RangeFuncNested
import Derived.OrdersIn
import Derived.Laws.Tables
import Derived.Laws.CopyOwn
import Derived.Deep.MidRow
import Derived.Laws.OwnMore
import Derived.Deep.LoopGhost
import Derived.Laws.StructEq
import Derived.ProofKit
import Derived.OpenShut
import Derived.Laws.IdiomArrays
import Derived.Lib.SmallJoins
set_option linter.unusedVariables false
set_option linter.unusedSimpArgs false
set_option maxRecDepth 20000
namespace Go.Proofs.YtgbdanddbgomhaaGreatDoor
open Go
theorem Zh {p:Prop} (h:p):RowKit.Hid p:=h
def bt (s:ByteArray) (k:Nat):Nat:=(s.data.toList.getD k 0).toNat
theorem zko (s:ByteArray) (k:Nat) (h:k<s.size):bt s k=(s[k]'h).toNat:=by
 unfold bt;rw[List.getD_eq_getElem?_getD,List.getElem?_eq_getElem (by simpa using h)];rfl
theorem ziu (s:ByteArray) (k:Nat):bt s k<256:=by unfold bt;exact UInt8.toNat_lt _
theorem zd7 {a b:ByteArray} (h:a.data.toList=b.data.toList):a=b:=by
 cases a with
 | mk x=>cases b with
   | mk y=>exact congrArg ByteArray.mk (Array.toList_inj.1 h)
theorem zfy (a b:ByteArray):(a.toList==b.toList)=decide (a=b):=by
 rw[ByteArray.toList_eq,ByteArray.toList_eq]
 by_cases h:a=b
 . subst h;simp
 . rw[decide_eq_false h];refine beq_eq_false_iff_ne.2 fun e=>h (zd7 e)
theorem zbd (a:ByteArray) (x:Array UInt8):(a.toList==x.toList)=decide (a=⟨x⟩):=by
 have:=zfy a ⟨x⟩;rw[ByteArray.toList_eq ⟨x⟩] at this;exact this
theorem znb (s:ByteArray) (k:Nat):bt s k=(s.data[k]!).toNat:=by
 unfold bt;rw[List.getD_eq_getElem?_getD,getElem!_def,Array.getElem?_toList];cases s.data[k]? <;> rfl
theorem zem (s:ByteArray) (k:Nat) (b:UInt8) (h:s.data.toList[k]?=some b):bt s k=b.toNat:=by
 unfold bt;rw[List.getD_eq_getElem?_getD,h];rfl
def firstI (s:ByteArray) (c:Nat):Nat->Int
 | 0 => -1
 | k+1=>if firstI s c k<0∧bt s k=c then (k:Int) else firstI s c k
def lastI (s:ByteArray) (c:Nat):Nat->Int
 | 0 => -1
 | k+1=>if bt s k=c then (k:Int) else lastI s c k
theorem zbf (s:ByteArray) (c:Nat):∀ k,(firstI s c k = -1∧∀ j,j<k->bt s j≠c)∨∃ i:Nat,i<k∧firstI s c k=i∧bt s i=c∧∀ j,j<i->bt s j≠c
 | 0 => .inl ⟨rfl,fun j h=>absurd h (Nat.not_lt_zero _)⟩
 | k+1=>by
   unfold firstI;rcases zbf s c k with ⟨e,hn⟩ | ⟨i,hi,e,hc,hn⟩
   . by_cases h:bt s k=c
     . rw[if_pos ⟨by omega,h⟩];exact .inr ⟨k,by omega,rfl,h,hn⟩
     . rw[if_neg fun x=>h x.2];exact .inl ⟨e,fun j hj=>by rcases Nat.lt_succ_iff_lt_or_eq.1 hj with h' | rfl;exact hn j h';exact h⟩
   . rw[if_neg fun x=>by have:=x.1;omega];exact .inr ⟨i,by omega,e,hc,hn⟩
theorem zdq (s:ByteArray) (c:Nat):∀ k,(lastI s c k = -1∧∀ j,j<k->bt s j≠c)∨∃ i:Nat,i<k∧lastI s c k=i∧bt s i=c∧∀ j,i<j->j<k->bt s j≠c
 | 0 => .inl ⟨rfl,fun j h=>absurd h (Nat.not_lt_zero _)⟩
 | k+1=>by
   unfold lastI
   by_cases h:bt s k=c
   . rw[if_pos h];exact .inr ⟨k,by omega,rfl,h,fun j h1 h2=>by omega⟩
   . rw[if_neg h];rcases zdq s c k with ⟨e,hn⟩|⟨i,hi,e,hc,hn⟩
     . exact .inl ⟨e,fun j hj=>by rcases Nat.lt_succ_iff_lt_or_eq.1 hj with h' | rfl;exact hn j h';exact h⟩
     . exact .inr ⟨i,by omega,e,hc,fun j h1 h2=>by rcases Nat.lt_succ_iff_lt_or_eq.1 h2 with h' | rfl;exact hn j h1 h';exact h⟩
theorem zkd (s:ByteArray) (c k i:Nat) (hi:i<k) (hc:bt s i=c) (hn:∀ j,j<i->bt s j≠c):firstI s c k=i:=by
 rcases zbf s c k with ⟨e,h⟩ | ⟨j,hj,e,h1,h2⟩
 . exact absurd hc (h i hi)
 . rcases Nat.lt_trichotomy i j with h|h|h
   . exact absurd hc (h2 i h)
   . rw[e,h]
   . exact absurd h1 (hn j h)
theorem zdr (s:ByteArray) (c k:Nat):firstI s c k<=lastI s c k ∧ -1<=firstI s c k∧lastI s c k<k∧(firstI s c k<0↔lastI s c k<0):=by
 rcases zbf s c k with ⟨e,h⟩ | ⟨i,hi,e,h1,h2⟩ <;> rcases zdq s c k with ⟨e',h'⟩ | ⟨j,hj,e',h1',h2'⟩
 . rw[e,e'];omega
 . exact absurd h1' (h j hj)
 . exact absurd h1 (h' i hi)
 . have:¬ j<i:=fun hh=>absurd h1' (h2 j hh)
   rw[e,e'];omega
theorem zdp (s:ByteArray) (c:Nat):∀ k,Lib.lastIdx s (c:Int) k=lastI s c k
 | 0=>rfl
 | k+1=>by
   unfold Lib.lastIdx lastI;rw[zdp s c k,znb]
   by_cases h:(s.data[k]!).toNat=c
   . rw[if_pos h,if_pos (by omega)]
   . rw[if_neg h,if_neg (by omega)]
theorem zbu (c:UInt8):∀ (l:List UInt8),(Lib.indexByte l c = -1∧∀ j,j<l.length->l[j]?≠some c)∨∃ i:Nat,i<l.length∧Lib.indexByte l c=i∧l[i]?=some c∧∀ j,j<i->l[j]?≠some c
 | [] => .inl ⟨rfl,fun j h=>absurd h (Nat.not_lt_zero _)⟩
 | b::l=>by
   unfold Lib.indexByte
   by_cases h:b=c
   . subst h;rw[if_pos (by simp)];exact .inr ⟨0,by simp,rfl,rfl,fun j h=>absurd h (Nat.not_lt_zero _)⟩
   . rw[if_neg (by simpa using h)];rcases zbu c l with ⟨e,hn⟩|⟨i,hi,e,hc,hn⟩
     . rw[if_pos (by rw[e];rfl)];refine .inl ⟨rfl,fun j hj=>?_⟩;cases j with
       | zero=>simpa using h
       | succ j=>simpa using hn j (by simpa using hj)
     . rw[if_neg (by rw[e];intro h;have:=beq_iff_eq.1 h;omega)];refine .inr ⟨i+1,by simpa using hi,by rw[e];omega,by simpa using hc,fun j hj=>?_⟩;cases j with
       | zero=>simpa using h
       | succ j=>simpa using hn j (by omega)
theorem zfc (s:ByteArray) (c:UInt8):Lib.indexByte s.data.toList c=firstI s c.toNat s.size:=by
 have hlen:s.data.toList.length=s.size:=(by simp);have key:∀ j,j<s.size->(s.data.toList[j]?=some c↔bt s j=c.toNat):=fun j hj=>by
   rw[List.getElem?_eq_getElem (by rw[hlen];exact hj)];have:bt s j=(s.data.toList[j]'(by rw[hlen];exact hj)).toNat:=zem s j _ (List.getElem?_eq_getElem _);rw[this];constructor
   . intro h;rw[Option.some.inj h]
   . intro h;rw[UInt8.toNat_inj.1 h]
 rcases zbu c s.data.toList with ⟨e,hn⟩|⟨i,hi,e,hc,hn⟩
 . rw[e];rcases zbf s c.toNat s.size with ⟨e',_⟩ | ⟨i,hi,e',h1,_⟩
   . exact e'.symm
   . exact absurd ((key i hi).2 h1) (hn i (by rw[hlen];exact hi))
 . rw[hlen] at hi;rw[e,zkd s c.toNat s.size i hi ((key i hi).1 hc) fun j hj h=>hn j hj ((key j (by omega)).2 h)]
def okB (b:Nat):Bool:=decide (97<=b∧b<=122)||decide (48<=b∧b<=57)||decide (b=45)||decide (b=95)
def nameOk (s:ByteArray):Bool:=decide (1<=s.size∧s.size<=16)&&(List.range s.size).all fun i=>okB (bt s i)
theorem zdk (s:ByteArray):nameOk s=true↔(1<=s.size∧s.size<=16)∧∀ i,i<s.size->okB (bt s i)=true:=by
 unfold nameOk;rw[Bool.and_eq_true,decide_eq_true_iff,List.all_eq_true];constructor
 . rintro⟨h,g⟩;exact⟨h,fun i hi=>g i (List.mem_range.2 hi)⟩
 . rintro⟨h,g⟩;exact⟨h,fun i hi=>g i (List.mem_range.1 hi)⟩
structure Ru where
 name:ByteArray
 pat:ByteArray
 luhn:Bool
def luhnT:ByteArray:=⟨#[108,117,104,110]⟩
def plainT:ByteArray:=⟨#[112,108,97,105,110]⟩
def nameOf (s:ByteArray):ByteArray:=s.extract 0 (firstI s 32 s.size).toNat
def patOf (s:ByteArray):ByteArray:=s.extract ((firstI s 32 s.size).toNat+1) (lastI s 32 s.size).toNat
def kindOf (s:ByteArray):ByteArray:=s.extract ((lastI s 32 s.size).toNat+1) s.size
def ruleT (s:ByteArray):Option Ru:=
 if lastI s 32 s.size<firstI s 32 s.size+2 then none
 else if nameOk (nameOf s)=true∧(kindOf s=luhnT∨kindOf s=plainT) then some ⟨nameOf s,patOf s,decide (kindOf s=luhnT)⟩ else none
def fromI (s:ByteArray):Nat->Nat
 | 0=>0
 | k+1=>if bt s k=10 then k+1 else fromI s k
def doneI (s:ByteArray):Nat->List ByteArray
 | 0=>[]
 | k+1=>if bt s k=10 then doneI s k++[s.extract (fromI s k) k] else doneI s k
def linesB (s:ByteArray):List ByteArray:=doneI s s.size++[s.extract (fromI s s.size) s.size]
theorem zek (s:ByteArray):∀ k,fromI s k<=k
 | 0=>Nat.le_refl _
 | k+1=>by unfold fromI;split;exact Nat.le_refl _;exact Nat.le_succ_of_le (zek s k)
theorem zff (s:ByteArray):∀ k,(doneI s k).length<=k
 | 0=>Nat.le_refl _
 | k+1=>by
   unfold doneI;have:=zff s k;split
   . simp;exact this
   . omega
theorem zcg (s:ByteArray):∀ k,∀ x∈doneI s k,x.size<=s.size
 | 0=>fun x h=>by simp[doneI] at h
 | k+1=>fun x h=>by
   unfold doneI at h;split at h
   . rcases List.mem_append.1 h with h|h
     . exact zcg s k x h
     . rw[List.mem_singleton] at h;subst h;simp;omega
   . exact zcg s k x h
theorem zcz (s:ByteArray):∀ x∈linesB s,x.size<=s.size:=fun x h=>by
 unfold linesB at h;rcases List.mem_append.1 h with h|h
 . exact zcg s _ x h
 . rw[List.mem_singleton] at h;subst h;simp
def linesL:List UInt8->List (List UInt8)
 | []=>[[]]
 | b::l=>if b=10 then []::linesL l else match linesL l with
   | []=>[[b]]
   | x::r=>(b::x)::r
theorem zfa:∀ l:List UInt8,(∀ b∈l,b≠10)->linesL l=[l]
 | [],_=>rfl
 | b::l,h=>by
   unfold linesL;rw[if_neg (h b (by simp)),zfa l fun x hx=>h x (by simp[hx])]
theorem zdo:∀ (a b:List UInt8),(∀ x∈a,x≠10)->linesL (a++10::b)=a::linesL b
 | [],b,_=>by simp[linesL]
 | x::a,b,h=>by
   rw[List.cons_append,linesL,if_neg (h x (by simp)),zdo a b fun y hy=>h y (by simp[hy])]
theorem zcv:∀ l:List UInt8,Lib.splitK [10] 0 (Lib.count l [10]) l=linesL l
 | []=>by rw[show Lib.count [] [10]=0 from Lib.count_miss (by simp[Lib.index])];rfl
 | b::l=>by
   by_cases h:b=10
   . subst h;have hix:Lib.index (10::l) [10]=0:=(by rw[Lib.index];simp[List.isPrefixOf]);rw[Lib.count_cons_eq,Nat.add_comm,linesL,if_pos rfl,Lib.splitK,hix];simp only[Int.toNat_zero,Nat.zero_add,List.take_zero,List.length_singleton,List.drop_succ_cons,List.drop_zero];rw[if_neg (by decide),zcv l]
   . have hp:([10]:List UInt8).isPrefixOf (b::l)=false:=(by simp[List.isPrefixOf,Ne.symm h]);have hix:Lib.index (b::l) [10]=if Lib.index l [10] == -1 then -1 else Lib.index l [10]+1:=by rw[Lib.index,hp];simp
     have ih:=zcv l;rw[Lib.count_cons_ne b 10 l h,linesL,if_neg h];cases hk:Lib.count l [10] with
     | zero=>rw[hk] at ih;rw[Lib.splitK] at ih ⊢;rw[←ih]
     | succ k =>
       rw[hk] at ih;rw[Lib.splitK] at ih ⊢
       by_cases hm:Lib.index l [10] = -1
       . rw[hix,hm];rw[hm] at ih;simp only[beq_self_eq_true,if_true] at ih ⊢;rw[←ih]
       . have hge:=Lib.index_ge l [10];have hm':(Lib.index l [10] == -1)=false:=beq_eq_false_iff_ne.2 hm;rw[hix];simp only[hm',Bool.false_eq_true,if_false] at ih ⊢;have h2:(Lib.index l [10]+1 == -1)=false:=beq_eq_false_iff_ne.2 (by omega);simp only[h2,Bool.false_eq_true,if_false];rw[←ih];have e1:(Lib.index l [10]+1).toNat=(Lib.index l [10]).toNat+1:=(by omega);simp only[e1,List.length_singleton];simp only[Nat.add_zero,List.take_succ_cons,List.drop_succ_cons,List.length_singleton]
theorem zkj (s:ByteArray) (k:Nat) (h:k<s.size):∃ b:UInt8,s.data.toList.drop k=b::s.data.toList.drop (k+1)∧bt s k=b.toNat:=by
 have hl:k<s.data.toList.length:=(by simpa using h);exact⟨_,List.drop_eq_getElem_cons hl,zem s k _ (List.getElem?_eq_getElem hl)⟩
theorem zb1 (s:ByteArray) (a b:Nat):(s.extract a b).data.toList=(s.data.toList.drop a).take (b-a):=by
 rw[ByteArray.data_extract,Array.toList_extract]
theorem zhb (s:ByteArray):∀ k,k<=s.size->(doneI s k).map (fun x=>x.data.toList)++linesL (s.data.toList.drop (fromI s k))=linesL s.data.toList∧∀ j,fromI s k<=j->j<k->bt s j≠10
 | 0,_=>⟨by simp[doneI,fromI],fun j h1 h2=>by omega⟩
 | k+1,hk=>by
   obtain⟨ih1,ih2⟩:=zhb s k (by omega);rw[doneI,fromI];have hf:=zek s k
   by_cases h:bt s k=10
   . rw[if_pos h,if_pos h];refine⟨?_,fun j h1 h2=>by omega⟩;rw[List.map_append,List.append_assoc,←ih1]
     congr 1
     obtain⟨b,hb,hv⟩:=zkj s k (by omega);have hb10:b=10:=by
       have:b.toNat=10:=by omega
       exact UInt8.toNat_inj.1 this
     have hsp:s.data.toList.drop (fromI s k)=(s.extract (fromI s k) k).data.toList++10::s.data.toList.drop (k+1):=by
       rw[zb1,←hb10,←hb]
       conv=>lhs;rw[←List.take_append_drop (k-fromI s k) (s.data.toList.drop (fromI s k))]
       rw[List.drop_drop,show fromI s k+(k-fromI s k)=k by omega]
     rw[hsp,zdo]
     . rfl
     . intro x hx;rw[zb1] at hx;obtain⟨i,hi,e⟩:=List.getElem_of_mem hx;have hi':i<k-fromI s k:=by
         have:=hi;rw[List.length_take] at this;omega
       have hj:s.data.toList[fromI s k+i]?=some x:=by
         rw[←List.getElem?_drop,←List.getElem?_take_of_lt hi',List.getElem?_eq_getElem hi,e]
       have:=zem s _ _ hj;intro h10;exact ih2 (fromI s k+i) (by omega) (by omega) (by rw[this,h10];rfl)
   . rw[if_neg h,if_neg h];exact⟨ih1,fun j h1 h2=>by rcases Nat.lt_succ_iff_lt_or_eq.1 h2 with h' | rfl;exact ih2 j h1 h';exact h⟩
theorem no_ten (s:ByteArray) (a b:Nat) (hab:a<=b) (hb:b<=s.size) (h:∀ j,a<=j->j<b->bt s j≠10):∀ x∈(s.extract a b).data.toList,x≠10:=by
 intro x hx;rw[zb1] at hx;obtain⟨i,hi,e⟩:=List.getElem_of_mem hx;have hi':i<b-a:=by
   have:=hi;rw[List.length_take] at this;omega
 have hj:s.data.toList[a+i]?=some x:=by
   rw[←List.getElem?_drop,←List.getElem?_take_of_lt hi',List.getElem?_eq_getElem hi,e]
 have:=zem s _ _ hj;intro h10;exact h (a+i) (by omega) (by omega) (by rw[this,h10];rfl)
theorem zgd (s:ByteArray):(linesB s).map (fun x=>x.data.toList)=linesL s.data.toList:=by
 obtain⟨h1,h2⟩:=zhb s s.size (Nat.le_refl _);unfold linesB;rw[List.map_append,←h1]
 congr 1
 have hf:=zek s s.size;have hx:s.data.toList.drop (fromI s s.size)=(s.extract (fromI s s.size) s.size).data.toList:=by
   rw[zb1,List.take_of_length_le (by simp)]
 rw[hx,zfa _ (no_ten s _ _ hf (Nat.le_refl _) h2)];rfl
theorem zcb:∀ {a b:List ByteArray},a.map (fun x=>x.data.toList)=b.map (fun x=>x.data.toList)->a=b
 | [],[],_=>rfl
 | [],_::_,h=>by simp at h
 | _::_,[],h=>by simp at h
 | x::a,y::b,h=>by
   simp only[List.map_cons,List.cons.injEq] at h;rw[zd7 h.1,zcb h.2]
def nlT:ByteArray:=⟨#[10]⟩
theorem zgr (s:ByteArray):Lib.splitB nlT 0 (Lib.countB s nlT) s=linesB s:=by
 refine zcb ?_;rw[Lib.splitB_data,zgd];exact zcv s.data.toList
def parseL:List ByteArray->Nat->List Ru->Except (Int×Nat) (List Ru)
 | [],_,acc => .ok acc
 | l::r,k,acc =>
   if l.size=0∨bt l 0=35 then parseL r (k+1) acc
   else match ruleT l with
     | none => .error (2,k)
     | some x=>if acc.any (fun y=>decide (y.name=x.name))=true then .error (8,k) else if acc.length=8 then .error (4,k) else parseL r (k+1) (acc++[x])
def parseR (s:ByteArray):Except (Int×Nat) (List Ru):=if 4000<s.size then .error (4,0) else parseL (linesB s) 0 []
theorem zcf:∀ (ls:List ByteArray) (k:Nat) (acc l:List Ru),acc.length<=8->parseL ls k acc = .ok l->l.length<=8
 | [],k,acc,l,ha,h=>by
   rw[parseL] at h;cases h;exact ha
 | x::r,k,acc,l,ha,h=>by
   rw[parseL] at h;split at h
   . exact zcf r _ _ _ ha h
   . split at h
     . cases h
     . split at h
       . cases h
       . split at h
         . cases h
         . exact zcf r _ _ _ (by simp;omega) h
theorem zcx {s:ByteArray} {l:List Ru} (h:parseR s = .ok l):l.length<=8:=by
 unfold parseR at h;split at h
 . cases h
 . exact zcf _ _ _ _ (by simp) h
def lineT (x:Ru):List UInt8:=x.name.data.toList++32::(x.pat.data.toList++32::(if x.luhn then luhnT else plainT).data.toList)
def showL:List Ru->List UInt8
 | []=>[]
 | x::l=>lineT x++10::showL l
section
open Go Go.RowKit
theorem za0 {w:World} {g:Nat} {o:Obj} (h:w.heap[g]?=some o):g<w.heap.size:=by
 rcases Nat.lt_or_ge g w.heap.size with hlt|hge
 . exact hlt
 . rw[Array.getElem?_eq_none hge] at h;cases h
theorem zc3 {w w':World} {B e size n:Nat} {v:Value} {xs:List Value} (h:w.ownsRow B e size v n xs) (hb:Below w.heap.size w w'):w'.ownsRow B e size v n xs:=by
 refine⟨h.1,?_⟩;rcases h.2 with h0|⟨g,cap,cur,hv,hB,hh,r⟩
 . exact Or.inl h0
 . exact Or.inr ⟨g,cap,cur,hv,hB,(hb.block g (za0 hh)).trans hh,r⟩
theorem zk1 {w:World} {B B' e size n:Nat} {v:Value} {xs:List Value} (h:w.ownsRow B e size v n xs) (hB:B'<=B):w.ownsRow B' e size v n xs:=by
 refine⟨h.1,?_⟩;rcases h.2 with h0|⟨g,cap,cur,hv,hg,r⟩
 . exact Or.inl h0
 . exact Or.inr ⟨g,cap,cur,hv,by omega,r⟩
theorem gro {w a b:World} (h:Below w.heap.size w a) (hb:Below a.heap.size a b):Below w.heap.size w b:=h.trans (hb.mono h.size)
theorem gro1 {w a b:World} {o:Obj} (h:Below w.heap.size w a) (hb:Below (a.alloc o).heap.size (a.alloc o) b):Below w.heap.size w b:=gro (h.alloc h.size o) hb
theorem zar {w w1:World} (h:Below w.drew.heap.size w.drew w1):Below w.heap.size w w1:=⟨h.os,h.tape,h.output,h.size,h.block⟩
theorem za2 {w w1:World} {a:Addr} {v:Value} (h:w.cell? a=some v) (hb:Below w.heap.size w w1):w1.cell? a=some v:=(hb.cell (World.block_lt_of_cell? w a h)).trans h
def RdB (w:World) (B:Nat) (A:Option Addr) (xs:List Int):Prop:=
 ∀ k,k<xs.length->∃ b off,A=some ⟨b,off,none⟩∧b<B∧w.cell? ⟨b,off+k,none⟩=some (.int .u8 (xs.getD k 0))
section
variable {w w':World} {B B':Nat} {A:Option Addr} {xs:List Int}
theorem RdB.below (h:RdB w B A xs) (hb:Below B w w'):RdB w' B A xs:=fun k hk=>by
 obtain⟨b,off,e,hB,hc⟩:=h k hk;exact⟨b,off,e,hB,(hb.cell (p:=⟨b,off+k,none⟩) hB).trans hc⟩
theorem RdB.more (h:RdB w B A xs) (hB:B<=B'):RdB w B' A xs:=fun k hk=>by
 obtain⟨b,off,e,hb,hc⟩:=h k hk;exact⟨b,off,e,by omega,hc⟩
theorem RdB.at (h:RdB w B A xs) {k:Nat} (hk:k<xs.length):∃ b off,A=some ⟨b,off,none⟩∧b<B∧∀ j,j<xs.length->w.cell? ⟨b,off+j,none⟩=some (.int .u8 (xs.getD j 0)):=by
 obtain⟨b,off,e,hB,_⟩:=h k hk;refine⟨b,off,e,hB,fun j hj=>?_⟩;obtain⟨b',off',e',_,hc⟩:=h j hj;rw[e] at e';injection e' with e'
 injection e' with e1 e2
 subst e1 e2;exact hc
end
end
def bitsN (q:Nat->Bool):Nat->Nat
 | 0=>0
 | n+1=>(q 0).toNat+2*bitsN (fun j=>q (j+1)) n
theorem zen:∀ (n:Nat) (q:Nat->Bool),bitsN q n<2 ^ n
 | 0,_=>by simp[bitsN]
 | n+1,q=>by
   have h:=zen n (fun j=>q (j+1));have:(q 0).toNat<=1:=by cases q 0 <;> simp
   rw[bitsN,Nat.pow_succ];omega
theorem zba:∀ (n:Nat) (q:Nat->Bool) (j:Nat),(bitsN q n).testBit j=(decide (j<n)&&q j)
 | 0,q,j=>by simp[bitsN]
 | n+1,q,0=>by
   rw[bitsN,Nat.testBit_zero];cases q 0 <;> simp <;> omega
 | n+1,q,j+1=>by
   have h:=zba n (fun j=>q (j+1)) j;rw[bitsN,Nat.testBit_add_one,show ((q 0).toNat+2*bitsN (fun j=>q (j+1)) n) / 2=bitsN (fun j=>q (j+1)) n by cases q 0 <;> simp <;> omega,h];simp
theorem zd8 (n:Nat) (q r:Nat->Bool) (h:∀ j,j<n->q j=r j):bitsN q n=bitsN r n:=by
 apply Nat.eq_of_testBit_eq;intro j;rw[zba,zba]
 by_cases hj:j<n
 . simp[hj,h j hj]
 . simp[hj]
def wordN (p:Nat->Bool) (i:Nat):Nat:=bitsN (fun j=>p (64*i+j)) 64
def word (p:Nat->Bool) (i:Nat):Int:=(wordN p i:Int)
theorem zah (p:Nat->Bool) (i:Nat):wordN p i<18446744073709551616:=zen 64 _
theorem zct (p:Nat->Bool) (i:Nat):0<=word p i:=by unfold word;omega
theorem zjd (p:Nat->Bool) (i:Nat):word p i<=18446744073709551615:=by have:=zah p i;unfold word;omega
theorem za4 (p:Nat->Bool) (i j:Nat):(wordN p i).testBit j=(decide (j<64)&&p (64*i+j)):=zba 64 _ j
theorem zay (p q:Nat->Bool) (i:Nat) (h:∀ j,j<64->p (64*i+j)=q (64*i+j)):wordN p i=wordN q i:=zd8 64 _ _ h
theorem zal {p q:Nat->Bool} (h:∀ x,x<256->p x=q x) {i:Nat} (hi:i<4):word p i=word q i:=by
 unfold word;rw[zay p q i fun j hj=>h _ (by omega)]
def add1 (p:Nat->Bool) (b:Nat):Nat->Bool:=fun x=>p x||x==b
def orP (p q:Nat->Bool):Nat->Bool:=fun x=>p x||q x
def notP (p:Nat->Bool):Nat->Bool:=fun x => !p x
def noneP:Nat->Bool:=fun _=>false
def rangeP (lo hi:Int):Nat->Bool:=fun x=>decide (lo<=x)&&decide ((x:Int)<=hi)
def memP (l:List Int):Nat->Bool:=fun x=>l.any fun y=>y==(x:Int)
theorem za6 (i:Nat):word noneP i=0:=by
 have:wordN noneP i=0:=by
   apply Nat.eq_of_testBit_eq;intro j;rw[za4];simp[noneP]
 simp[word,this]
theorem zcr {n:Int} (h0:0<=n) (h1:n<=18446744073709551615):IntKind.u64.wrap n=n:=by
 simp[IntKind.wrap,IntKind.bits,IntKind.signed];omega
theorem zm7 (b:Int) (h0:0<=b):((2:Int) ^ (b % 64).toNat)=((2 ^ (b % 64).toNat:Nat):Int)∧2 ^ (b % 64).toNat<18446744073709551616:=by
 refine⟨by simp,?_⟩;have:(b % 64).toNat<=63:=by omega
 have h:=Nat.pow_le_pow_right (n:=2) (by omega) this;have e:(2:Nat) ^ 63=9223372036854775808:=(by decide);omega
theorem zei (p:Nat->Bool) (b:Int) (h0:0<=b) (h1:b<=255):
   (bits .and .u64 (word p (b / 64).toNat / 2 ^ (b % 64).toNat) 1==1)=p b.toNat:=by
 have e:=(zm7 b h0).1;have lt:wordN p (b / 64).toNat / 2 ^ (b % 64).toNat<18446744073709551616:=Nat.lt_of_le_of_lt (Nat.div_le_self _ _) (zah _ _);unfold word;rw[e,←Int.natCast_ediv,show (1:Int)=((1:Nat):Int) from rfl,bits_and_u64_nat _ _ lt (by omega)];have t:=za4 p (b / 64).toNat (b % 64).toNat;rw[Nat.testBit_eq_decide_div_mod_eq] at t;have hm:(b % 64).toNat<64:=(by omega);have hx:64*(b / 64).toNat+(b % 64).toNat=b.toNat:=(by omega);rw[hx] at t;simp only[hm,decide_true,Bool.true_and] at t;rw[←t,Nat.and_one_is_mod];generalize wordN p (b / 64).toNat / 2 ^ (b % 64).toNat=m;rw[Bool.eq_iff_iff,beq_iff_eq,decide_eq_true_iff];omega
theorem zdy (p:Nat->Bool) (b:Nat) (i:Nat) (hi:i≠b / 64):word (add1 p b) i=word p i:=by
 unfold word;rw[zay (add1 p b) p i fun j hj=>?_];have:¬ (64*i+j=b):=by omega
 simp[add1,this]
theorem zdz (p:Nat->Bool) (b:Nat):wordN (add1 p b) (b / 64)=wordN p (b / 64) ||| 2 ^ (b % 64):=by
 apply Nat.eq_of_testBit_eq;intro j;rw[Nat.testBit_or,za4,za4,Nat.testBit_two_pow]
 by_cases hj:j<64
 . have:(64*(b / 64)+j==b)=decide (b % 64=j):=by
     rw[Bool.eq_iff_iff];simp;omega
   simp[hj,add1,this]
 . have:¬ (b % 64=j):=by omega
   simp[hj,this]
theorem znh (p:Nat->Bool) (b:Int) (h0:0<=b) (h1:b<=255):
   bits .or .u64 (word p (b / 64).toNat) (IntKind.u64.wrap (2 ^ (b % 64).toNat))=word (add1 p b.toNat) (b / 64).toNat:=by
 obtain⟨e,lt⟩:=zm7 b h0;unfold word;have wr:IntKind.u64.wrap ((2 ^ (b % 64).toNat:Nat):Int)=((2 ^ (b % 64).toNat:Nat):Int):=by
   generalize 2 ^ (b % 64).toNat=m at lt ⊢;exact zcr (by omega) (by omega)
 rw[e,wr,bits_or_u64_nat _ _ (zah _ _) lt];have hd:(b / 64).toNat=b.toNat / 64:=(by omega);have hm:(b % 64).toNat=b.toNat % 64:=(by omega);rw[hd,hm,zdz]
theorem zc4 (p q:Nat->Bool) (i:Nat):bits .or .u64 (word p i) (word q i)=word (orP p q) i:=by
 unfold word;have e:wordN p i ||| wordN q i=wordN (orP p q) i:=by
   apply Nat.eq_of_testBit_eq;intro j;rw[Nat.testBit_or,za4,za4,za4];cases decide (j<64) <;> simp[orP]
 rw[bits_or_u64_nat _ _ (zah _ _) (zah _ _),e]
theorem zc6 (p:Nat->Bool) (i:Nat):bits .xor .u64 18446744073709551615 (word p i)=word (notP p) i:=by
 have e:(2 ^ 64-1) ^^^ wordN p i=wordN (notP p) i:=by
   apply Nat.eq_of_testBit_eq;intro j;rw[Nat.testBit_xor,za4,za4,Nat.testBit_two_pow_sub_one];cases decide (j<64) <;> simp[notP]
 have h:=bits_xor_u64_nat (2 ^ 64-1) (wordN p i) (by decide) (zah _ _);rw[e] at h;exact h
section
open Go Go.RowKit
def setV (p:Nat->Bool):Value := .agg #[.int .u64 (word p 0),.int .u64 (word p 1),.int .u64 (word p 2),.int .u64 (word p 3)]
theorem zhz {p q:Nat->Bool} (h:∀ x,x<256->p x=q x):setV p=setV q:=by
 unfold setV;rw[zal h (i:=0) (by omega),zal h (i:=1) (by omega),zal h (i:=2) (by omega),zal h (i:=3) (by omega)]
def Box4 (w:World) (g:Nat) (p:Nat->Bool):Prop:=w.heap[g]?=some (.cells #[.int .u64 (word p 0),.int .u64 (word p 1),.int .u64 (word p 2),.int .u64 (word p 3)] 38 (0,0))
section
variable {w w':World} {g B:Nat} {p q:Nat->Bool}
theorem Box4.cell (h:Box4 w g p):
   w.cell? ⟨g,0,none⟩=some (.int .u64 (word p 0))∧w.cell? ⟨g,1,none⟩=some (.int .u64 (word p 1))∧w.cell? ⟨g,2,none⟩=some (.int .u64 (word p 2))∧w.cell? ⟨g,3,none⟩=some (.int .u64 (word p 3)):=by
 unfold Box4 at h;refine⟨?_,?_,?_,?_⟩ <;> exact cell_of_row w g _ _ 38 (0,0) h
theorem Box4.frozen (h:Box4 w g p):
   w.frozen? ⟨g,0,none⟩=false∧w.frozen? ⟨g,1,none⟩=false∧w.frozen? ⟨g,2,none⟩=false∧w.frozen? ⟨g,3,none⟩=false:=by
 unfold Box4 at h;refine⟨?_,?_,?_,?_⟩ <;> simp[World.frozen?,h]
theorem Box4.below (h:Box4 w g p) (hb:Below B w w') (hg:g<B):Box4 w' g p:=(hb.block g hg).trans h
theorem Box4.lt (h:Box4 w g p):g<w.heap.size:=za0 h
theorem Box4.stays (h:Box4 w g p) (hb:Below w.heap.size w w'):Box4 w' g p:=h.below hb h.lt
theorem Box4.alloc (h:Box4 w g p) (o:Obj):Box4 (w.alloc o) g p:=(Below.heap_alloc w o g h.lt).trans h
theorem Box4.grown {row:Option Nat} (h:Box4 w g p) (hb:w.grownBy w' row) (hg:some g≠row):Box4 w' g p:=(hb.block g h.lt hg).trans h
theorem Box4.far (h:Box4 w g p) {a:Addr} (ha:g≠a.block) (u:Value):Box4 (w.setCell a u) g p:=(Below.heap_setCell w a u g ha).trans h
theorem Box4.new (w:World) (p:Nat->Bool):Box4 (w.alloc (.cells #[.int .u64 (word p 0),.int .u64 (word p 1),.int .u64 (word p 2),.int .u64 (word p 3)] 38)) w.heap.size p:=heap_alloc_new w _
theorem Box4.new0 (w:World):Box4 (w.alloc (.cells #[.int .u64 0,.int .u64 0,.int .u64 0,.int .u64 0] 38)) w.heap.size noneP:=by
 have h:=Box4.new w noneP
 simpa only [za6] using h
theorem Box4.congr (h:Box4 w g p) (hq:∀ x,x<256->p x=q x):Box4 w g q:=by
 unfold Box4 at h ⊢
 rwa [←zal hq (i:=0) (by omega),←zal hq (i:=1) (by omega),←zal hq (i:=2) (by omega),←zal hq (i:=3) (by omega)]
def put4 (w:World) (g:Nat) (q:Nat->Bool):World:=
 (((w.setCell ⟨g,0,none⟩ (.int .u64 (word q 0))).setCell ⟨g,1,none⟩ (.int .u64 (word q 1))).setCell ⟨g,2,none⟩ (.int .u64 (word q 2))).setCell ⟨g,3,none⟩ (.int .u64 (word q 3))
theorem Box4.put (h:Box4 w g p) (q:Nat->Bool):Box4 (put4 w g q) g q:=by
 unfold Box4 put4 at *;simp[World.setCell,Array.getElem?_modify,h]
theorem Box4.putFar {g':Nat} (h:Box4 w g p) (hg:g≠g') (q:Nat->Bool):Box4 (put4 w g' q) g p:=
 (((h.far (a:=⟨g',0,none⟩) hg _).far (a:=⟨g',1,none⟩) hg _).far (a:=⟨g',2,none⟩) hg _).far (a:=⟨g',3,none⟩) hg _
theorem zbb {a:World} (h:Below B a w) (hg:B<=g) (q:Nat->Bool):Below B a (put4 w g q):=
 (((h.setCell (p:=⟨g,0,none⟩) hg _).setCell (p:=⟨g,1,none⟩) hg _).setCell (p:=⟨g,2,none⟩) hg _).setCell (p:=⟨g,3,none⟩) hg _
end
end
section
open Go Go.RowKit
def cntN (q:Nat->Bool):Nat->Nat
 | 0=>0
 | n+1=>(q 0).toNat+cntN (fun j=>q (j+1)) n
def msk (c:Nat):Nat->Nat
 | 0=>0
 | n+1=>c+256*msk c n
def sumA (n x:Nat):Nat:=(x / 2 &&& msk 85 n)+(x &&& msk 85 n)
def sumB (n x:Nat):Nat:=(x / 4 &&& msk 51 n)+(x &&& msk 51 n)
def sumC (n x:Nat):Nat:=(x / 16+x) &&& msk 15 n
def a8 (b:Nat):Nat:=(b / 2 &&& 85)+(b &&& 85)
def b8 (b:Nat):Nat:=(b / 4 &&& 51)+(b &&& 51)
def c8 (b:Nat):Nat:=(b / 16+b) &&& 15
def st1 (a:Int):Int:=IntKind.u64.wrap (bits .and .u64 (a / 2) 6148914691236517205+bits .and .u64 a 6148914691236517205)
def st2 (a:Int):Int:=IntKind.u64.wrap (bits .and .u64 (a / 4) 3689348814741910323+bits .and .u64 a 3689348814741910323)
def st3 (a:Int):Int:=bits .and .u64 (IntKind.u64.wrap (a / 16+a)) 1085102592571150095
def st4 (a:Int):Int:=IntKind.u64.wrap (a+a / 256)
def st5 (a:Int):Int:=IntKind.u64.wrap (a+a / 65536)
def st6 (a:Int):Int:=IntKind.u64.wrap (a+a / 4294967296)
def st7 (a:Int):Int:=bits .and .i64 (wrap64 a) 127
end
section
open Go Go.RowKit
theorem zgo (p:Nat->Bool) (b:Int) (h0:0<=b) (h1:b<=255):
   [Value.int .u64 (word p 0),.int .u64 (word p 1),.int .u64 (word p 2),.int .u64 (word p 3)][(b / 64).toNat]?=some (.int .u64 (word p (b / 64).toNat)):=by
 have:(b / 64).toNat<4:=by omega
 match h:(b / 64).toNat,this with
 | 0,_=>rfl
 | 1,_=>rfl
 | 2,_=>rfl
 | 3,_=>rfl
def listP (p:Nat->Bool) (k:Nat):List Int:=((List.range k).filter p).map fun x:Nat=>(x:Int)
def allP (p:Nat->Bool):List Int:=listP p 256
end
section
open Go Go.RowKit
structure St where
 pos:Nat
 opn:Int
 bad:Int
 spot:Int
namespace St
def fail (st:St) (at_ bad:Int):St:=if st.bad=0 then {st with bad:=bad,spot:=at_} else st
def peek (s:ByteArray) (st:St):Int:=if st.bad≠0∨s.size<=st.pos then -1 else (bt s st.pos:Int)
def step (st:St) (k:Nat):St:={st with pos:=st.pos+k}
def next (s:ByteArray) (st:St):Int×St:=if st.peek s<0 then (-1,st.fail s.size 2) else (st.peek s,st.step 1)
end St
def Rdr (w:World) (g:Nat) (s:ByteArray) (st:St):Prop:=
 w.heap[g]?=some (.cells #[.string s,.int .i64 (st.pos:Int),.int .i64 st.opn,.int .i64 st.bad,.int .i64 st.spot] 103 (0,0))
section
variable {w w':World} {g:Nat} {s:ByteArray} {st:St}
end
section
variable {w w':World} {g:Nat} {s:ByteArray} {st:St}
end
theorem za9 (w:World) (r:Option Nat):w.grownBy w r:=⟨rfl,rfl,rfl,Nat.le_refl _,fun _ _ _=>rfl⟩
theorem za3 {a b c:World} {r:Option Nat} (h:a.grownBy b r) (k:b.grownBy c r):a.grownBy c r:=
 ⟨k.os.trans h.os,k.tape.trans h.tape,k.output.trans h.output,Nat.le_trans h.size k.size,fun i hi hr=>(k.block i (Nat.lt_of_lt_of_le hi h.size) hr).trans (h.block i hi hr)⟩
theorem zaj {a b:World} {g i:Nat} (h:a.grownBy b (some g)) (v:Value):a.grownBy (b.setCell ⟨g,i,none⟩ v) (some g):=
 za3 h ⟨rfl,rfl,rfl,by simp[World.setCell],fun k _ hk=>Below.heap_setCell _ _ _ _ (by intro e;subst e;exact hk rfl)⟩
theorem zf8 {a b:World} {r:Option Nat} (h:a.grownBy b r):a.grownBy b.drew r:=⟨h.os,h.tape,h.output,h.size,h.block⟩
theorem za5 {a b:World} {r:Option Nat} (h:a.grownBy b r) (n:Nat):a.grownBy (b.drewN n) r:=⟨h.os,h.tape,h.output,h.size,h.block⟩
theorem zam {a b:World} {r:Option Nat} (h:a.grownBy b r) (o:Obj):a.grownBy (b.alloc o) r:=
 za3 h ⟨rfl,rfl,rfl,by simp,fun k hk _=>Below.heap_alloc _ _ _ hk⟩
theorem zdj {a b c:World} {r:Option Nat} (h:a.grownBy b r) (k:Below b.heap.size b c):a.grownBy c r:=
 za3 h ⟨k.os,k.tape,k.output,k.size,fun i hi _=>k.block i hi⟩
theorem za7 {a b:World} {g g' i:Nat} (h:a.grownBy b (some g)) (hg:a.heap.size<=g') (v:Value):a.grownBy (b.setCell ⟨g',i,none⟩ v) (some g):=
 ⟨h.os,h.tape,h.output,by simpa [World.setCell] using h.size,fun k hk hr=>(Below.heap_setCell _ _ _ _ (by show k≠g';omega)).trans (h.block k hk hr)⟩
theorem zf7 {a b:World} {g g':Nat} (h:a.grownBy b (some g)) (hg:a.heap.size<=g') (q:Nat->Bool):a.grownBy (put4 b g' q) (some g):=
 za7 (za7 (za7 (za7 h hg _) hg _) hg _) hg _
end
section
open Go Go.RowKit
attribute [local go_sem ↓] Go.wp_at_zero Go.wp_at_succ
end
section
open Go Go.RowKit
section
variable {P:Program} (w:World)
end
end
section
open Go Go.RowKit
attribute [local go_sem ↓] Go.wp_at_zero Go.wp_at_succ
def fromL (lo k:Int):List Int:=(List.range (k-lo).toNat).map fun j:Nat=>lo+(j:Int)
end
section
open Go Go.RowKit
attribute [local go_sem ↓] Go.wp_at_zero Go.wp_at_succ
end
section
open Go Go.RowKit Go.Extern.Stop Go.Stop Go.Extern
def ErrT (w:World):Prop:=w.cell? ⟨0,0,none⟩=some (.iface 148 (.agg #[.pointer (some ⟨6,28,none⟩)]))
theorem ErrT.stays {w w':World} (h:ErrT w) (hb:Below w.heap.size w w'):ErrT w':=za2 h hb
theorem zgg (t:Addr) (w:World):(ReflectliteValue.unpack (.iface 96 (.pointer (some t)))).run Tryz.prog w
   = .ok (.agg #[.pointer (some ⟨6,96,none⟩),.pointer (some ⟨w.heap.size,0,none⟩),.int .u64 150]) (w.alloc (.cells #[.pointer (some t)] 96)):=by kernel_rfl
theorem zlp (a : Addr) (w : World) : (ReflectliteValue.methodAny (ReflectliteValue.valueError "reflectlite.Value.Type" 0) (fun t _ _ _ => ReflectliteType.toType t) #[.agg #[.pointer (some ⟨6, 96, none⟩), .pointer (some a), .int .u64 150]]).run Tryz.prog w
   = .ok (.iface 148 (.agg #[.pointer (some ⟨6,96,none⟩)])) w:=by kernel_rfl
theorem zlq (h : Value) (w : World) : (Go.method 318 148 (.agg #[h]) "Kind").run Tryz.prog w = .ok (160, h) w := by kernel_rfl
theorem zls (w:World):((ReflectliteType.abiMethod fun t=>(fun a:Nat=>Value.int IntKind.u8 (a:Int)) <$> Rtype.kind t) #[.pointer (some ⟨6,96,none⟩)]).run Tryz.prog w = .ok (.int .u8 22) w:=by kernel_rfl
theorem zlt (w:World):((ReflectliteType.abiMethod fun t=>(fun a:Nat=>Value.int IntKind.u8 (a:Int)) <$> Rtype.kind t) #[.pointer (some ⟨6,71,none⟩)]).run Tryz.prog w = .ok (.int .u8 2) w:=by kernel_rfl
theorem zfe (a:Addr) (w:World):(ReflectliteValue.parts (.agg #[.pointer (some ⟨6,96,none⟩),.pointer (some a),.int .u64 150])).run Tryz.prog w = .ok (some (96,a,150)) w:=by kernel_rfl
theorem zkh (a p:Addr) (W:World) (ha:W.cell? a=some (.pointer (some p))):
   (ReflectliteValue.method (ReflectliteValue.valueError "reflectlite.Value.IsNil" 0) ReflectliteValue.isNil #[.agg #[.pointer (some ⟨6, 96, none⟩), .pointer (some a), .int .u64 150]]).run Tryz.prog W = .ok (.bool false) W := by
 change Sem.run _ (ReflectliteValue.parts (.agg #[.pointer (some ⟨6,96,none⟩),.pointer (some a),.int .u64 150]) >>= _) _=_;simp only[Sem.run_bind,zfe,Result.andThen];simp[ReflectliteValue.isNil,loadVar,isAgg,underlying,Tryz.underlying96,ha,Result.andThen]
theorem zlr (h : Value) (w : World) : (Go.method 318 148 (.agg #[h]) "Elem").run Tryz.prog w = .ok (172, .agg #[h]) w := by kernel_rfl
theorem zdc (h : Value) (w : World) : (Go.method 318 148 (.agg #[h]) "Implements").run Tryz.prog w = .ok (173, .agg #[h]) w := by kernel_rfl
theorem zbg (h : Value) (w : World) : (Go.method 318 148 (.agg #[h]) "AssignableTo").run Tryz.prog w = .ok (170, .agg #[h]) w := by kernel_rfl
theorem zlu (w:World):(ReflectliteType.method ReflectliteType.elem #[.agg #[.pointer (some ⟨6,96,none⟩)]]).run Tryz.prog w = .ok (.iface 148 (.agg #[.pointer (some ⟨6,71,none⟩)])) w:=by kernel_rfl
theorem zdd (w : World) : (ReflectliteType.relation "Implements" ReflectliteType.implements_ #[.agg #[.pointer (some ⟨6, 71, none⟩)], .iface 148 (.agg #[.pointer (some ⟨6, 28, none⟩)])]).run Tryz.prog w = .ok (.bool true) w := by kernel_rfl
theorem zdt (v:Value) (w:World):(ReflectliteType.typeOf #[.iface 71 v]).run Tryz.prog w = .ok (.iface 148 (.agg #[.pointer (some ⟨6,71,none⟩)])) w:=by kernel_rfl
theorem zds (v:Value) (w:World):(ReflectliteType.typeOf #[.iface 69 v]).run Tryz.prog w = .ok (.iface 148 (.agg #[.pointer (some ⟨6,69,none⟩)])) w:=by kernel_rfl
theorem zdv (w : World) : (ReflectliteType.relation "AssignableTo" ReflectliteType.assignableTo #[.agg #[.pointer (some ⟨6, 71, none⟩)], .iface 148 (.agg #[.pointer (some ⟨6, 71, none⟩)])]).run Tryz.prog w = .ok (.bool true) w := by kernel_rfl
theorem zdu (w : World) : (ReflectliteType.relation "AssignableTo" ReflectliteType.assignableTo #[.agg #[.pointer (some ⟨6, 69, none⟩)], .iface 148 (.agg #[.pointer (some ⟨6, 71, none⟩)])]).run Tryz.prog w = .ok (.bool false) w := by kernel_rfl
theorem zd4 (c:Int) (w:World):(ReflectliteValue.unpack (.iface 71 (.int .i64 c))).run Tryz.prog w
   = .ok (.agg #[.pointer (some ⟨6,71,none⟩),.pointer (some ⟨w.heap.size,0,none⟩),.int .u64 130]) (w.alloc (.cells #[.int .i64 c] 71)):=by kernel_rfl
theorem zin (w:World):(Rtype.elem? 96).run Tryz.prog w = .ok (some 71) w:=by kernel_rfl
theorem ea_mkC (p:Addr) (w:World):(ReflectliteValue.mk 71 p ReflectliteValue.flagAddr).run Tryz.prog w = .ok (.agg #[.pointer (some ⟨6,71,none⟩),.pointer (some p),.int .u64 386]) w:=by kernel_rfl
theorem zha (a p:Addr) (W:World) (ha:W.cell? a=some (.pointer (some p))):
   (ReflectliteValue.method (ReflectliteValue.valueError "reflectlite.Value.Elem" 0) ReflectliteValue.elem #[.agg #[.pointer (some ⟨6, 96, none⟩), .pointer (some a), .int .u64 150]]).run Tryz.prog W
     = .ok (.agg #[.pointer (some ⟨6,71,none⟩),.pointer (some p),.int .u64 386]) W:=by
 change Sem.run _ (ReflectliteValue.parts (.agg #[.pointer (some ⟨6,96,none⟩),.pointer (some a),.int .u64 150]) >>= _) _=_;simp only[Sem.run_bind,zfe,Result.andThen];simp[ReflectliteValue.elem,loadVar,isAgg,underlying,Tryz.underlying96,ha,Result.andThen,zin,ea_mkC]
theorem zil (a:Addr) (w:World):(ReflectliteValue.parts (.agg #[.pointer (some ⟨6,71,none⟩),.pointer (some a),.int .u64 386])).run Tryz.prog w = .ok (some (71,a,386)) w:=by kernel_rfl
theorem zkg (a:Addr) (w:World):(ReflectliteValue.parts (.agg #[.pointer (some ⟨6,71,none⟩),.pointer (some a),.int .u64 130])).run Tryz.prog w = .ok (some (71,a,130)) w:=by kernel_rfl
theorem zki (w:World):(Rtype.directlyAssignable 71 71).run Tryz.prog w = .ok true w:=by kernel_rfl
theorem zma (ta b:Addr) (c:Int) (old:Value) (W:World) (hb:W.cell? b=some (.int .i64 c)) (ht:W.cell? ta=some old) (hf:W.frozen? ta=false):
   (ReflectliteValue.set #[.agg #[.pointer (some ⟨6,71,none⟩),.pointer (some ta),.int .u64 386],.agg #[.pointer (some ⟨6,71,none⟩),.pointer (some b),.int .u64 130]]).run Tryz.prog W
     = .ok (.tuple #[]) (W.setCell ta (.int .i64 c)):=by
 change Sem.run _ (ReflectliteValue.parts (.agg #[.pointer (some ⟨6,71,none⟩),.pointer (some ta),.int .u64 386]) >>= fun r=>ReflectliteValue.parts (.agg #[.pointer (some ⟨6,71,none⟩),.pointer (some b),.int .u64 130]) >>= _) _=_;simp only[Sem.run_bind,zil,zkg,Result.andThen];simp[ReflectliteValue.flagAddr,loadVar,isAgg,underlying,Tryz.underlying71,hb,Result.andThen,zki,storeVar,Value.cells,storeCells,Addr.add];rw[run_store Tryz.prog W ta _ _ (by rfl)];simp[ht,hf]
end
section
open Go Go.RowKit Go.Extern.Stop Go.Stop Go.Extern
theorem zkf (gs:Nat) (a c:Int) (w:World) (h:w.heap[gs]?=some (.cells #[.int .i64 a,.int .i64 c] 73 (0,0))):
   Calls Tryz.prog 164 #[.pointer (some ⟨gs,0,none⟩)] w fun e w'=>e = .returned (.iface 71 (.int .i64 c))∧w=w':=by
 have c1:w.cell? ⟨gs,1,none⟩=some (.int .i64 c):=cell_of_row w gs _ _ 73 (0,0) h;go_enter Tryz.func164,Tryz.ntmps164;go_wp2;go_ret;exact⟨rfl,rfl⟩
theorem zlw (p:Value) (w:World):(Instr.typeAssert (.iface 69 p) 28 153 true).run Tryz.prog w = .ok (.tuple #[.nilIface,.bool false]) w:=run_typeAssert_lacksB Tryz.underlying153 (by kernel_rfl) (by kernel_rfl) p _ w
theorem zlv (p:Value) (w:World):(Instr.typeAssert (.iface 69 p) 28 156 true).run Tryz.prog w = .ok (.tuple #[.iface 69 p,.bool true]) w:=run_typeAssert_hasB Tryz.underlying156 (by kernel_rfl) p _ w
theorem zim (p : Addr) (w : World) : (Go.method 318 69 (.pointer (some p)) "Unwrap").run Tryz.prog w = .ok (164, .pointer (some p)) w := by kernel_rfl
def asW (w:World) (a:Nat) (t:Nat) (c:Int):World:=((w.setCell ⟨t,0,none⟩ (.int .i64 c)).alloc (.cells #[.pointer (some ⟨6,96,none⟩),.pointer (some ⟨a,0,none⟩),.int .u64 150] 126)).alloc (.cells #[.int .i64 c] 71)
set_option maxHeartbeats 4000000 in
theorem zip (c:Int) (a t:Nat) (old:Value) (w:World) (ha:w.cell? ⟨a,0,none⟩=some (.pointer (some ⟨t,0,none⟩))) (ht:w.cell? ⟨t,0,none⟩=some old) (hf:w.frozen? ⟨t,0,none⟩=false) (hal:a<w.heap.size) (htl:t<w.heap.size):
   Calls Tryz.prog 69 #[.iface 71 (.int .i64 c),.iface 96 (.pointer (some ⟨t,0,none⟩)),.agg #[.pointer (some ⟨6,96,none⟩),.pointer (some ⟨a,0,none⟩),.int .u64 150],.iface 148 (.agg #[.pointer (some ⟨6,71,none⟩)])] w fun e w'=>e = .returned (.bool true)∧w'=asW w a t c:=by
 have h90 := @run_callFunc_extern Tryz.prog 90 _ ReflectliteType.typeOf Tryz.func90 (by kernel_rfl) (by kernel_rfl) (by kernel_rfl) (by kernel_rfl);have h170 := @run_callFunc_extern Tryz.prog 170 _ (ReflectliteType.relation "AssignableTo" ReflectliteType.assignableTo) Tryz.func170 (by kernel_rfl) (by kernel_rfl) (by kernel_rfl) (by kernel_rfl);have h91 := @run_callFunc_extern Tryz.prog 91 _ (ReflectliteValue.method (ReflectliteValue.valueError "reflectlite.Value.Elem" 0) ReflectliteValue.elem) Tryz.func91 (by kernel_rfl) (by kernel_rfl) (by kernel_rfl) (by kernel_rfl);have h66 := @run_callFunc_extern Tryz.prog 66 _ (fun args=>ReflectliteValue.unpack (args.getD 0 (.tuple #[]))) Tryz.func66 (by kernel_rfl) (by kernel_rfl) (by kernel_rfl) (by kernel_rfl);have h92 := @run_callFunc_extern Tryz.prog 92 _ ReflectliteValue.set Tryz.func92 (by kernel_rfl) (by kernel_rfl) (by kernel_rfl) (by kernel_rfl);have tC:=zdt;have tS:=zds;have mA:=zbg;have aC:=zdv;have aS:=zdu;have vC:=zd4;have el:=zha ⟨a,0,none⟩ ⟨t,0,none⟩ (w.alloc (.cells #[.pointer (some ⟨6,96,none⟩),.pointer (some ⟨a,0,none⟩),.int .u64 150] 126)) (by rw [World.cell?_alloc_lt _ _ ⟨a,0,none⟩ hal];exact ha);have st:=zma ⟨t,0,none⟩ ⟨w.heap.size+1,0,none⟩ c old ((w.alloc (.cells #[.pointer (some ⟨6,96,none⟩),.pointer (some ⟨a,0,none⟩),.int .u64 150] 126)).alloc (.cells #[.int .i64 c] 71))
   (by rw[World.cell?_alloc_at _ _ _ _ (by simp)];rfl)
   (by rw[World.cell?_alloc_lt _ _ ⟨t,0,none⟩ (by simp;omega),World.cell?_alloc_lt _ _ ⟨t,0,none⟩ htl];exact ht)
   (by rw[World.frozen?_alloc_old _ _ ⟨t,0,none⟩ (by simp;omega),World.frozen?_alloc_old _ _ ⟨t,0,none⟩ (Nat.ne_of_lt htl)];exact hf)
 unfold asW;go_enter Tryz.func69,Tryz.ntmps69;go_wp2;refine wp_loop_rounds 1 ?_;rw[rounds_succ];go_wp2;go_ret;exact⟨rfl,rfl⟩
set_option maxHeartbeats 4000000 in
theorem zio (gs:Nat) (x c:Int) (a t:Nat) (old:Value) (w:World) (hgs:w.heap[gs]?=some (.cells #[.int .i64 x,.int .i64 c] 73 (0,0))) (ha:w.cell? ⟨a,0,none⟩=some (.pointer (some ⟨t,0,none⟩))) (ht:w.cell? ⟨t,0,none⟩=some old) (hf:w.frozen? ⟨t,0,none⟩=false) (hal:a<w.heap.size) (htl:t<w.heap.size):
   Calls Tryz.prog 69 #[.iface 69 (.pointer (some ⟨gs,0,none⟩)),.iface 96 (.pointer (some ⟨t,0,none⟩)),.agg #[.pointer (some ⟨6,96,none⟩),.pointer (some ⟨a,0,none⟩),.int .u64 150],.iface 148 (.agg #[.pointer (some ⟨6,71,none⟩)])] w fun e w'=>e = .returned (.bool true)∧w'=asW w a t c:=by
 have h90 := @run_callFunc_extern Tryz.prog 90 _ ReflectliteType.typeOf Tryz.func90 (by kernel_rfl) (by kernel_rfl) (by kernel_rfl) (by kernel_rfl);have h170 := @run_callFunc_extern Tryz.prog 170 _ (ReflectliteType.relation "AssignableTo" ReflectliteType.assignableTo) Tryz.func170 (by kernel_rfl) (by kernel_rfl) (by kernel_rfl) (by kernel_rfl);have h91 := @run_callFunc_extern Tryz.prog 91 _ (ReflectliteValue.method (ReflectliteValue.valueError "reflectlite.Value.Elem" 0) ReflectliteValue.elem) Tryz.func91 (by kernel_rfl) (by kernel_rfl) (by kernel_rfl) (by kernel_rfl);have h66 := @run_callFunc_extern Tryz.prog 66 _ (fun args=>ReflectliteValue.unpack (args.getD 0 (.tuple #[]))) Tryz.func66 (by kernel_rfl) (by kernel_rfl) (by kernel_rfl) (by kernel_rfl);have h92 := @run_callFunc_extern Tryz.prog 92 _ ReflectliteValue.set Tryz.func92 (by kernel_rfl) (by kernel_rfl) (by kernel_rfl) (by kernel_rfl);have tC:=zdt;have tS:=zds;have mA:=zbg;have aC:=zdv;have aS:=zdu;have vC:=zd4;have qA:=zlw;have qU:=zlv;have mU:=zim;have el:=zha ⟨a,0,none⟩ ⟨t,0,none⟩ (w.alloc (.cells #[.pointer (some ⟨6,96,none⟩),.pointer (some ⟨a,0,none⟩),.int .u64 150] 126)) (by rw [World.cell?_alloc_lt _ _ ⟨a,0,none⟩ hal];exact ha);have st:=zma ⟨t,0,none⟩ ⟨w.heap.size+1,0,none⟩ c old ((w.alloc (.cells #[.pointer (some ⟨6,96,none⟩),.pointer (some ⟨a,0,none⟩),.int .u64 150] 126)).alloc (.cells #[.int .i64 c] 71))
   (by rw[World.cell?_alloc_at _ _ _ _ (by simp)];rfl)
   (by rw[World.cell?_alloc_lt _ _ ⟨t,0,none⟩ (by simp;omega),World.cell?_alloc_lt _ _ ⟨t,0,none⟩ htl];exact ht)
   (by rw[World.frozen?_alloc_old _ _ ⟨t,0,none⟩ (by simp;omega),World.frozen?_alloc_old _ _ ⟨t,0,none⟩ (Nat.ne_of_lt htl)];exact hf)
 have HG:=Zh ((Below.heap_alloc w (.cells #[.pointer (some ⟨6,96,none⟩),.pointer (some ⟨a,0,none⟩),.int .u64 150] 126) gs (za0 hgs)).trans hgs);unfold asW;go_enter Tryz.func69,Tryz.ntmps69;go_wp2;refine wp_loop_rounds 2 ?_;rw[rounds_succ];go_wp2_with (go_at_call 164;(with_reducible refine (zkf gs x c _ HG.out).mono ?_);rintro e w' ⟨rfl,rfl⟩);rw[rounds_succ];go_wp2;go_ret;exact⟨rfl,rfl⟩
end
section
open Go Go.RowKit
set_option maxHeartbeats 400000 in
theorem with_p (p:Nat->Bool) (b:Int) (w:World) (hb:0<=b) (hb':b<=255):
   Calls Tryz.prog 144 #[.agg #[.int .u64 (word p 0),.int .u64 (word p 1),.int .u64 (word p 2),.int .u64 (word p 3)],.int .u8 b] w fun e w'=>e = .returned (setV (add1 p b.toNat))∧Below w.heap.size w w':=by
 have HO:=Zh (znh p b hb hb');have HW:=Zh (zdy p b.toNat);have hd:(b / 64).toNat=b.toNat / 64:=(by omega);have HD:=Zh hd;clear hd;rcases (show b / 64=0∨b / 64=1∨b / 64=2∨b / 64=3 by omega) with h|h|h|h
 all_goals
   go_enter Tryz.func144,Tryz.ntmps144;go_wp2;have ho:=HO.out;have hw:=HW.out;have hd:=HD.out;rw[h] at ho hd;refine bodyPost_ret (v:=setV (add1 p b.toNat)) ?_ rfl ⟨rfl,((Below.refl _ _).alloc (Nat.le_refl _) _).alloc (by simp) _⟩;unfold setV
 . rw[hw 1 (by omega),hw 2 (by omega),hw 3 (by omega),show word (add1 p b.toNat) 0=_ from ho.symm];simp[results,Tryz.results144,go_sem]
 . rw[hw 0 (by omega),hw 2 (by omega),hw 3 (by omega),show word (add1 p b.toNat) 1=_ from ho.symm];simp[results,Tryz.results144,go_sem]
 . rw[hw 0 (by omega),hw 1 (by omega),hw 3 (by omega),show word (add1 p b.toNat) 2=_ from ho.symm];simp[results,Tryz.results144,go_sem]
 . rw[hw 0 (by omega),hw 1 (by omega),hw 2 (by omega),show word (add1 p b.toNat) 3=_ from ho.symm];simp[results,Tryz.results144,go_sem]
theorem zi3 (lo k:Int) (h:lo<=k) (h0:0<=k) (x:Nat):add1 (rangeP lo (k-1)) k.toNat x=rangeP lo (k+1-1) x:=by
 unfold add1 rangeP;rw[Bool.eq_iff_iff];simp;omega
theorem zi4 (lo:Int) (x:Nat):noneP x=rangeP lo (lo-1) x:=by
 unfold noneP rangeP;rw[Bool.eq_iff_iff];simp;omega
set_option maxHeartbeats 800000 in
theorem zbw (lo hi:Int) (w:World) (hl:0<=lo) (hl':lo<=255) (hh:0<=hi) (hh':hi<=255):
   Calls Tryz.prog 138 #[.int .u8 lo,.int .u8 hi] w fun e w'=>e = .returned (setV (rangeP lo hi))∧Below w.heap.size w w':=by
 go_enter Tryz.func138,Tryz.ntmps138;go_wp2;go_loopw [6] (fun i wr=>∃ k:Int,∃ p0,lo<=k∧(k<=hi+1∨k=lo)∧i = .int .i64 k∧Box4 wr w.heap.size p0∧Box4 wr (w.heap.size+1) (rangeP lo (k-1))∧Below w.heap.size w wr) (fun i _=>(hi+1-intOf i).toNat)
 case atStart =>
   refine⟨lo,noneP,by omega,by omega,rfl,(Box4.new0 w).alloc _,?_,((Below.refl _ _).alloc (Nat.le_refl _) _).alloc (by simp) _⟩;have h:=Box4.new0 (w.alloc (.cells #[.int .u64 0,.int .u64 0,.int .u64 0,.int .u64 0] 38));rw[World.size_alloc] at h;exact h.congr fun x _=>zi4 lo x
 case round =>
   obtain⟨k,p0,hk,hk2,rfl,b0,b1,hnx⟩:=hrel;have hs:=b1.lt;obtain⟨c0,c1,c2,c3⟩:=b1.cell
   by_cases hlt:k<=hi
   . go_wp2_with (go_at_call 144;(with_reducible refine (with_p (rangeP lo (k-1)) k _ (by omega) (by omega)).mono ?_);rintro e w1 ⟨rfl,hb1⟩;unfold setV;obtain⟨d0,d1,d2,d3⟩:=(b1.stays hb1).cell;obtain⟨g0,g1,g2,g3⟩:=(b1.stays hb1).frozen);go_roundw
     case rel =>
       refine⟨k+1,p0,by omega,by omega,rfl,(b0.stays hb1).putFar (g':=w.heap.size+1) (by omega) _,?_,zbb (g:=w.heap.size+1) (hnx.trans (hb1.mono (by omega))) (by omega) _⟩;exact ((b1.stays hb1).put (add1 (rangeP lo (k-1)) k.toNat)).congr fun x _=>zi3 lo k hk (by omega) x
     case measure=>simp[intOf];omega
   . obtain⟨d0,d1,d2,d3⟩:=b0.cell;obtain⟨g0,g1,g2,g3⟩:=b0.frozen;go_wp2;refine bodyPost_ret (v:=setV (rangeP lo (k-1))) ?_ rfl ⟨congrArg Ending.returned (zhz fun x _=>?_),zbb (g:=w.heap.size) hnx (Nat.le_refl _) (rangeP lo (k-1))⟩
     . unfold setV;simp[results,Tryz.results138,go_sem,d0,d1,d2,d3]
     . unfold rangeP;rw[Bool.eq_iff_iff];simp;omega
end
section
open Go Go.RowKit
set_option maxHeartbeats 400000 in
theorem or_p (p q:Nat->Bool) (w:World):
   Calls Tryz.prog 32 #[.agg #[.int .u64 (word p 0),.int .u64 (word p 1),.int .u64 (word p 2),.int .u64 (word p 3)],.agg #[.int .u64 (word q 0),.int .u64 (word q 1),.int .u64 (word q 2),.int .u64 (word q 3)]] w fun e w'=>e = .returned (setV (orP p q))∧Below w.heap.size w w':=by
 generalize ha0:word p 0=a0;generalize ha1:word p 1=a1;generalize ha2:word p 2=a2;generalize ha3:word p 3=a3;generalize hb0:word q 0=b0;generalize hb1:word q 1=b1;generalize hb2:word q 2=b2;generalize hb3:word q 3=b3;have hv:setV (orP p q) = .agg #[.int .u64 (bits .or .u64 a0 b0),.int .u64 (bits .or .u64 a1 b1),.int .u64 (bits .or .u64 a2 b2),.int .u64 (bits .or .u64 a3 b3)]:=by
   unfold setV;rw[←zc4,←zc4,←zc4,←zc4,ha0,ha1,ha2,ha3,hb0,hb1,hb2,hb3]
 rw[hv];clear hv ha0 ha1 ha2 ha3 hb0 hb1 hb2 hb3;have i0:∀ w:World,(Instr.index 38 (.agg #[.int .u64 b0,.int .u64 b1,.int .u64 b2,.int .u64 b3]) (.int .i64 0)).run Tryz.prog w = .ok (.int .u64 b0) w:=fun _=>by kernel_rfl
 have i1:∀ w:World,(Instr.index 38 (.agg #[.int .u64 b0,.int .u64 b1,.int .u64 b2,.int .u64 b3]) (.int .i64 1)).run Tryz.prog w = .ok (.int .u64 b1) w:=fun _=>by kernel_rfl
 have i2:∀ w:World,(Instr.index 38 (.agg #[.int .u64 b0,.int .u64 b1,.int .u64 b2,.int .u64 b3]) (.int .i64 2)).run Tryz.prog w = .ok (.int .u64 b2) w:=fun _=>by kernel_rfl
 have i3:∀ w:World,(Instr.index 38 (.agg #[.int .u64 b0,.int .u64 b1,.int .u64 b2,.int .u64 b3]) (.int .i64 3)).run Tryz.prog w = .ok (.int .u64 b3) w:=fun _=>by kernel_rfl
 go_enter Tryz.func32,Tryz.ntmps32;go_wp2;refine wp_loop_rounds 5 ?_
 iterate 5 (rw[rounds_succ];go_wp2)
 refine bodyPost_ret (v := .agg #[.int .u64 (bits .or .u64 a0 b0),.int .u64 (bits .or .u64 a1 b1),.int .u64 (bits .or .u64 a2 b2),.int .u64 (bits .or .u64 a3 b3)]) ?_ rfl ⟨rfl,?_⟩
 . simp[results,Tryz.results32,go_sem]
 . exact ((((Below.refl _ _).alloc (Nat.le_refl _) _).alloc (by simp) _).alloc (by simp;omega) _)
end
section
open Go Go.RowKit
theorem zn3 (p:Nat->Bool) (b:Nat):(bits .and .u64 (word p (b / 64) / 2 ^ (b % 64)) 1==1)=p b:=by
 have h:=zei p (b % 64+64*0:Nat);have e:((2:Int) ^ (b % 64))=((2 ^ (b % 64):Nat):Int):=(by simp);have lt:wordN p (b / 64) / 2 ^ (b % 64)<18446744073709551616:=Nat.lt_of_le_of_lt (Nat.div_le_self _ _) (zah _ _);unfold word;rw[e,←Int.natCast_ediv,show (1:Int)=((1:Nat):Int) from rfl,bits_and_u64_nat _ _ lt (by omega)];have t:=za4 p (b / 64) (b % 64);rw[Nat.testBit_eq_decide_div_mod_eq] at t;have hm:b % 64<64:=(by omega);have hx:64*(b / 64)+b % 64=b:=(by omega);rw[hx] at t;simp only[hm,decide_true,Bool.true_and] at t;rw[←t,Nat.and_one_is_mod];generalize wordN p (b / 64) / 2 ^ (b % 64)=m;rw[Bool.eq_iff_iff,beq_iff_eq,decide_eq_true_iff];omega
theorem zl8 (k:Nat) (h:k<64):2 ^ k<18446744073709551616:=by
 have h:=Nat.pow_le_pow_right (n:=2) (by omega) (show k<=63 by omega);have e:(2:Nat) ^ 63=9223372036854775808:=(by decide);omega
theorem zng (p:Nat->Bool) (b:Nat):bits .or .u64 (word p (b / 64)) (IntKind.u64.wrap (2 ^ (b % 64)))=word (add1 p b) (b / 64):=by
 have e:((2:Int) ^ (b % 64))=((2 ^ (b % 64):Nat):Int):=(by simp);have lt:=zl8 (b % 64) (by omega);have wr:IntKind.u64.wrap ((2 ^ (b % 64):Nat):Int)=((2 ^ (b % 64):Nat):Int):=by
   generalize 2 ^ (b % 64)=m at lt ⊢;exact zcr (by omega) (by omega)
 unfold word;rw[e,wr,bits_or_u64_nat _ _ (zah _ _) lt,zdz]
def minusP (p q:Nat->Bool):Nat->Bool:=fun x=>p x && !q x
theorem zga (p q:Nat->Bool) (i:Nat):bits .andNot .u64 (word p i) (word q i)=word (minusP p q) i:=by
 have h1:(BitVec.ofInt 64 ((wordN p i:Nat):Int)).toNat=wordN p i:=by
   rw[BitVec.ofInt_natCast,BitVec.toNat_ofNat];exact Nat.mod_eq_of_lt (zah _ _)
 have h2:(BitVec.ofInt 64 ((wordN q i:Nat):Int)).toNat=wordN q i:=by
   rw[BitVec.ofInt_natCast,BitVec.toNat_ofNat];exact Nat.mod_eq_of_lt (zah _ _)
 have e:wordN p i &&& (2 ^ 64-1-wordN q i)=wordN (minusP p q) i:=by
   apply Nat.eq_of_testBit_eq;intro j;have hq:=zah q i;rw[Nat.testBit_and,show 2 ^ 64-1-wordN q i=2 ^ 64-(wordN q i+1) by omega,Nat.testBit_two_pow_sub_succ (by omega),za4,za4,za4];cases decide (j<64) <;> simp[minusP]
 unfold word
 show IntKind.u64.wrap ((BitVec.ofInt 64 ((wordN p i:Nat):Int) &&& ~~~ BitVec.ofInt 64 ((wordN q i:Nat):Int)).toNat:Int)=_
 rw[BitVec.toNat_and,BitVec.toNat_not,h1,h2,e,IntKind.wrap_u64];have:=zah (minusP p q) i;omega
def fromP (q:Nat->Bool) (i p:Nat):Nat:=bitsN (fun j=>decide (p<=j)&&q (64*i+j)) 64
theorem zej (q:Nat->Bool) (i p:Nat):fromP q i p<18446744073709551616:=zen 64 _
theorem zb9 (q:Nat->Bool) (i p j:Nat):(fromP q i p).testBit j=(decide (j<64)&&(decide (p<=j)&&q (64*i+j))):=zba 64 _ j
theorem zgf (q:Nat->Bool) (i:Nat):fromP q i 0=wordN q i:=zd8 64 _ _ fun j _=>by simp
theorem zig {q:Nat->Bool} {i p:Nat} (h:fromP q i p=0) (j:Nat) (h1:p<=j) (h2:j<64):q (64*i+j)=false:=by
 have t:=zb9 q i p j;rw[h] at t;simp[h1,h2] at t;exact t
theorem zk5:∀ (n x:Nat),x<2 ^ n->x≠0->∃ k m,k<n∧x=2 ^ k*(2*m+1)
 | 0,x,h,h0=>by simp at h;omega
 | n+1,x,h,h0=>by
   by_cases hx:x % 2=1
   . exact⟨0,x / 2,by omega,by omega⟩
   . rw[Nat.pow_succ] at h;obtain⟨k,m,hk,e⟩:=zk5 n (x / 2) (by omega) (by omega);refine⟨k+1,m,by omega,?_⟩;have:x=2*(x / 2):=by omega
     rw[this,e,Nat.pow_succ,Nat.mul_comm (2 ^ k) 2,Nat.mul_assoc]
theorem zc7 (k m j:Nat):(2 ^ k*(2*m+1)).testBit j=(decide (k<=j)&&(2*m+1).testBit (j-k)):=by
 have h:=Nat.testBit_two_pow_mul (i:=k) (a:=2*m+1) (j:=j)
 simpa using h
theorem zh4 (k m j:Nat):(2 ^ k*(2*m+1)-1).testBit j=if j<k then true else (2*m).testBit (j-k):=by
 have hp:0<2 ^ k:=Nat.two_pow_pos k;have e:2 ^ k*(2*m+1)-1=2 ^ k*(2*m)+(2 ^ k-1):=(by rw[Nat.mul_add,Nat.mul_one];omega);rw[e,Nat.testBit_two_pow_mul_add _ (by omega)];split
 . rename_i h;rw[Nat.testBit_two_pow_sub_one];simp[h]
 . rfl
theorem zec (m j:Nat):(2*m+1).testBit (j+1)=m.testBit j:=by
 rw[Nat.testBit_succ];congr 1;omega
theorem zd3 (m j:Nat):(2*m).testBit (j+1)=m.testBit j:=by
 rw[Nat.testBit_succ];congr 1;omega
theorem zlm (k m:Nat) (h:2 ^ k*(2*m+1)<2 ^ 64):(2 ^ k*(2*m+1)) &&& (2 ^ 64-2 ^ k*(2*m+1))=2 ^ k:=by
 have hp:0<2 ^ k:=Nat.two_pow_pos k;have h1:0<2 ^ k*(2*m+1):=Nat.mul_pos hp (by omega);apply Nat.eq_of_testBit_eq;intro j;have e:2 ^ 64-2 ^ k*(2*m+1)=2 ^ 64-((2 ^ k*(2*m+1)-1)+1):=(by omega);rw[Nat.testBit_and,e,Nat.testBit_two_pow_sub_succ (by omega),zc7,zh4,Nat.testBit_two_pow]
 by_cases h2:j<k
 . have:¬ k<=j:=by omega
   have h3:¬ k=j:=(by omega);simp[this,h3]
 . by_cases h3:j=k
   . subst h3;have h64:j<64:=by
       rcases Nat.lt_or_ge j 64 with h4|h4
       . exact h4
       . have:=Nat.pow_le_pow_right (n:=2) (by omega) h4;have h5:2 ^ j*1<=2 ^ j*(2*m+1):=Nat.mul_le_mul_left _ (by omega);omega
     simp[h64]
   . obtain⟨d,rfl⟩:∃ d,j=k+(d+1):=⟨j-k-1,by omega⟩;have h4:¬ k=k+(d+1):=(by omega);rw[show k+(d+1)-k=d+1 by omega,zec,zd3];simp[h4,h2];exact fun h _=>h
theorem zln (k m:Nat):(2 ^ k*(2*m+1)) &&& (2 ^ k*(2*m+1)-1)=2 ^ k*(2*m):=by
 apply Nat.eq_of_testBit_eq;intro j;have h:=Nat.testBit_two_pow_mul (i:=k) (a:=2*m) (j:=j);rw[Nat.testBit_and,zc7,zh4]
 by_cases h2:j<k
 . have:¬ k<=j:=by omega
   simp[this] at h ⊢
   simpa using h.symm
 . have h6:k<=j:=(by omega);rw[if_neg h2];simp[h6] at h ⊢;rw[h]
   by_cases h3:j=k
   . subst h3;simp
   . obtain⟨d,rfl⟩:∃ d,j=k+(d+1):=⟨j-k-1,by omega⟩;rw[show k+(d+1)-k=d+1 by omega,zec,zd3];simp
theorem zih {q:Nat->Bool} {i p:Nat} (h:fromP q i p≠0):∃ k,p<=k∧k<64∧q (64*i+k)=true∧(∀ j,p<=j->j<k->q (64*i+j)=false)∧
   fromP q i p &&& (fromP q i p-1)=fromP q i (k+1)∧fromP q i p &&& (2 ^ 64-fromP q i p)=2 ^ k:=by
 obtain⟨k,m,hk,e⟩:=zk5 64 (fromP q i p) (zej q i p) h;have tk:=zb9 q i p k;rw[e,zc7] at tk;simp[hk] at tk;have hb:∀ j,p<=j->j<k->q (64*i+j)=false:=by
   intro j h1 h2;have t:=zb9 q i p j;have h3:¬ k<=j:=(by omega);rw[e,zc7] at t;simp[h3,h1,show j<64 by omega] at t;exact t
 refine⟨k,tk.1,hk,tk.2,hb,?_,?_⟩
 . rw[e,zln];apply Nat.eq_of_testBit_eq;intro j;have hm:=Nat.testBit_two_pow_mul (i:=k) (a:=2*m) (j:=j);have t:=zb9 q i p j;rw[e,zc7] at t;rw[hm,zb9]
   by_cases h2:k+1<=j
   . obtain⟨d,rfl⟩:∃ d,j=k+(d+1):=⟨j-k-1,by omega⟩;rw[show k+(d+1)-k=d+1 by omega,zec] at t;rw[show k+(d+1)-k=d+1 by omega,zd3];have h5:p<=k+(d+1):=(by omega);simp[h5] at t;simp[t]
   . by_cases h3:j=k
     . subst h3;simp;omega
     . have h4:¬ k<=j:=(by omega);have h5:¬ k+1<=j:=(by omega);simp[h4,h5]
 . rw[e,zlm k m (by rw[←e];exact zej q i p)]
def upP (q:Nat->Bool) (m:Nat):List Nat:=(List.range m).filter q
theorem zmm {q:Nat->Bool} {k:Nat} (h:q k=true):upP q (k+1)=upP q k++[k]:=by
 unfold upP;rw[List.range_succ,List.filter_append];simp[h]
theorem zl0 {q:Nat->Bool} {k:Nat} (h:q k=false):upP q (k+1)=upP q k:=by
 unfold upP;rw[List.range_succ,List.filter_append];simp[h]
theorem ze3 {q:Nat->Bool} {a:Nat}:∀ (d:Nat),(∀ j,a<=j->j<a+d->q j=false)->upP q (a+d)=upP q a
 | 0,_=>rfl
 | d+1,h=>by rw[←Nat.add_assoc,zl0 (h (a+d) (by omega) (by omega)),ze3 d fun j h1 h2=>h j h1 (by omega)]
theorem upP_mem {q:Nat->Bool} {m k:Nat}:k∈upP q m↔k<m∧q k=true:=by simp[upP]
def deBr:List Nat:=[0,1,56,2,57,49,28,3,61,58,42,50,38,29,17,4,62,47,59,36,45,43,51,22,53,39,33,30,24,18,12,5,63,55,48,27,60,41,37,16,46,35,44,21,52,32,23,11,54,26,40,15,34,20,31,10,25,14,19,9,13,8,7,6]
theorem zn5:∀ k:Fin 64,deBr.getD ((2 ^ k.val*285870213051353865 % 18446744073709551616) / 288230376151711744) 0=k.val∧(2 ^ k.val*285870213051353865 % 18446744073709551616) / 288230376151711744<64:=by decide +kernel
end
section
open Go Go.RowKit
attribute [local go_sem ↓] Go.wp_at_zero Go.wp_at_succ
def Tab (w:World):Prop:=3<w.heap.size∧∀ k,k<64->w.cell? ⟨3,k,none⟩=some (.int .u8 (deBr.getD k 0))
theorem Tab.below {w w':World} {B:Nat} (h:Tab w) (hb:Below B w w') (hB:3<B):Tab w':=⟨Nat.lt_of_lt_of_le h.1 hb.size,fun k hk=>(hb.cell (p:=⟨3,k,none⟩) hB).trans (h.2 k hk)⟩
set_option maxHeartbeats 1000000 in
theorem tz_p (w:World) (x k:Nat) (hx:x<18446744073709551616) (hk:k<64) (h:x &&& (2 ^ 64-x)=2 ^ k) (ht:Tab w):Calls Tryz.prog 95 #[.int .u64 x] w fun e w'=>e = .returned (.int .i64 k)∧w=w':=by
 have hx0:x≠0:=by
   rintro rfl;have:=Nat.two_pow_pos k;simp at h;omega
 have hb0:((x:Int)==0)=false:=(by simp;omega);have e1:IntKind.u64.wrap (-(x:Int))=((2 ^ 64-x:Nat):Int):=by
   rw[IntKind.wrap_u64];have:(2:Nat) ^ 64=18446744073709551616:=by decide
   omega
 have e2:bits .and .u64 (x:Int) ((2 ^ 64-x:Nat):Int)=((2 ^ k:Nat):Int):=by
   rw[bits_and_u64_nat _ _ hx (by have:(2:Nat) ^ 64=18446744073709551616:=(by decide);omega),h]
 obtain⟨d1,d2⟩:=zn5 ⟨k,hk⟩;simp only at d1 d2;have e3:IntKind.u64.wrap (((2 ^ k:Nat):Int)*285870213051353865)=((2 ^ k*285870213051353865 % 18446744073709551616:Nat):Int):=by
   rw[IntKind.wrap_u64];omega
 generalize 2 ^ k*285870213051353865 % 18446744073709551616=y at d1 d2 e3;have hc:=ht.2 _ d2;rw[d1] at hc;generalize hp:((2 ^ k:Nat))=p2 at *;generalize hn:2 ^ 64-x=nx at *;have j1:(y:Int) / 288230376151711744<64:=(by omega);have j2:((y:Int) / 288230376151711744).toNat=y / 288230376151711744:=(by omega);have j0:(0:Int)<=(y:Int) / 288230376151711744:=(by omega);clear d1 h hp hn hx0;go_enter Tryz.func95,Tryz.ntmps95;go_wp2;go_ret;exact⟨rfl,rfl⟩
end
section
open Go Go.RowKit
def noDefer (ops:Array Oper):Bool:=ops.all fun o=>match o.op with | .defer _=>false | _=>true
theorem zib {ops:Array Oper} (h:noDefer ops=true) {i:Nat} {o:Oper} (hi:ops[i]?=some o):∀ c,o.op ≠ .defer c:=by
 intro c hc;unfold noDefer at h;rw[Array.all_eq_true] at h;obtain⟨hlt,e⟩:=Array.getElem?_eq_some_iff.1 hi;have:=h i hlt;rw[e,hc] at this;cases this
section
variable {P:Program} {ops:Array Oper} {Q:Exit->Act->World->Prop} {md:Region.Mode} {l n:Nat}
theorem zdb (hd:noDefer ops=true) (hL:¬ LetsOut Q) {i:Nat} {K:Act->World->Prop} {a:Act} {w:World} (h:wpOp P ops Q i K a w):wpOpIn (Fence.wide.inRound l) n P ops Q i K a w:=by
 unfold wpOp at h;unfold wpOpIn;cases ho:ops[i]? with
 | none=>rw[ho] at h;exact h
 | some o =>
   rw[ho] at h;simp only at h ⊢;split
   . rename_i hw;rw[if_pos hw] at h;rcases h with h|⟨_,h⟩
     . refine⟨fun _ _=>trivial,?_⟩;rw[Oper.semAt_eq _ _ _ (zib hd ho)];unfold Oper.wp at h;generalize (execOp a.eval o).run P w=r at h ⊢;cases r with
       | ok x w' =>
         cases x <;> simp only[Oper.upon,Oper.uponIn] at h ⊢
         case value=>exact h
         case skip=>exact h
         case defer=>exact h
         case enter=>exact⟨fun e=>(by cases e),callsIn_wide.2 h⟩
         case row=>exact⟨fun e=>(by cases e),fun c cs _=>let ⟨v,w2,r,s⟩:=h c cs;⟨v,w2,r,stepsIn_wide.2 s⟩⟩
       | halt x w'=>cases x <;> simp only[Oper.upon,Oper.uponIn] at h ⊢;exact h
     . exact absurd h hL
   . rename_i hw;rw[if_neg hw] at h;exact⟨fun _ _=>trivial,h⟩
theorem zax (hd:noDefer ops=true) (hL:¬ LetsOut Q):∀ (fuel:Nat) (listed:Array Bool) (a:Act) (w:World),wpAny P md ops Q fuel listed a w->wpAnyIn (Fence.wide.inRound l) n P md ops Q fuel listed a w
 | 0,listed,a,w,h=>h
 | fuel+1,listed,a,w,h=>⟨h.1,fun i hi=>wpOpIn_mono (fun a' w' h'=>zax hd hL fuel _ a' w' h') (zdb hd hL (h.2 i hi))⟩
end
theorem zaw {P:Program} {Q:Exit->Act->World->Prop} {r n id:Nat} {a:Act} {w:World} {l:List Oper} (k:Nat) (hm:P.follows .mixedOrders=true) (hB:Region.lexTailB .any l.toArray k=true) (hd:noDefer l.toArray=true) (hL:¬ LetsOut Q)
   (h:wpStill P l.toArray w.drew (fun a'=>wpList P l.toArray Q (l.drop k) a' w.drew) (l.take k) a):(Code.region id l.toArray true).wpIn (Fence.wide.inRound r) n P Q a w:=by
 refine wpIn_region_any hm (zax hd hL _ _ _ _ ?_);simp only[Region.lexTailB,Bool.and_eq_true,decide_eq_true_eq] at hB;have hk:k<l.length:=(by have:=hB.1.1.1.2;simpa using this);have e1:(l.take k).length=k:=(by rw[List.length_take];omega);have e2:(l.drop k).length=l.toArray.size-k:=(by simp);have e3:(l.take k).length+(l.toArray.size-k)=l.toArray.size:=(by rw[e1];simp;omega);have start:HeadInv .any l.toArray k (Array.replicate l.toArray.size false):=by
   refine⟨by simp,fun j oj _ hl=>?_,fun t _ ht=>getD_in (by simpa using ht) (getD_replicate_false _ _)⟩;rw[getD_replicate_false] at hl;cases hl
 have hat:∀ j,j<(l.take k).length->(l.take k)[j]?=l.toArray[0+j]?:=fun j hj=>by
   rw[e1] at hj;simp[hj]
 have lex:=wpAnyL_lex (md := .any) (g:=l.toArray.size-k) hB.1.1.1.1 hB.1.1.2 hB.1.2 hB.1.1.1.2 (l.take k) 0 _ a hat (by omega) start (by rw[e1];exact hB.2) h;have tail:=wpAny_of_head (Q':=Q) (g:=l.toArray.size-k) (fun listed a' hs=>?_) _ _ _ lex
 . rwa [e3] at tail
 . have t1:=wpAny_of_seq (md := .any) (Q':=Q) (l.drop k) k listed a' w.drew (fun j=>by simp[List.getElem?_drop]) (by rw[e2];exact hs.1) hs.2
   rwa [e2] at t1
end
section
open Go Go.RowKit
attribute [local go_sem ↓] Go.wp_at_zero Go.wp_at_succ
set_option maxHeartbeats 400000 in
theorem has_p (p:Nat->Bool) (b:Int) (w:World) (hb:0<=b) (hb':b<=255):
   Calls Tryz.prog 13 #[.agg #[.int .u64 (word p 0),.int .u64 (word p 1),.int .u64 (word p 2),.int .u64 (word p 3)],.int .u8 b] w fun e w'=>e = .returned (.bool (p b.toNat))∧Below w.heap.size w w':=by
 have hv:=zgo p b hb hb';have H:=zei p b hb hb';rw[←H];clear H;go_enter Tryz.func13,Tryz.ntmps13;go_wp2;go_ret;exact⟨rfl,(Below.refl _ _).alloc (Nat.le_refl _) _⟩
end
section
open Go Go.RowKit
section
variable {P:Program} (w:World)
end
def HasO (w:World) (g:Nat) (o:Obj):Prop:=w.heap[g]?=some o
theorem zna {w:World} {a:Addr} {v:Value} (h:w.cell? a=some v):w.drew.cell? a=some v:=h
end
section
open Go Go.RowKit
structure Kept (Q:Nat->Prop) (w w':World):Prop where
 os:w'.os=w.os
 tape:w'.tape=w.tape
 output:w'.output=w.output
 size:w.heap.size<=w'.heap.size
 block:∀ b,b<w.heap.size->¬ Q b->w'.heap[b]?=w.heap[b]?
section
variable {Q Q':Nat->Prop} {w w' w'':World}
end
theorem zle {w:World} {B e size n:Nat} {v:Value} {xs:List Value} (h:w.ownsRow B e size v n xs) {b:Nat} (hb:v.ownBlock=some b):∃ cur,w.heap[b]?=some (.cells cur e (0,0)):=by
 rcases h.2 with ⟨rfl,_⟩|⟨g,cap,cur,rfl,hB,hh,r⟩
 . cases hb
 . cases hb;exact⟨cur,hh⟩
theorem zid {w:World} {b c:Nat} {cur cur':Array Value} {ty ty':TypeId} (h:w.heap[b]?=some (.cells cur ty (0,0))) (h':w.heap[c]?=some (.cells cur' ty' (0,0))) (hne:ty≠ty'):b≠c:=by
 intro e;subst e;rw[h] at h';injection h' with h'
 injection h' with _ e _
 exact hne e
end
section
open Go Go.RowKit
def stoW (w:World) (p v:Value):World:=match p,v with
 | .pointer (some a),.agg cs=>w.setRow a.block cs
 | _,_=>w
def Sto (ty:TypeId) (w:World) (p v:Value):Prop:=(Instr.storeAt ty p v).run Tryz.prog w = .ok () (stoW w p v)
theorem sto_of {ty:TypeId} {w:World} {b:Nat} {cur cs:Array Value} {t:TypeId} (h:w.heap[b]?=some (.cells cur t (0,0))) (hi:(Tryz.prog.info? ty).map (·.size)=some cs.size) (ho:cur.size=cs.size) (h1:cs.all (·.oneCell')=true):
   Sto ty w (.pointer (some ⟨b,0,none⟩)) (.agg cs):=by
 unfold Sto stoW;simp only[Instr.storeAt,Instr.sureAddr,Sem.run_bind,Sem.run_pure,Result.andThen_ok,run_storeVar_row w b t ty cur cs h hi ho h1]
theorem has_sto {w:World} {b:Nat} {old cs:Array Value} {t:TypeId} (h:w.heap[b]?=some (.cells old t (0,0))):(stoW w (.pointer (some ⟨b,0,none⟩)) (.agg cs)).heap[b]?=some (.cells cs t (0,0)):=setRow_heap w b old cs t (0,0) h
theorem cell_sto {w:World} {g o b:Nat} {cs:Array Value} {v:Value} (h:w.cell? ⟨g,o,none⟩=some v) (hne:g≠b):(stoW w (.pointer (some ⟨b,0,none⟩)) (.agg cs)).cell? ⟨g,o,none⟩=some v:=(cell_setRow_other w b cs ⟨g,o,none⟩ hne).trans h
theorem below_sto {B:Nat} {w0 w:World} {b:Nat} {cs:Array Value} (h:Below B w0 w) (hb:B<=b):Below B w0 (stoW w (.pointer (some ⟨b,0,none⟩)) (.agg cs)):=below_setRow h hb cs
def stoM (w:World) (p v:Value):World:=match p,v with
 | .pointer (some a),.agg cs=>w.setCells a.block a.off cs.toList
 | _,_=>w
def StoM (ty:TypeId) (w:World) (p v:Value):Prop:=(Instr.storeAt ty p v).run Tryz.prog w = .ok () (stoM w p v)
theorem zmp {ty:TypeId} {w:World} {b o:Nat} {cs:Array Value} (ht:w.there b o cs.size) (hi:(Tryz.prog.info? ty).map (·.size)=some cs.size) (h1:cs.all (·.oneCell')=true):StoM ty w (.pointer (some ⟨b,o,none⟩)) (.agg cs):=run_storeAt_mid w b o ty cs ht hi h1
theorem zl3 {ρ:Operand->Value} {dst:Option Tmp} {x y:Operand} {t ty:TypeId} {pos:String} {after:Array Edge} {guard:Option (Nat×Bool)} {w:World} (h:StoM t w (ρ x) (ρ y)):
   Sem.run Tryz.prog (execOp ρ {dst:=dst,op := .store t x y,type:=ty,pos:=pos,after:=after,guard:=guard}) w = .ok .skip (stoM w (ρ x) (ρ y)):=by
 unfold StoM at h;unfold execOp;simp only[Sem.run_bind,Sem.run_pure,Result.andThen_ok,h]
end
section
open Go Go.RowKit
def RdStr (w:World) (A:Option Addr) (L:List ByteArray):Prop:=∀ i s,L[i]?=some s->∃ b off,A=some ⟨b,off,none⟩∧b<w.heap.size∧w.cell? ⟨b,off+i,none⟩=some (.string s)
theorem RdStr.stays {w w':World} {A:Option Addr} {L:List ByteArray} (h:RdStr w A L) (hb:Below w.heap.size w w'):RdStr w' A L:=fun i s e=>by
 obtain⟨b,off,h1,h2,h3⟩:=h i s e;exact⟨b,off,h1,Nat.lt_of_lt_of_le h2 hb.size,za2 h3 hb⟩
end
section
open Go Go.RowKit
def ruC (x:Ru):List Value:=[.string x.name,.string x.pat,.bool x.luhn]
def ruV (x:Ru):Value := .agg #[.string x.name,.string x.pat,.bool x.luhn]
def ruL:List Ru->List Value
 | []=>[]
 | x::l=>ruC x++ruL l
theorem zjp:∀ (a b:List Ru),ruL (a++b)=ruL a++ruL b
 | [],b=>rfl
 | x::a,b=>by rw[List.cons_append,ruL,ruL,zjp a b,List.append_assoc]
theorem zjo:∀ (l:List Ru) (i q:Nat) (x:Ru),l[i]?=some x->q<3->(ruL l)[i*3+q]?=(ruC x)[q]?
 | [],i,q,x,h,hq=>by simp at h
 | y::l,0,q,x,h,hq=>by
   simp at h;subst h;rw[ruL,List.getElem?_append_left (by simp[ruC];omega)];simp
 | y::l,i+1,q,x,h,hq=>by
   rw[ruL,List.getElem?_append_right (by simp[ruC];omega),show (i+1)*3+q-(ruC y).length=i*3+q by simp[ruC];omega];exact zjo l i q x (by simpa using h) hq
def RdRu (w:World) (A:Option Addr) (l:List Ru):Prop:=
 ∀ i x,l[i]?=some x->∃ g off,A=some ⟨g,off,none⟩∧g<w.heap.size∧w.cell? ⟨g,off+i*3,none⟩=some (.string x.name)∧w.cell? ⟨g,off+i*3+1,none⟩=some (.string x.pat)∧w.cell? ⟨g,off+i*3+2,none⟩=some (.bool x.luhn)
def RuRow (w:World) (B:Nat) (v:Value) (l:List Ru):Prop:=w.ownsRow B 58 3 v l.length (ruL l)
def StrRow (w:World) (B:Nat) (v:Value) (l:List ByteArray):Prop:=w.ownsRow B 9 1 v l.length (l.map Value.string)
section
variable {w w':World} {B:Nat} {v:Value} {l:List Ru} {s:List ByteArray} {A:Option Addr}
theorem RdRu.stays (h:RdRu w A l) (hb:Below w.heap.size w w'):RdRu w' A l:=fun i x e=>by
 obtain⟨g,off,h1,h2,h3,h4,h5⟩:=h i x e;exact⟨g,off,h1,Nat.lt_of_lt_of_le h2 hb.size,za2 h3 hb,za2 h4 hb,za2 h5 hb⟩
theorem RuRow.nil (w:World) (B:Nat):RuRow w B (.slice none 0 0) []:=World.ownsRow_nil w B _ 3
theorem RuRow.form (h:RuRow w B v l):∃ A c,v = .slice A l.length c:=by
 rcases h.2 with ⟨rfl,h0⟩|⟨g,cap,cur,rfl,_⟩
 . exact⟨none,0,by rw[h0]⟩
 . exact⟨_,_,rfl⟩
theorem RuRow.stays (h:RuRow w B v l) (hb:Below w.heap.size w w'):RuRow w' B v l:=zc3 h hb
theorem RuRow.in (h:RuRow w B v l):∀ b,v.ownBlock=some b->B<=b∧b<w.heap.size:=fun b e=>World.ownsRow.lt h b e
theorem RuRow.rd {n c:Nat} (h:RuRow w B (.slice A n c) l):RdRu w A l:=fun i x hi=>by
 have hl:i<l.length:=(List.getElem?_eq_some_iff.1 hi).1;rcases h.2 with ⟨e,e0⟩|⟨g,cap',cur,e,hB,hg,_⟩
 . injection e with e1 e2 e3
   have:l.length=0:=e0;omega
 . have e':=e;injection e with e1 e2 e3
   subst e1 e2;have key:∀ q,q<3->w.cell? ⟨g,i*3+q,none⟩=(ruC x)[q]?:=fun q hq=>by
     rw[World.ownsRow.cellAt h (i*3+q) (by omega),zjo l i q x hi hq]
   refine⟨g,0,rfl,za0 hg,?_,?_,?_⟩
   . rw[show 0+i*3=i*3+0 by omega];exact key 0 (by omega)
   . rw[show 0+i*3+1=i*3+1 by omega];exact key 1 (by omega)
   . rw[show 0+i*3+2=i*3+2 by omega];exact key 2 (by omega)
end
theorem zmt (w:World) (l:List ByteArray):RdStr (w.alloc (.cells (l.map Value.string).toArray 9)) (some ⟨w.heap.size,0,none⟩) l:=fun i s hi=>by
 refine⟨w.heap.size,0,rfl,by simp,?_⟩;rw[cell_of_row _ w.heap.size (0+i) _ 9 (0,0) (heap_alloc_new w _)];simp[hi]
theorem infoRu:(Tryz.prog.info? 58).map (fun i=>(i.zero,i.size,i.bytes))=some (some (.agg #[.string ⟨#[]⟩,.string ⟨#[]⟩,.bool false]),3,40):=by kernel_rfl
theorem zms {w:World} {B:Nat} {v:Value} {l:List Ru} (h:RuRow w B v l) (hB:B<=w.heap.size) (hl:l.length<=100000) (x:Ru) (td:TypeId) (ad:Addr) (c:Nat)
   (hc:∀ (j:Nat) u,(ruC x)[j]?=some u->w.cell? (ad.add j)=some u):
   ∃ v' w',(Builtin.append_ #[54,54] td #[v,.slice (some ad) 1 c]).run Tryz.prog w = .ok v' w'∧RuRow w' B v' (l++[x])∧w.grownBy w' v.ownBlock∧(v'.ownBlock=v.ownBlock∨v'.ownBlock=some w.heap.size):=by
 obtain⟨i0,hi,hz0,hz1,hz2⟩:=info_parts infoRu;obtain⟨v',w',hr,h4,h5,_,h6⟩:=run_append_own_at (P:=Tryz.prog) w B 54 td 58 i0 _ 3 40 Tryz.underlying54 hi hz0 hz1 hz2 rfl (by decide) v l.length (ruL l) h ad 1 c (ruC x) rfl hc
   (by
     intro u hu;simp only[ruC,List.mem_cons,List.not_mem_nil,or_false] at hu;rcases hu with rfl|rfl|rfl <;> rfl) (by unfold maxLen;omega) (by omega) hB
 refine⟨v',w',hr,?_,h5,h6⟩;unfold RuRow;rw[zjp,show ruL [x]=ruC x from by simp[ruL]]
 simpa using h4
theorem zj9 {w:World} {ops:Array Oper} {rest:List Oper} {o:Oper} {a:Act} {Q:Exit->Act->World->Prop} (hgd:o.guard=none) (s x:Operand)
   (ho:o.op = .call {callee := .builtin .append,args:=#[s,x],argTypes:=#[54,54]})
   {B:Nat} {v:Value} {l:List Ru} (hs:a.eval s=v) (h:RuRow w B v l) (hB:B<=w.heap.size) (hl:l.length<=100000) (y:Ru)
   (ad:Addr) (c:Nat) (hx:a.eval x = .slice (some ad) 1 c) (hc:∀ (j:Nat) u,(ruC y)[j]?=some u->w.cell? (ad.add j)=some u)
   (hk:∀ v' w',RuRow w' B v' (l++[y])->w.grownBy w' v.ownBlock->(v'.ownBlock=v.ownBlock∨v'.ownBlock=some w.heap.size)->wpList Tryz.prog ops Q rest (a.put o.dst v') w'):wpList Tryz.prog ops Q (o::rest) a w:=by
 obtain⟨v',w',hr,h2,h3,h4⟩:=zms h hB hl y o.type ad c hc;refine wpList_plain hgd fun _ hK=>?_
 unfold Oper.wp execOp;simp only[ho,resolve,invoke,builtin,Sem.run_bind,Sem.run_pure,Result.andThen_ok,List.map_toArray,List.map_cons,List.map_nil,hs,hx,hr];exact hK _ _ (hk v' w' h2 h3 h4)
theorem zbc {B:Nat} {a w:World} (h:Below B a w) (n:Nat):Below B a (w.drewN n):=⟨h.os,h.tape,h.output,h.size,h.block⟩
def ruA (x:Ru):Array Value:=#[.string x.name,.string x.pat,.bool x.luhn]
def RB (w:World) (g:Nat) (x:Ru):Prop:=w.heap[g]?=some (.cells #[.string x.name,.string x.pat,.bool x.luhn] 58 (0,0))
section
variable {w w':World} {g:Nat} {x:Ru}
theorem RB.lt (h:RB w g x):g<w.heap.size:=za0 h
theorem RB.stays (h:RB w g x) (hb:Below w.heap.size w w'):RB w' g x:=(hb.block g h.lt).trans h
theorem RB.drewN (h:RB w g x) (n:Nat):RB (w.drewN n) g x:=h
theorem RB.new (w:World) (x:Ru):RB (w.alloc (.cells #[.string x.name,.string x.pat,.bool x.luhn] 58)) w.heap.size x:=heap_alloc_new w _
theorem RB.cell (h:RB w g x):w.cell? ⟨g,0,none⟩=some (.string x.name)∧w.cell? ⟨g,1,none⟩=some (.string x.pat)∧w.cell? ⟨g,2,none⟩=some (.bool x.luhn):=
 ⟨cell_of_row w g 0 _ _ (0,0) h,cell_of_row w g 1 _ _ (0,0) h,cell_of_row w g 2 _ _ (0,0) h⟩
theorem RB.frozen (h:RB w g x) (j:Nat):w.frozen? ⟨g,j,none⟩=false:=by
 unfold RB at h;simp[World.frozen?,h]
theorem RB.put (h:RB w g x) (a b:ByteArray) (c:Bool):RB (((w.setCell ⟨g,0,none⟩ (.string a)).setCell ⟨g,1,none⟩ (.string b)).setCell ⟨g,2,none⟩ (.bool c)) g ⟨a,b,c⟩:=
 heap_setCell_same _ g 2 _ 58 _ (heap_setCell_same _ g 1 _ 58 _ (heap_setCell_same w g 0 _ 58 _ h))
theorem zi0 (h:RB w g x):(loadVar 58 ⟨g,0,none⟩).run Tryz.prog w = .ok (ruV x) w:=by
 have:=run_loadVar_mid (P:=Tryz.prog) w g 0 58 (ruC x) _ (fun j v hv=>by
   rw[Nat.zero_add,cell_of_row w g j _ 58 (0,0) h]
   simpa [ruC] using hv) Tryz.underlying58 rfl (by kernel_rfl)
 simpa [ruC,ruV] using this
theorem zb6 {fn:Func} {tmps:Array Value} {y z:Nat} {v:Value} (hr:fn.results=#[.cell y 58,.tmp z]) (hy:tmps.getD y undef = .pointer (some ⟨g,0,none⟩)) (hz:tmps.getD z undef=v) (h:RB w g x):
   (results fn tmps).run Tryz.prog w = .ok (.tuple #[ruV x,v]) w:=by
 have e:(#[ResultVar.cell y 58,.tmp z]:Array ResultVar)=[ResultVar.cell y 58,.tmp z].toArray:=rfl;rw[Array.getD_eq_getD_getElem?] at hy hz;unfold results;rw[hr,e];simp[Sem.run_bind,hy,hz,zi0 h,asAddr]
end
end
section
open Go Go.RowKit
def Ints (w:World) (B:Nat) (v:Value) (l:List Int):Prop:=w.ownsRow B 3 1 v l.length (l.map (Value.int .i64))
section
variable {w w':World} {B:Nat} {v:Value} {l:List Int}
end
end
section
open Go Go.RowKit
theorem Tryz.askSpot (x:TypeId) (p:Value) (w:World):(Instr.typeAssert (.iface 69 p) x 69 true).run Tryz.prog w = .ok (.tuple #[p,.bool true]) w:=by
 unfold Instr.typeAssert;simp[run_underlying Tryz.underlying69,Sem.run_bind,Result.andThen]
set_option maxHeartbeats 400000 in
theorem spot_p (w:World) (gs:Nat) (a c:Int) (h:w.heap[gs]?=some (.cells #[.int .i64 a,.int .i64 c] 73 (0,0))):
   Calls Tryz.prog 8 #[.iface 69 (.pointer (some ⟨gs,0,none⟩))] w fun e w'=>e = .returned (.tuple #[.int .i64 c,.int .i64 a])∧∃ n,w'=w.drewN n:=by
 have c0:w.cell? ⟨gs,0,none⟩=some (.int .i64 a):=cell_of_row w gs _ _ 73 (0,0) h;have c1:w.cell? ⟨gs,1,none⟩=some (.int .i64 c):=cell_of_row w gs _ _ 73 (0,0) h;have hta:=Tryz.askSpot;go_enter Tryz.func8,Tryz.ntmps8;go_wp2;go_quiet (fail);go_wp2;go_ret2;exact⟨rfl,_,rfl⟩
end
section
open Go Go.RowKit
theorem err_eq (a b:Int) (w:World):(binOp .eql 28 (.iface 71 (.int .i64 a)) (.iface 71 (.int .i64 b))).run Tryz.prog w = .ok (.bool (a==b)) w:=by kernel_rfl
set_option maxRecDepth 20000 in
set_option maxHeartbeats 2000000 in
theorem zn7 (w:World) (c:Nat) (h1:1<=c) (h2:c<=11):Calls Tryz.prog 27 #[.iface 71 (.int .i64 (c:Int))] w fun e w'=>e = .returned (.int .i64 (c:Int))∧w=w':=by
 have he:=err_eq;go_enter Tryz.func27,Tryz.ntmps27;go_wp2;go_loopg [3] 12 (fun m s wr=>∃ j:Nat,s = .int .i64 (j:Int)∧1<=j∧j<=c∧m=13-j∧wr=w)
 case atStart=>exact⟨1,by first | rfl | trivial,Nat.le_refl _,h1,by first | rfl | trivial,rfl⟩
 case round =>
   obtain⟨j,rfl,hj1,hj,hm,hww⟩:=hrel;obtain rfl:=hww.symm;have HM:=Zh hm;clear hm;have i1:(j:Int)<=11:=by omega
   by_cases hjc:j=c
   . subst hjc;go_wp2;go_ret;exact⟨rfl,rfl⟩
   . have hq:((c:Int)==(j:Int))=false:=(by simp;omega);go_wp2;go_roundg (13-(j+1))
     case measure=>have:=HM.out;omega
     case rel=>exact⟨j+1,by go_num,by omega,by omega,rfl,rfl⟩
end
section
open Go Go.ChangeShapes Go.WideShapes Go.ChangeAt Go.RowKit
theorem Tryz.ownKnobNone:ownKnob Tryz.prog.godebug=none:=by kernel_rfl
theorem Tryz.laidOutOk:laidOutB Tryz.prog=true:=by kernel_rfl
section
variable {H:Type} {enc:TypeId×Value->H} {W:World} {base:Nat} {spare:Nat->Bool} {held:Bool} {v:Value} {d:DataW H} {ps:List MemPlace}
theorem zia (hv:Value.okWide Tryz.prog W .any base 46 v) (h:DataW.Trod enc Tryz.prog W 0 (fun _=>true) held 46 v d ps):
   ∃ A n cap xs,v = .slice A n cap∧n=xs.length∧RdB W W.heap.size A xs∧(∀ k,k<xs.length->0<=xs.getD k 0∧xs.getD k 0<=255)∧n<=cap∧cap<=maxLen:=by
 obtain⟨A,n,cap,rfl⟩:=okWide_slice Tryz.underlying46 hv;obtain⟨fuel,hf⟩:=h;rcases open_ints Tryz.underlying46 Tryz.underlying5 (by kernel_rfl) hf with ⟨hcs,_⟩|⟨x,l,c,zs,hcs,_,hl,hm,hz,_,hcell,hwz⟩
 . simp[Value.cells] at hcs;obtain⟨rfl,rfl,rfl⟩:=hcs;exact⟨none,0,0,[],rfl,rfl,fun k hk=>by simp at hk,fun k hk=>by simp at hk,Nat.le_refl _,Nat.zero_le _⟩
 . simp[Value.cells] at hcs;obtain⟨rfl,rfl,rfl⟩:=hcs;simp at hz;refine⟨_,n,cap,zs.take n,rfl,by simp;omega,?_,?_,hl,hm⟩
   . intro k hk;simp at hk;obtain⟨b,off,rfl,hc⟩:=ints_at hcell (by omega);have hck:=hc k (by omega);refine⟨b,off,rfl,World.block_lt_of_cell? W ⟨b,off+k,none⟩ hck,?_⟩;rw[hck,List.getD_eq_getElem?_getD,List.getD_eq_getElem?_getD,List.getElem?_take_of_lt (by omega)]
   . intro k hk;have hk':=hk;simp at hk';have hb:=range_u8 hwz k;rw[List.getD_eq_getElem?_getD,List.getElem?_take_of_lt (by omega)];exact hb
end
end
end Go.Proofs.YtgbdanddbgomhaaGreatDoor
