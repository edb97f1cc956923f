import Derived.Lib.Split
import Derived.Lib.SplitLaws
import Derived.Lib.LastIndexByte
import Derived.Lib.Bytealg
import Derived.Test.YtgbdanddbgomhaaGreatDoorRows
import Derived.WalkKit
import Derived.WalkSpells
import Derived.WalkLawsBesides
import Derived.Laws.Bits64
import Derived.Laws.Bits64b
import Derived.IntWalk
import Derived.RowKit
import Derived.Laws.BitsLemmas
import Derived.Lib.Hide
import Derived.Maps.AppendAt
import Derived.Deep.AppendLies
import Derived.LaidEql
import Derived.Stop.Asserts
import Derived.RowKitTokens
import Derived.Laws.Externs
import Derived.RangeFuncNested
import Derived.StillTailTactics
import Derived.OrdersIn
import Derived.Laws.Tables
import Derived.Laws.CopyOwn
import Derived.Deep.MidRow
import Derived.Laws.OwnMore
import Derived.Deep.LoopGhost
import Derived.Deep.QuietTactic
import Derived.BigQuiet
import Derived.Laws.StructEq
import Derived.ProofKit
import Derived.OpenShut
import Derived.Laws.IdiomArrays
import Derived.Lib.SmallJoins
set_option linter.unusedVariables false
set_option linter.unusedSimpArgs false
set_option maxRecDepth 20000
namespace Go.Proofs.YtgbdanddbgomhaaGreatDoor
open Go
theorem Zh {p:Prop} (h:p):RowKit.Hid p:=h
def bt (s:ByteArray) (k:Nat):Nat:=(s.data.toList.getD k 0).toNat
theorem zdw (s:ByteArray) (k:Nat) (h:k<s.size):bt s k=(s[k]'h).toNat:=by
 unfold bt;rw[List.getD_eq_getElem?_getD,List.getElem?_eq_getElem (by simpa using h)];rfl
theorem zhy (s:ByteArray) (k:Nat):bt s k<256:=by unfold bt;exact UInt8.toNat_lt _
theorem zdj {a b:ByteArray} (h:a.data.toList=b.data.toList):a=b:=by
 cases a with
 | mk x=>cases b with
   | mk y=>exact congrArg ByteArray.mk (Array.toList_inj.1 h)
theorem zej (a b:ByteArray):(a.toList==b.toList)=decide (a=b):=by
 rw[ByteArray.toList_eq,ByteArray.toList_eq]
 by_cases h:a=b
 . subst h;simp
 . rw[decide_eq_false h];refine beq_eq_false_iff_ne.2 fun e=>h (zdj e)
theorem zb0 (a:ByteArray) (x:Array UInt8):(a.toList==x.toList)=decide (a=⟨x⟩):=by
 have:=zej a ⟨x⟩;rw[ByteArray.toList_eq ⟨x⟩] at this;exact this
theorem zs6 (s:ByteArray) (k:Nat):bt s k=(s.data[k]!).toNat:=by
 unfold bt;rw[List.getD_eq_getElem?_getD,getElem!_def,Array.getElem?_toList];cases s.data[k]? <;> rfl
theorem zh2 (s:ByteArray) (k:Nat) (b:UInt8) (h:s.data.toList[k]?=some b):bt s k=b.toNat:=by
 unfold bt;rw[List.getD_eq_getElem?_getD,h];rfl
def firstI (s:ByteArray) (c:Nat):Nat->Int
 | 0 => -1
 | k+1=>if firstI s c k<0∧bt s k=c then (k:Int) else firstI s c k
def lastI (s:ByteArray) (c:Nat):Nat->Int
 | 0 => -1
 | k+1=>if bt s k=c then (k:Int) else lastI s c k
theorem zc3 (s:ByteArray) (c:Nat):∀ k,(firstI s c k = -1∧∀ j,j<k->bt s j≠c)∨∃ i:Nat,i<k∧firstI s c k=i∧bt s i=c∧∀ j,j<i->bt s j≠c
 | 0 => .inl ⟨rfl,fun j h=>absurd h (Nat.not_lt_zero _)⟩
 | k+1=>by
   unfold firstI;rcases zc3 s c k with ⟨e,hn⟩ | ⟨i,hi,e,hc,hn⟩
   . by_cases h:bt s k=c
     . rw[if_pos ⟨by omega,h⟩];exact .inr ⟨k,by omega,rfl,h,hn⟩
     . rw[if_neg fun x=>h x.2];exact .inl ⟨e,fun j hj=>by rcases Nat.lt_succ_iff_lt_or_eq.1 hj with h' | rfl;exact hn j h';exact h⟩
   . rw[if_neg fun x=>by have:=x.1;omega];exact .inr ⟨i,by omega,e,hc,hn⟩
theorem zfy (s:ByteArray) (c:Nat):∀ k,(lastI s c k = -1∧∀ j,j<k->bt s j≠c)∨∃ i:Nat,i<k∧lastI s c k=i∧bt s i=c∧∀ j,i<j->j<k->bt s j≠c
 | 0 => .inl ⟨rfl,fun j h=>absurd h (Nat.not_lt_zero _)⟩
 | k+1=>by
   unfold lastI
   by_cases h:bt s k=c
   . rw[if_pos h];exact .inr ⟨k,by omega,rfl,h,fun j h1 h2=>by omega⟩
   . rw[if_neg h];rcases zfy s c k with ⟨e,hn⟩|⟨i,hi,e,hc,hn⟩
     . exact .inl ⟨e,fun j hj=>by rcases Nat.lt_succ_iff_lt_or_eq.1 hj with h' | rfl;exact hn j h';exact h⟩
     . exact .inr ⟨i,by omega,e,hc,fun j h1 h2=>by rcases Nat.lt_succ_iff_lt_or_eq.1 h2 with h' | rfl;exact hn j h1 h';exact h⟩
theorem znr (s:ByteArray) (c k i:Nat) (hi:i<k) (hc:bt s i=c) (hn:∀ j,j<i->bt s j≠c):firstI s c k=i:=by
 rcases zc3 s c k with ⟨e,h⟩ | ⟨j,hj,e,h1,h2⟩
 . exact absurd hc (h i hi)
 . rcases Nat.lt_trichotomy i j with h|h|h
   . exact absurd hc (h2 i h)
   . rw[e,h]
   . exact absurd h1 (hn j h)
theorem zdu (s:ByteArray) (c k:Nat):firstI s c k<=lastI s c k ∧ -1<=firstI s c k∧lastI s c k<k∧(firstI s c k<0↔lastI s c k<0):=by
 rcases zc3 s c k with ⟨e,h⟩ | ⟨i,hi,e,h1,h2⟩ <;> rcases zfy s c k with ⟨e',h'⟩ | ⟨j,hj,e',h1',h2'⟩
 . rw[e,e'];omega
 . exact absurd h1' (h j hj)
 . exact absurd h1 (h' i hi)
 . have:¬ j<i:=fun hh=>absurd h1' (h2 j hh)
   rw[e,e'];omega
theorem zfx (s:ByteArray) (c:Nat):∀ k,Lib.lastIdx s (c:Int) k=lastI s c k
 | 0=>rfl
 | k+1=>by
   unfold Lib.lastIdx lastI;rw[zfx s c k,zs6]
   by_cases h:(s.data[k]!).toNat=c
   . rw[if_pos h,if_pos (by omega)]
   . rw[if_neg h,if_neg (by omega)]
theorem zcr (c:UInt8):∀ (l:List UInt8),(Lib.indexByte l c = -1∧∀ j,j<l.length->l[j]?≠some c)∨∃ i:Nat,i<l.length∧Lib.indexByte l c=i∧l[i]?=some c∧∀ j,j<i->l[j]?≠some c
 | [] => .inl ⟨rfl,fun j h=>absurd h (Nat.not_lt_zero _)⟩
 | b::l=>by
   unfold Lib.indexByte
   by_cases h:b=c
   . subst h;rw[if_pos (by simp)];exact .inr ⟨0,by simp,rfl,rfl,fun j h=>absurd h (Nat.not_lt_zero _)⟩
   . rw[if_neg (by simpa using h)];rcases zcr c l with ⟨e,hn⟩|⟨i,hi,e,hc,hn⟩
     . rw[if_pos (by rw[e];rfl)];refine .inl ⟨rfl,fun j hj=>?_⟩;cases j with
       | zero=>simpa using h
       | succ j=>simpa using hn j (by simpa using hj)
     . rw[if_neg (by rw[e];intro h;have:=beq_iff_eq.1 h;omega)];refine .inr ⟨i+1,by simpa using hi,by rw[e];omega,by simpa using hc,fun j hj=>?_⟩;cases j with
       | zero=>simpa using h
       | succ j=>simpa using hn j (by omega)
theorem zhp (s:ByteArray) (c:UInt8):Lib.indexByte s.data.toList c=firstI s c.toNat s.size:=by
 have hlen:s.data.toList.length=s.size:=(by simp);have key:∀ j,j<s.size->(s.data.toList[j]?=some c↔bt s j=c.toNat):=fun j hj=>by
   rw[List.getElem?_eq_getElem (by rw[hlen];exact hj)];have:bt s j=(s.data.toList[j]'(by rw[hlen];exact hj)).toNat:=zh2 s j _ (List.getElem?_eq_getElem _);rw[this];constructor
   . intro h;rw[Option.some.inj h]
   . intro h;rw[UInt8.toNat_inj.1 h]
 rcases zcr c s.data.toList with ⟨e,hn⟩|⟨i,hi,e,hc,hn⟩
 . rw[e];rcases zc3 s c.toNat s.size with ⟨e',_⟩ | ⟨i,hi,e',h1,_⟩
   . exact e'.symm
   . exact absurd ((key i hi).2 h1) (hn i (by rw[hlen];exact hi))
 . rw[hlen] at hi;rw[e,znr s c.toNat s.size i hi ((key i hi).1 hc) fun j hj h=>hn j hj ((key j (by omega)).2 h)]
def okB (b:Nat):Bool:=decide (97<=b∧b<=122)||decide (48<=b∧b<=57)||decide (b=45)||decide (b=95)
def nameOk (s:ByteArray):Bool:=decide (1<=s.size∧s.size<=16)&&(List.range s.size).all fun i=>okB (bt s i)
theorem zbw (s:ByteArray):nameOk s=true↔(1<=s.size∧s.size<=16)∧∀ i,i<s.size->okB (bt s i)=true:=by
 unfold nameOk;rw[Bool.and_eq_true,decide_eq_true_iff,List.all_eq_true];constructor
 . rintro⟨h,g⟩;exact⟨h,fun i hi=>g i (List.mem_range.2 hi)⟩
 . rintro⟨h,g⟩;exact⟨h,fun i hi=>g i (List.mem_range.1 hi)⟩
structure Ru where
 name:ByteArray
 pat:ByteArray
 luhn:Bool
def luhnT:ByteArray:=⟨#[108,117,104,110]⟩
def plainT:ByteArray:=⟨#[112,108,97,105,110]⟩
def nameOf (s:ByteArray):ByteArray:=s.extract 0 (firstI s 32 s.size).toNat
def patOf (s:ByteArray):ByteArray:=s.extract ((firstI s 32 s.size).toNat+1) (lastI s 32 s.size).toNat
def kindOf (s:ByteArray):ByteArray:=s.extract ((lastI s 32 s.size).toNat+1) s.size
def ruleT (s:ByteArray):Option Ru:=
 if lastI s 32 s.size<firstI s 32 s.size+2 then none
 else if nameOk (nameOf s)=true∧(kindOf s=luhnT∨kindOf s=plainT) then some ⟨nameOf s,patOf s,decide (kindOf s=luhnT)⟩ else none
def fromI (s:ByteArray):Nat->Nat
 | 0=>0
 | k+1=>if bt s k=10 then k+1 else fromI s k
def doneI (s:ByteArray):Nat->List ByteArray
 | 0=>[]
 | k+1=>if bt s k=10 then doneI s k++[s.extract (fromI s k) k] else doneI s k
def linesB (s:ByteArray):List ByteArray:=doneI s s.size++[s.extract (fromI s s.size) s.size]
theorem zec (s:ByteArray):∀ k,fromI s k<=k
 | 0=>Nat.le_refl _
 | k+1=>by unfold fromI;split;exact Nat.le_refl _;exact Nat.le_succ_of_le (zec s k)
theorem zf4 (s:ByteArray):∀ k,(doneI s k).length<=k
 | 0=>Nat.le_refl _
 | k+1=>by
   unfold doneI;have:=zf4 s k;split
   . simp;exact this
   . omega
theorem zdv (s:ByteArray):∀ k,∀ x∈doneI s k,x.size<=s.size
 | 0=>fun x h=>by simp[doneI] at h
 | k+1=>fun x h=>by
   unfold doneI at h;split at h
   . rcases List.mem_append.1 h with h|h
     . exact zdv s k x h
     . rw[List.mem_singleton] at h;subst h;simp;omega
   . exact zdv s k x h
theorem zcy (s:ByteArray):∀ x∈linesB s,x.size<=s.size:=fun x h=>by
 unfold linesB at h;rcases List.mem_append.1 h with h|h
 . exact zdv s _ x h
 . rw[List.mem_singleton] at h;subst h;simp
def linesL:List UInt8->List (List UInt8)
 | []=>[[]]
 | b::l=>if b=10 then []::linesL l else match linesL l with
   | []=>[[b]]
   | x::r=>(b::x)::r
theorem zho:∀ l:List UInt8,(∀ b∈l,b≠10)->linesL l=[l]
 | [],_=>rfl
 | b::l,h=>by
   unfold linesL;rw[if_neg (h b (by simp)),zho l fun x hx=>h x (by simp[hx])]
theorem zfv:∀ (a b:List UInt8),(∀ x∈a,x≠10)->linesL (a++10::b)=a::linesL b
 | [],b,_=>by simp[linesL]
 | x::a,b,h=>by
   rw[List.cons_append,linesL,if_neg (h x (by simp)),zfv a b fun y hy=>h y (by simp[hy])]
theorem zek:∀ l:List UInt8,Lib.splitK [10] 0 (Lib.count l [10]) l=linesL l
 | []=>by rw[show Lib.count [] [10]=0 from Lib.count_miss (by simp[Lib.index])];rfl
 | b::l=>by
   by_cases h:b=10
   . subst h;have hix:Lib.index (10::l) [10]=0:=(by rw[Lib.index];simp[List.isPrefixOf]);rw[Lib.count_cons_eq,Nat.add_comm,linesL,if_pos rfl,Lib.splitK,hix];simp only[Int.toNat_zero,Nat.zero_add,List.take_zero,List.length_singleton,List.drop_succ_cons,List.drop_zero];rw[if_neg (by decide),zek l]
   . have hp:([10]:List UInt8).isPrefixOf (b::l)=false:=(by simp[List.isPrefixOf,Ne.symm h]);have hix:Lib.index (b::l) [10]=if Lib.index l [10] == -1 then -1 else Lib.index l [10]+1:=by rw[Lib.index,hp];simp
     have ih:=zek l;rw[Lib.count_cons_ne b 10 l h,linesL,if_neg h];cases hk:Lib.count l [10] with
     | zero=>rw[hk] at ih;rw[Lib.splitK] at ih ⊢;rw[←ih]
     | succ k =>
       rw[hk] at ih;rw[Lib.splitK] at ih ⊢
       by_cases hm:Lib.index l [10] = -1
       . rw[hix,hm];rw[hm] at ih;simp only[beq_self_eq_true,if_true] at ih ⊢;rw[←ih]
       . have hge:=Lib.index_ge l [10];have hm':(Lib.index l [10] == -1)=false:=beq_eq_false_iff_ne.2 hm;rw[hix];simp only[hm',Bool.false_eq_true,if_false] at ih ⊢;have h2:(Lib.index l [10]+1 == -1)=false:=beq_eq_false_iff_ne.2 (by omega);simp only[h2,Bool.false_eq_true,if_false];rw[←ih];have e1:(Lib.index l [10]+1).toNat=(Lib.index l [10]).toNat+1:=(by omega);simp only[e1,List.length_singleton];simp only[Nat.add_zero,List.take_succ_cons,List.drop_succ_cons,List.length_singleton]
theorem zny (s:ByteArray) (k:Nat) (h:k<s.size):∃ b:UInt8,s.data.toList.drop k=b::s.data.toList.drop (k+1)∧bt s k=b.toNat:=by
 have hl:k<s.data.toList.length:=(by simpa using h);exact⟨_,List.drop_eq_getElem_cons hl,zh2 s k _ (List.getElem?_eq_getElem hl)⟩
theorem zbo (s:ByteArray) (a b:Nat):(s.extract a b).data.toList=(s.data.toList.drop a).take (b-a):=by
 rw[ByteArray.data_extract,Array.toList_extract]
theorem zjy (s:ByteArray):∀ k,k<=s.size->(doneI s k).map (fun x=>x.data.toList)++linesL (s.data.toList.drop (fromI s k))=linesL s.data.toList∧∀ j,fromI s k<=j->j<k->bt s j≠10
 | 0,_=>⟨by simp[doneI,fromI],fun j h1 h2=>by omega⟩
 | k+1,hk=>by
   obtain⟨ih1,ih2⟩:=zjy s k (by omega);rw[doneI,fromI];have hf:=zec s k
   by_cases h:bt s k=10
   . rw[if_pos h,if_pos h];refine⟨?_,fun j h1 h2=>by omega⟩;rw[List.map_append,List.append_assoc,←ih1]
     congr 1
     obtain⟨b,hb,hv⟩:=zny s k (by omega);have hb10:b=10:=by
       have:b.toNat=10:=by omega
       exact UInt8.toNat_inj.1 this
     have hsp:s.data.toList.drop (fromI s k)=(s.extract (fromI s k) k).data.toList++10::s.data.toList.drop (k+1):=by
       rw[zbo,←hb10,←hb]
       conv=>lhs;rw[←List.take_append_drop (k-fromI s k) (s.data.toList.drop (fromI s k))]
       rw[List.drop_drop,show fromI s k+(k-fromI s k)=k by omega]
     rw[hsp,zfv]
     . rfl
     . intro x hx;rw[zbo] at hx;obtain⟨i,hi,e⟩:=List.getElem_of_mem hx;have hi':i<k-fromI s k:=by
         have:=hi;rw[List.length_take] at this;omega
       have hj:s.data.toList[fromI s k+i]?=some x:=by
         rw[←List.getElem?_drop,←List.getElem?_take_of_lt hi',List.getElem?_eq_getElem hi,e]
       have:=zh2 s _ _ hj;intro h10;exact ih2 (fromI s k+i) (by omega) (by omega) (by rw[this,h10];rfl)
   . rw[if_neg h,if_neg h];exact⟨ih1,fun j h1 h2=>by rcases Nat.lt_succ_iff_lt_or_eq.1 h2 with h' | rfl;exact ih2 j h1 h';exact h⟩
theorem no_ten (s:ByteArray) (a b:Nat) (hab:a<=b) (hb:b<=s.size) (h:∀ j,a<=j->j<b->bt s j≠10):∀ x∈(s.extract a b).data.toList,x≠10:=by
 intro x hx;rw[zbo] at hx;obtain⟨i,hi,e⟩:=List.getElem_of_mem hx;have hi':i<b-a:=by
   have:=hi;rw[List.length_take] at this;omega
 have hj:s.data.toList[a+i]?=some x:=by
   rw[←List.getElem?_drop,←List.getElem?_take_of_lt hi',List.getElem?_eq_getElem hi,e]
 have:=zh2 s _ _ hj;intro h10;exact h (a+i) (by omega) (by omega) (by rw[this,h10];rfl)
theorem zil (s:ByteArray):(linesB s).map (fun x=>x.data.toList)=linesL s.data.toList:=by
 obtain⟨h1,h2⟩:=zjy s s.size (Nat.le_refl _);unfold linesB;rw[List.map_append,←h1]
 congr 1
 have hf:=zec s s.size;have hx:s.data.toList.drop (fromI s s.size)=(s.extract (fromI s s.size) s.size).data.toList:=by
   rw[zbo,List.take_of_length_le (by simp)]
 rw[hx,zho _ (no_ten s _ _ hf (Nat.le_refl _) h2)];rfl
theorem zdi:∀ {a b:List ByteArray},a.map (fun x=>x.data.toList)=b.map (fun x=>x.data.toList)->a=b
 | [],[],_=>rfl
 | [],_::_,h=>by simp at h
 | _::_,[],h=>by simp at h
 | x::a,y::b,h=>by
   simp only[List.map_cons,List.cons.injEq] at h;rw[zdj h.1,zdi h.2]
def nlT:ByteArray:=⟨#[10]⟩
theorem zj2 (s:ByteArray):Lib.splitB nlT 0 (Lib.countB s nlT) s=linesB s:=by
 refine zdi ?_;rw[Lib.splitB_data,zil];exact zek s.data.toList
def parseL:List ByteArray->Nat->List Ru->Except (Int×Nat) (List Ru)
 | [],_,acc => .ok acc
 | l::r,k,acc =>
   if l.size=0∨bt l 0=35 then parseL r (k+1) acc
   else match ruleT l with
     | none => .error (2,k)
     | some x=>if acc.any (fun y=>decide (y.name=x.name))=true then .error (8,k) else if acc.length=8 then .error (4,k) else parseL r (k+1) (acc++[x])
def parseR (s:ByteArray):Except (Int×Nat) (List Ru):=if 4000<s.size then .error (4,0) else parseL (linesB s) 0 []
theorem zdp:∀ (ls:List ByteArray) (k:Nat) (acc l:List Ru),acc.length<=8->parseL ls k acc = .ok l->l.length<=8
 | [],k,acc,l,ha,h=>by
   rw[parseL] at h;cases h;exact ha
 | x::r,k,acc,l,ha,h=>by
   rw[parseL] at h;split at h
   . exact zdp r _ _ _ ha h
   . split at h
     . cases h
     . split at h
       . cases h
       . split at h
         . cases h
         . exact zdp r _ _ _ (by simp;omega) h
theorem zcv {s:ByteArray} {l:List Ru} (h:parseR s = .ok l):l.length<=8:=by
 unfold parseR at h;split at h
 . cases h
 . exact zdp _ _ _ _ (by simp) h
def lineT (x:Ru):List UInt8:=x.name.data.toList++32::(x.pat.data.toList++32::(if x.luhn then luhnT else plainT).data.toList)
def showL:List Ru->List UInt8
 | []=>[]
 | x::l=>lineT x++10::showL l
section
open Go Go.RowKit
theorem za0 {w:World} {g:Nat} {o:Obj} (h:w.heap[g]?=some o):g<w.heap.size:=by
 rcases Nat.lt_or_ge g w.heap.size with hlt|hge
 . exact hlt
 . rw[Array.getElem?_eq_none hge] at h;cases h
theorem zal {w w':World} {B e size n:Nat} {v:Value} {xs:List Value} (h:w.ownsRow B e size v n xs) (hb:Below w.heap.size w w'):w'.ownsRow B e size v n xs:=by
 refine⟨h.1,?_⟩;rcases h.2 with h0|⟨g,cap,cur,hv,hB,hh,r⟩
 . exact Or.inl h0
 . exact Or.inr ⟨g,cap,cur,hv,hB,(hb.block g (za0 hh)).trans hh,r⟩
theorem zd6 {w:World} {B B' e size n:Nat} {v:Value} {xs:List Value} (h:w.ownsRow B e size v n xs) (hB:B'<=B):w.ownsRow B' e size v n xs:=by
 refine⟨h.1,?_⟩;rcases h.2 with h0|⟨g,cap,cur,hv,hg,r⟩
 . exact Or.inl h0
 . exact Or.inr ⟨g,cap,cur,hv,by omega,r⟩
theorem gro {w a b:World} (h:Below w.heap.size w a) (hb:Below a.heap.size a b):Below w.heap.size w b:=h.trans (hb.mono h.size)
theorem gro1 {w a b:World} {o:Obj} (h:Below w.heap.size w a) (hb:Below (a.alloc o).heap.size (a.alloc o) b):Below w.heap.size w b:=gro (h.alloc h.size o) hb
theorem zaf {w w1:World} (h:Below w.drew.heap.size w.drew w1):Below w.heap.size w w1:=⟨h.os,h.tape,h.output,h.size,h.block⟩
theorem za4 {w w1:World} {a:Addr} {v:Value} (h:w.cell? a=some v) (hb:Below w.heap.size w w1):w1.cell? a=some v:=(hb.cell (World.block_lt_of_cell? w a h)).trans h
def RdB (w:World) (B:Nat) (A:Option Addr) (xs:List Int):Prop:=
 ∀ k,k<xs.length->∃ b off,A=some ⟨b,off,none⟩∧b<B∧w.cell? ⟨b,off+k,none⟩=some (.int .u8 (xs.getD k 0))
section
variable {w w':World} {B B':Nat} {A:Option Addr} {xs:List Int}
theorem RdB.below (h:RdB w B A xs) (hb:Below B w w'):RdB w' B A xs:=fun k hk=>by
 obtain⟨b,off,e,hB,hc⟩:=h k hk;exact⟨b,off,e,hB,(hb.cell (p:=⟨b,off+k,none⟩) hB).trans hc⟩
theorem RdB.more (h:RdB w B A xs) (hB:B<=B'):RdB w B' A xs:=fun k hk=>by
 obtain⟨b,off,e,hb,hc⟩:=h k hk;exact⟨b,off,e,by omega,hc⟩
theorem RdB.at (h:RdB w B A xs) {k:Nat} (hk:k<xs.length):∃ b off,A=some ⟨b,off,none⟩∧b<B∧∀ j,j<xs.length->w.cell? ⟨b,off+j,none⟩=some (.int .u8 (xs.getD j 0)):=by
 obtain⟨b,off,e,hB,_⟩:=h k hk;refine⟨b,off,e,hB,fun j hj=>?_⟩;obtain⟨b',off',e',_,hc⟩:=h j hj;rw[e] at e';injection e' with e'
 injection e' with e1 e2
 subst e1 e2;exact hc
theorem zj7 {base n:Nat} {e:TypeId} {v:Value} (h:w.ownsRow base e 1 v n (xs.map (Value.int .u8))):∃ A cap,v = .slice A n cap∧n=xs.length∧RdB w w.heap.size A xs∧(A=none->n=0∧cap=0):=by
 have hn:n=xs.length:=(by have:=h.1;simp at this;omega);rcases h.2 with ⟨rfl,rfl⟩|⟨g,cap,cur,rfl,hg,hh,hc,hm,hs,ht⟩
 . exact⟨none,0,rfl,hn,fun k hk=>by omega,fun _=>⟨rfl,rfl⟩⟩
 . refine⟨_,cap,rfl,hn,fun k hk=>⟨g,0,rfl,za0 hh,?_⟩,fun h=>by cases h⟩;rw[Nat.zero_add,cell_of_row w g k cur e (0,0) hh];have e1:(cur.toList.take (n*1))[k]?=(xs.map (Value.int .u8))[k]?:=(by rw[ht]);rw[List.getElem?_take_of_lt (by omega)] at e1;rw[←Array.getElem?_toList,e1];simp[List.getD_eq_getElem?_getD,List.getElem?_eq_getElem hk]
end
end
def bitsN (q:Nat->Bool):Nat->Nat
 | 0=>0
 | n+1=>(q 0).toNat+2*bitsN (fun j=>q (j+1)) n
theorem zh3:∀ (n:Nat) (q:Nat->Bool),bitsN q n<2 ^ n
 | 0,_=>by simp[bitsN]
 | n+1,q=>by
   have h:=zh3 n (fun j=>q (j+1));have:(q 0).toNat<=1:=by cases q 0 <;> simp
   rw[bitsN,Nat.pow_succ];omega
theorem zby:∀ (n:Nat) (q:Nat->Bool) (j:Nat),(bitsN q n).testBit j=(decide (j<n)&&q j)
 | 0,q,j=>by simp[bitsN]
 | n+1,q,0=>by
   rw[bitsN,Nat.testBit_zero];cases q 0 <;> simp <;> omega
 | n+1,q,j+1=>by
   have h:=zby n (fun j=>q (j+1)) j;rw[bitsN,Nat.testBit_add_one,show ((q 0).toNat+2*bitsN (fun j=>q (j+1)) n) / 2=bitsN (fun j=>q (j+1)) n by cases q 0 <;> simp <;> omega,h];simp
theorem zbi (n:Nat) (q r:Nat->Bool) (h:∀ j,j<n->q j=r j):bitsN q n=bitsN r n:=by
 apply Nat.eq_of_testBit_eq;intro j;rw[zby,zby]
 by_cases hj:j<n
 . simp[hj,h j hj]
 . simp[hj]
def wordN (p:Nat->Bool) (i:Nat):Nat:=bitsN (fun j=>p (64*i+j)) 64
def word (p:Nat->Bool) (i:Nat):Int:=(wordN p i:Int)
theorem zar (p:Nat->Bool) (i:Nat):wordN p i<18446744073709551616:=zh3 64 _
theorem zeh (p:Nat->Bool) (i:Nat):0<=word p i:=by unfold word;omega
theorem zm9 (p:Nat->Bool) (i:Nat):word p i<=18446744073709551615:=by have:=zar p i;unfold word;omega
theorem za9 (p:Nat->Bool) (i j:Nat):(wordN p i).testBit j=(decide (j<64)&&p (64*i+j)):=zby 64 _ j
theorem zbg (p q:Nat->Bool) (i:Nat) (h:∀ j,j<64->p (64*i+j)=q (64*i+j)):wordN p i=wordN q i:=zbi 64 _ _ h
theorem zay {p q:Nat->Bool} (h:∀ x,x<256->p x=q x) {i:Nat} (hi:i<4):word p i=word q i:=by
 unfold word;rw[zbg p q i fun j hj=>h _ (by omega)]
def add1 (p:Nat->Bool) (b:Nat):Nat->Bool:=fun x=>p x||x==b
def orP (p q:Nat->Bool):Nat->Bool:=fun x=>p x||q x
def notP (p:Nat->Bool):Nat->Bool:=fun x => !p x
def noneP:Nat->Bool:=fun _=>false
def rangeP (lo hi:Int):Nat->Bool:=fun x=>decide (lo<=x)&&decide ((x:Int)<=hi)
def memP (l:List Int):Nat->Bool:=fun x=>l.any fun y=>y==(x:Int)
theorem za6 (i:Nat):word noneP i=0:=by
 have:wordN noneP i=0:=by
   apply Nat.eq_of_testBit_eq;intro j;rw[za9];simp[noneP]
 simp[word,this]
theorem zbc {n:Int} (h0:0<=n) (h1:n<=18446744073709551615):IntKind.u64.wrap n=n:=by
 simp[IntKind.wrap,IntKind.bits,IntKind.signed];omega
theorem zja (b:Int) (h0:0<=b):((2:Int) ^ (b % 64).toNat)=((2 ^ (b % 64).toNat:Nat):Int)∧2 ^ (b % 64).toNat<18446744073709551616:=by
 refine⟨by simp,?_⟩;have:(b % 64).toNat<=63:=by omega
 have h:=Nat.pow_le_pow_right (n:=2) (by omega) this;have e:(2:Nat) ^ 63=9223372036854775808:=(by decide);omega
theorem zgv (p:Nat->Bool) (b:Int) (h0:0<=b) (h1:b<=255):
   (bits .and .u64 (word p (b / 64).toNat / 2 ^ (b % 64).toNat) 1==1)=p b.toNat:=by
 have e:=(zja b h0).1;have lt:wordN p (b / 64).toNat / 2 ^ (b % 64).toNat<18446744073709551616:=Nat.lt_of_le_of_lt (Nat.div_le_self _ _) (zar _ _);unfold word;rw[e,←Int.natCast_ediv,show (1:Int)=((1:Nat):Int) from rfl,bits_and_u64_nat _ _ lt (by omega)];have t:=za9 p (b / 64).toNat (b % 64).toNat;rw[Nat.testBit_eq_decide_div_mod_eq] at t;have hm:(b % 64).toNat<64:=(by omega);have hx:64*(b / 64).toNat+(b % 64).toNat=b.toNat:=(by omega);rw[hx] at t;simp only[hm,decide_true,Bool.true_and] at t;rw[←t,Nat.and_one_is_mod];generalize wordN p (b / 64).toNat / 2 ^ (b % 64).toNat=m;rw[Bool.eq_iff_iff,beq_iff_eq,decide_eq_true_iff];omega
theorem zrt (p:Nat->Bool) (b:Int) (h0:0<=b) (h1:b<=255):
   ((word p (b / 64).toNat / 2 ^ (b % 64).toNat).tmod 2==1)=p b.toNat:=by
 have e:=(zja b h0).1;unfold word;rw[e,←Int.natCast_ediv];have t:=za9 p (b / 64).toNat (b % 64).toNat;rw[Nat.testBit_eq_decide_div_mod_eq] at t;have hm:(b % 64).toNat<64:=(by omega);have hx:64*(b / 64).toNat+(b % 64).toNat=b.toNat:=(by omega);rw[hx] at t;simp only[hm,decide_true,Bool.true_and] at t;rw[←t];generalize wordN p (b / 64).toNat / 2 ^ (b % 64).toNat=m;rw[Int.tmod_eq_emod_of_nonneg (by omega),Bool.eq_iff_iff,beq_iff_eq,decide_eq_true_iff];omega
theorem zdx (p:Nat->Bool) (b:Nat) (i:Nat) (hi:i≠b / 64):word (add1 p b) i=word p i:=by
 unfold word;rw[zbg (add1 p b) p i fun j hj=>?_];have:¬ (64*i+j=b):=by omega
 simp[add1,this]
theorem zg8 (p:Nat->Bool) (b:Nat):wordN (add1 p b) (b / 64)=wordN p (b / 64) ||| 2 ^ (b % 64):=by
 apply Nat.eq_of_testBit_eq;intro j;rw[Nat.testBit_or,za9,za9,Nat.testBit_two_pow]
 by_cases hj:j<64
 . have:(64*(b / 64)+j==b)=decide (b % 64=j):=by
     rw[Bool.eq_iff_iff];simp;omega
   simp[hj,add1,this]
 . have:¬ (b % 64=j):=by omega
   simp[hj,this]
theorem zsc (p:Nat->Bool) (b:Int) (h0:0<=b) (h1:b<=255):
   bits .or .u64 (word p (b / 64).toNat) (IntKind.u64.wrap (2 ^ (b % 64).toNat))=word (add1 p b.toNat) (b / 64).toNat:=by
 obtain⟨e,lt⟩:=zja b h0;unfold word;have wr:IntKind.u64.wrap ((2 ^ (b % 64).toNat:Nat):Int)=((2 ^ (b % 64).toNat:Nat):Int):=by
   generalize 2 ^ (b % 64).toNat=m at lt ⊢;exact zbc (by omega) (by omega)
 rw[e,wr,bits_or_u64_nat _ _ (zar _ _) lt];have hd:(b / 64).toNat=b.toNat / 64:=(by omega);have hm:(b % 64).toNat=b.toNat % 64:=(by omega);rw[hd,hm,zg8]
theorem zhz:∀ (n:Nat) (q:Nat->Bool) (b:Nat),b<n->q b=false->bitsN (fun j=>q j||j==b) n=bitsN q n+2 ^ b
 | n+1,q,0,_,hq=>by
   have e:bitsN (fun j=>(q (j+1)||j+1==0)) n=bitsN (fun j=>q (j+1)) n:=zbi _ _ _ fun j _=>by simp
   simp only[bitsN,e,hq];simp;omega
 | n+1,q,b+1,hb,hq=>by
   have h:=zhz n (fun j=>q (j+1)) b (by omega) hq;have e:bitsN (fun j=>(q (j+1)||j+1==b+1)) n=bitsN (fun j=>(q (j+1)||j==b)) n:=zbi _ _ _ fun j _=>by simp
   have e0:(q 0||0==b+1)=q 0:=(by simp);simp only[bitsN,e,e0,h,Nat.pow_succ];omega
theorem zqm (p:Nat->Bool) (b:Int) (h0:0<=b) (h1:b<=255) (hp:p b.toNat=false):
   IntKind.u64.wrap (word p (b / 64).toNat+IntKind.u64.wrap (2 ^ (b % 64).toNat))=word (add1 p b.toNat) (b / 64).toNat:=by
 obtain⟨e,lt⟩:=zja b h0;have key:wordN (add1 p b.toNat) (b / 64).toNat=wordN p (b / 64).toNat+2 ^ (b % 64).toNat:=by
   have hx:64*(b / 64).toNat+(b % 64).toNat=b.toNat:=(by omega);have h:=zhz 64 (fun j=>p (64*(b / 64).toNat+j)) (b % 64).toNat (by omega) (by rw[hx];exact hp);unfold wordN;rw[←h];apply zbi;intro j hj;have:(64*(b / 64).toNat+j==b.toNat)=(j==(b % 64).toNat):=by
     rw[Bool.eq_iff_iff];simp;omega
   simp[add1,this]
 have bd:=zar (add1 p b.toNat) (b / 64).toNat;unfold word;rw[e,key];generalize 2 ^ (b % 64).toNat=m at *;rw[zbc (n:=(m:Int)) (by omega) (by omega),zbc (by omega) (by omega)];omega
theorem zd7 (p q:Nat->Bool) (i:Nat):bits .or .u64 (word p i) (word q i)=word (orP p q) i:=by
 unfold word;have e:wordN p i ||| wordN q i=wordN (orP p q) i:=by
   apply Nat.eq_of_testBit_eq;intro j;rw[Nat.testBit_or,za9,za9,za9];cases decide (j<64) <;> simp[orP]
 rw[bits_or_u64_nat _ _ (zar _ _) (zar _ _),e]
theorem zd9 (p:Nat->Bool) (i:Nat):bits .xor .u64 18446744073709551615 (word p i)=word (notP p) i:=by
 have e:(2 ^ 64-1) ^^^ wordN p i=wordN (notP p) i:=by
   apply Nat.eq_of_testBit_eq;intro j;rw[Nat.testBit_xor,za9,za9,Nat.testBit_two_pow_sub_one];cases decide (j<64) <;> simp[notP]
 have h:=bits_xor_u64_nat (2 ^ 64-1) (wordN p i) (by decide) (zar _ _);rw[e] at h;exact h
section
open Go Go.RowKit
def setV (p:Nat->Bool):Value := .agg #[.int .u64 (word p 0),.int .u64 (word p 1),.int .u64 (word p 2),.int .u64 (word p 3)]
theorem zbu {p q:Nat->Bool} (h:∀ x,x<256->p x=q x):setV p=setV q:=by
 unfold setV;rw[zay h (i:=0) (by omega),zay h (i:=1) (by omega),zay h (i:=2) (by omega),zay h (i:=3) (by omega)]
def Box4 (w:World) (g:Nat) (p:Nat->Bool):Prop:=w.heap[g]?=some (.cells #[.int .u64 (word p 0),.int .u64 (word p 1),.int .u64 (word p 2),.int .u64 (word p 3)] 38 (0,0))
section
variable {w w':World} {g B:Nat} {p q:Nat->Bool}
theorem Box4.cell (h:Box4 w g p):
   w.cell? ⟨g,0,none⟩=some (.int .u64 (word p 0))∧w.cell? ⟨g,1,none⟩=some (.int .u64 (word p 1))∧w.cell? ⟨g,2,none⟩=some (.int .u64 (word p 2))∧w.cell? ⟨g,3,none⟩=some (.int .u64 (word p 3)):=by
 unfold Box4 at h;refine⟨?_,?_,?_,?_⟩ <;> exact cell_of_row w g _ _ 38 (0,0) h
theorem Box4.frozen (h:Box4 w g p):
   w.frozen? ⟨g,0,none⟩=false∧w.frozen? ⟨g,1,none⟩=false∧w.frozen? ⟨g,2,none⟩=false∧w.frozen? ⟨g,3,none⟩=false:=by
 unfold Box4 at h;refine⟨?_,?_,?_,?_⟩ <;> simp[World.frozen?,h]
theorem Box4.below (h:Box4 w g p) (hb:Below B w w') (hg:g<B):Box4 w' g p:=(hb.block g hg).trans h
theorem Box4.lt (h:Box4 w g p):g<w.heap.size:=za0 h
theorem Box4.stays (h:Box4 w g p) (hb:Below w.heap.size w w'):Box4 w' g p:=h.below hb h.lt
theorem Box4.alloc (h:Box4 w g p) (o:Obj):Box4 (w.alloc o) g p:=(Below.heap_alloc w o g h.lt).trans h
theorem Box4.grown {row:Option Nat} (h:Box4 w g p) (hb:w.grownBy w' row) (hg:some g≠row):Box4 w' g p:=(hb.block g h.lt hg).trans h
theorem Box4.far (h:Box4 w g p) {a:Addr} (ha:g≠a.block) (u:Value):Box4 (w.setCell a u) g p:=(Below.heap_setCell w a u g ha).trans h
theorem Box4.new (w:World) (p:Nat->Bool):Box4 (w.alloc (.cells #[.int .u64 (word p 0),.int .u64 (word p 1),.int .u64 (word p 2),.int .u64 (word p 3)] 38)) w.heap.size p:=heap_alloc_new w _
theorem Box4.new0 (w:World):Box4 (w.alloc (.cells #[.int .u64 0,.int .u64 0,.int .u64 0,.int .u64 0] 38)) w.heap.size noneP:=by
 have h:=Box4.new w noneP
 simpa only [za6] using h
theorem Box4.congr (h:Box4 w g p) (hq:∀ x,x<256->p x=q x):Box4 w g q:=by
 unfold Box4 at h ⊢
 rwa [←zay hq (i:=0) (by omega),←zay hq (i:=1) (by omega),←zay hq (i:=2) (by omega),←zay hq (i:=3) (by omega)]
def put4 (w:World) (g:Nat) (q:Nat->Bool):World:=
 (((w.setCell ⟨g,0,none⟩ (.int .u64 (word q 0))).setCell ⟨g,1,none⟩ (.int .u64 (word q 1))).setCell ⟨g,2,none⟩ (.int .u64 (word q 2))).setCell ⟨g,3,none⟩ (.int .u64 (word q 3))
theorem Box4.put (h:Box4 w g p) (q:Nat->Bool):Box4 (put4 w g q) g q:=by
 unfold Box4 put4 at *;simp[World.setCell,Array.getElem?_modify,h]
theorem Box4.set1 (h:Box4 w g p) (i:Nat) (hi:i<4) (hq:∀ j,j≠i->word q j=word p j):Box4 (w.setCell ⟨g,i,none⟩ (.int .u64 (word q i))) g q:=by
 unfold Box4 at *
 match i,hi with
 | 0,_=>rw[hq 1 (by omega),hq 2 (by omega),hq 3 (by omega)];simp[World.setCell,Array.getElem?_modify,h]
 | 1,_=>rw[hq 0 (by omega),hq 2 (by omega),hq 3 (by omega)];simp[World.setCell,Array.getElem?_modify,h]
 | 2,_=>rw[hq 0 (by omega),hq 1 (by omega),hq 3 (by omega)];simp[World.setCell,Array.getElem?_modify,h]
 | 3,_=>rw[hq 0 (by omega),hq 1 (by omega),hq 2 (by omega)];simp[World.setCell,Array.getElem?_modify,h]
theorem Box4.drew (h:Box4 w g p):Box4 w.drew g p:=h
theorem Box4.putFar {g':Nat} (h:Box4 w g p) (hg:g≠g') (q:Nat->Bool):Box4 (put4 w g' q) g p:=
 (((h.far (a:=⟨g',0,none⟩) hg _).far (a:=⟨g',1,none⟩) hg _).far (a:=⟨g',2,none⟩) hg _).far (a:=⟨g',3,none⟩) hg _
theorem zac {a:World} (h:Below B a w) (hg:B<=g) (q:Nat->Bool):Below B a (put4 w g q):=
 (((h.setCell (p:=⟨g,0,none⟩) hg _).setCell (p:=⟨g,1,none⟩) hg _).setCell (p:=⟨g,2,none⟩) hg _).setCell (p:=⟨g,3,none⟩) hg _
end
end
section
open Go Go.RowKit
def cntN (q:Nat->Bool):Nat->Nat
 | 0=>0
 | n+1=>(q 0).toNat+cntN (fun j=>q (j+1)) n
def msk (c:Nat):Nat->Nat
 | 0=>0
 | n+1=>c+256*msk c n
def sumA (n x:Nat):Nat:=(x / 2 &&& msk 85 n)+(x &&& msk 85 n)
def sumB (n x:Nat):Nat:=(x / 4 &&& msk 51 n)+(x &&& msk 51 n)
def sumC (n x:Nat):Nat:=(x / 16+x) &&& msk 15 n
def a8 (b:Nat):Nat:=(b / 2 &&& 85)+(b &&& 85)
def b8 (b:Nat):Nat:=(b / 4 &&& 51)+(b &&& 51)
def c8 (b:Nat):Nat:=(b / 16+b) &&& 15
theorem zo2:∀ (n:Nat) (q:Nat->Bool),cntN q n<=n
 | 0,_=>by simp[cntN]
 | n+1,q=>by
   have h:=zo2 n (fun j=>q (j+1));have:(q 0).toNat<=1:=by cases q 0 <;> simp
   rw[cntN];omega
theorem zg4:∀ (n:Nat) (q r:Nat->Bool),(∀ j,j<n->q j=r j)->cntN q n=cntN r n
 | 0,_,_,_=>rfl
 | n+1,q,r,h=>by rw[cntN,cntN,h 0 (by omega),zg4 n _ _ fun j hj=>h (j+1) (by omega)]
theorem zk2:∀ (m n:Nat) (q:Nat->Bool),cntN q (m+n)=cntN q m+cntN (fun j=>q (m+j)) n
 | 0,n,q=>by simp[cntN]
 | m+1,n,q=>by
   have e:cntN (fun j=>q (m+j+1)) n=cntN (fun j=>q (m+1+j)) n:=zg4 _ _ _ fun j _=>by congr 1;omega
   rw[show m+1+n=(m+n)+1 by omega,cntN,cntN,zk2 m n,e];omega
def st1 (a:Int):Int:=IntKind.u64.wrap (bits .and .u64 (a / 2) 6148914691236517205+bits .and .u64 a 6148914691236517205)
def st2 (a:Int):Int:=IntKind.u64.wrap (bits .and .u64 (a / 4) 3689348814741910323+bits .and .u64 a 3689348814741910323)
def st3 (a:Int):Int:=bits .and .u64 (IntKind.u64.wrap (a / 16+a)) 1085102592571150095
def st4 (a:Int):Int:=IntKind.u64.wrap (a+a / 256)
def st5 (a:Int):Int:=IntKind.u64.wrap (a+a / 65536)
def st6 (a:Int):Int:=IntKind.u64.wrap (a+a / 4294967296)
def st7 (a:Int):Int:=bits .and .i64 (wrap64 a) 127
end
section
open Go Go.RowKit
theorem zg9 (p:Nat->Bool) (b:Int) (h0:0<=b) (h1:b<=255):
   [Value.int .u64 (word p 0),.int .u64 (word p 1),.int .u64 (word p 2),.int .u64 (word p 3)][(b / 64).toNat]?=some (.int .u64 (word p (b / 64).toNat)):=by
 have:(b / 64).toNat<4:=by omega
 match h:(b / 64).toNat,this with
 | 0,_=>rfl
 | 1,_=>rfl
 | 2,_=>rfl
 | 3,_=>rfl
theorem zpi (xs:List Int) (k:Nat) (hk:k<xs.length) (h0:0<=xs.getD k 0) (x:Nat):add1 (memP (xs.take k)) (xs.getD k 0).toNat x=memP (xs.take (k+1)) x:=by
 unfold add1 memP;rw[List.take_succ_eq_append_getElem hk,List.any_append];rw[List.getD_eq_getElem?_getD,List.getElem?_eq_getElem hk] at *;simp only[List.any_cons,List.any_nil,Bool.or_false,Option.getD_some] at *
 congr 1
 rw[Bool.eq_iff_iff];simp;omega
def listP (p:Nat->Bool) (k:Nat):List Int:=((List.range k).filter p).map fun x:Nat=>(x:Int)
theorem zev (p:Nat->Bool) (k:Nat) (h:p k=true):listP p (k+1)=listP p k++[(k:Int)]:=by
 unfold listP;rw[List.range_succ,List.filter_append,List.map_append];simp[h]
theorem zdt (p:Nat->Bool) (k:Nat) (h:p k=false):listP p (k+1)=listP p k:=by
 unfold listP;rw[List.range_succ,List.filter_append,List.map_append];simp[h]
theorem zeu:∀ (p:Nat->Bool) (k:Nat),(listP p k).length=cntN p k
 | p,0=>rfl
 | p,k+1=>by
   rw[zk2 k 1];cases h:p k
   . rw[zdt p k h,zeu p k];simp[cntN,h]
   . rw[zev p k h,List.length_append,zeu p k];simp[cntN,h]
theorem zdb (p:Nat->Bool) (k:Nat):(listP p k).length<=k:=by rw[zeu];exact zo2 _ _
theorem zca (p:Nat->Bool) (k:Nat) (v:Int):v∈listP p k↔0<=v∧v<k∧p v.toNat=true:=by
 unfold listP;simp only[List.mem_map,List.mem_filter,List.mem_range];constructor
 . rintro⟨x,⟨h1,h2⟩,rfl⟩;exact⟨by omega,by omega,by simpa using h2⟩
 . rintro⟨h0,h1,h2⟩;exact⟨v.toNat,⟨by omega,h2⟩,by omega⟩
theorem znf (p:Nat->Bool) (k:Nat) (hk:k<=256):∀ j,j<(listP p k).length->0<=(listP p k).getD j 0∧(listP p k).getD j 0<=255:=by
 intro j hj;have:(listP p k).getD j 0∈listP p k:=by
   rw[List.getD_eq_getElem?_getD,List.getElem?_eq_getElem hj];exact List.getElem_mem hj
 have:=(zca p k _).1 this;omega
theorem znd (p:Nat->Bool) (k x:Nat) (hx:x<k):memP (listP p k) x=p x:=by
 unfold memP;rw[Bool.eq_iff_iff,List.any_eq_true];constructor
 . rintro⟨v,hv,e⟩;have:=(zca p k v).1 hv;have e':v=(x:Int):=(by simpa using e);subst e'
   simpa using this.2.2
 . intro h;exact⟨(x:Int),(zca p k _).2 ⟨by omega,by omega,by simpa using h⟩,by simp⟩
def allP (p:Nat->Bool):List Int:=listP p 256
theorem zqj (p:Nat->Bool):∀ j,j<(allP p).length->0<=(allP p).getD j 0∧(allP p).getD j 0<=255:=znf p 256 (by omega)
theorem zs9 (p:Nat->Bool):(allP p).length<=9223372036854775807:=by have:=zdb p 256;unfold allP;omega
theorem zgq (p:Nat->Bool) (x:Nat) (hx:x<256):memP (allP p) x=p x:=znd p 256 x hx
theorem Tryz.infoByte:(Tryz.prog.info? 5).map (fun i=>(i.zero,i.size,i.bytes))=some (some (.int .u8 0),1,1):=by kernel_rfl
theorem zmt (w:World) (v:Int):RdB (w.alloc (.cells #[.int .u8 v] 5)) (w.alloc (.cells #[.int .u8 v] 5)).heap.size (some ⟨w.heap.size,0,none⟩) [v]:=by
 intro k hk;have:k=0:=by simp at hk;omega
 subst this;exact⟨w.heap.size,0,rfl,by simp,by simp⟩
end
section
open Go Go.RowKit
section
variable {P:Program} (w:World)
theorem zr9 (t ty:TypeId) (base:Nat) (e:TypeId) (i:TypeInfo) (z:Value) (size bytes:Nat) (ht:P.underlying t=some (.slice e)) (hi:P.info? e=some i) (hz:i.zero=some z)
   (hsize:i.size=size) (hby:i.bytes=bytes) (hzs:z.cells.size=size) (hsz:0<size)
   (v:Value) (n:Nat) (xs:List Value) (hown:w.ownsRow base e size v n xs)
   (A:Option Addr) (m c:Nat) (news:List Value) (hl:news.length=m*size) (hnil:A=none->m=0) (hnews:∀ ad,A=some ad->∀ j u,news[j]?=some u->w.cell? (ad.add j)=some u) (h1:∀ u∈news,u.oneCell'=true)
   (h63:n+m<=maxLen) (hbytes:(n+m)*bytes<=140737488355328) (hbase:base<=w.heap.size):
   ∃ v' w',(Builtin.append_ #[t,t] ty #[v,.slice A m c]).run P w = .ok v' w'∧w'.ownsRow base e size v' (n+m) (xs++news)∧w.grownBy w' v.ownBlock:=by
 cases A with
 | none =>
   have hm:=hnil rfl;subst hm;have hn:news=[]:=List.eq_nil_of_length_eq_zero (by simpa using hl);subst hn;refine⟨v,w,?_,by simpa using hown,⟨rfl,rfl,rfl,Nat.le_refl _,fun _ _ _=>rfl⟩⟩;rcases hown.2 with ⟨rfl,rfl⟩|⟨g,cap,cur,rfl,_,_,hnc,_⟩
   . simp[Builtin.append_,run_underlying ht,sizeOf,typeInfo,hi,Builtin.lenOf,Builtin.firstCells]
   . simp[Builtin.append_,run_underlying ht,sizeOf,typeInfo,hi,Builtin.lenOf,Builtin.firstCells,hnc,storeCells]
 | some ad =>
   obtain⟨v',w',hr,h2,h3,_⟩:=run_append_own_at (P:=P) w base t ty e i z size bytes ht hi hz hsize hby hzs hsz v n xs hown ad m c news hl (hnews ad rfl) h1 h63 hbytes hbase;exact⟨v',w',hr,h2,h3⟩
theorem wp_app {o:Oper} {a:Act} {K:Act->World->Prop} {Q:Exit->Act->World->Prop} (s x:Operand) (t:TypeId)
   (ho:o.op = .call {callee := .builtin .append,args:=#[s,x],argTypes:=#[t,t]})
   (base:Nat) (e:TypeId) (i:TypeInfo) (z:Value) (size bytes:Nat) (ht:P.underlying t=some (.slice e)) (hi:P.info? e=some i) (hz:i.zero=some z)
   (hsize:i.size=size) (hby:i.bytes=bytes) (hzs:z.cells.size=size) (hsz:0<size)
   (v:Value) (n:Nat) (xs:List Value) (hs:a.eval s=v) (hown:w.ownsRow base e size v n xs)
   (A:Option Addr) (m c:Nat) (news:List Value) (hx:a.eval x = .slice A m c) (hl:news.length=m*size) (hnil:A=none->m=0) (hnews:∀ ad,A=some ad->∀ j u,news[j]?=some u->w.cell? (ad.add j)=some u) (h1:∀ u∈news,u.oneCell'=true)
   (h63:n+m<=maxLen) (hbytes:(n+m)*bytes<=140737488355328) (hbase:base<=w.heap.size)
   (h:∀ v' w',w'.ownsRow base e size v' (n+m) (xs++news)->w.grownBy w' v.ownBlock->K (a.put o.dst v') w'):o.wp P a w K Q:=by
 obtain⟨v',w',hr,h2,h3⟩:=zr9 (P:=P) w t o.type base e i z size bytes ht hi hz hsize hby hzs hsz v n xs hown A m c news hl hnil hnews h1 h63 hbytes hbase;unfold Oper.wp execOp;simp only[ho,resolve,invoke,builtin,Sem.run_bind,Sem.run_pure,Result.andThen_ok,List.map_toArray,List.map_cons,List.map_nil,hs,hx,hr];exact h v' w' h2 h3
theorem zov {ops:Array Oper} {o:Oper} {a:Act} {K:Act->World->Prop} {Q:Exit->Act->World->Prop} {E:Prop} (hgd:o.guard=none) (s x:Operand) (t:TypeId)
   (ho:o.op = .call {callee := .builtin .append,args:=#[s,x],argTypes:=#[t,t]})
   (base:Nat) (e:TypeId) (i:TypeInfo) (z:Value) (size bytes:Nat) (ht:P.underlying t=some (.slice e)) (hi:P.info? e=some i) (hz:i.zero=some z)
   (hsize:i.size=size) (hby:i.bytes=bytes) (hzs:z.cells.size=size) (hsz:0<size)
   (v:Value) (n:Nat) (xs:List Value) (hs:a.eval s=v) (hown:w.ownsRow base e size v n xs)
   (A:Option Addr) (m c:Nat) (news:List Value) (hx:a.eval x = .slice A m c) (hl:news.length=m*size) (hnil:A=none->m=0) (hnews:∀ ad,A=some ad->∀ j u,news[j]?=some u->w.cell? (ad.add j)=some u) (h1:∀ u∈news,u.oneCell'=true)
   (h63:n+m<=maxLen) (hbytes:(n+m)*bytes<=140737488355328) (hbase:base<=w.heap.size)
   (h:∀ v' w',w'.ownsRow base e size v' (n+m) (xs++news)->w.grownBy w' v.ownBlock->K (a.put o.dst v') w'):
   if Region.wanted o (yielded ops a.tmps)=true then Oper.wp P o a w K Q else E:=by
 have hw:Region.wanted o (yielded ops a.tmps)=true:=(by simp[Region.wanted,hgd]);rw[if_pos hw];exact wp_app w s x t ho base e i z size bytes ht hi hz hsize hby hzs hsz v n xs hs hown A m c news hx hl hnil hnews h1 h63 hbytes hbase h
end
theorem zrl {w:World} {B:Nat} {A:Option Addr} {xs:List Int} (h:RdB w B A xs):∀ ad,A=some ad->∀ j u,(xs.map (Value.int .u8))[j]?=some u->w.cell? (ad.add j)=some u:=by
 intro ad hA j u hu;have hj:j<xs.length:=by
   rcases Nat.lt_or_ge j xs.length with h|h
   . exact h
   . rw[List.getElem?_eq_none (by simpa using h)] at hu;cases hu
 obtain⟨b,off,e,_,hc⟩:=h j hj;rw[hA] at e;injection e with e
 subst e;have hadd:(⟨b,off,none⟩:Addr).add j=⟨b,off+j,none⟩:=by unfold Addr.add;split <;> simp_all
 rw[hadd,hc];simp only[List.getElem?_map,List.getElem?_eq_getElem hj,Option.map_some,Option.some.injEq] at hu;rw[←hu,List.getD_eq_getElem?_getD,List.getElem?_eq_getElem hj];rfl
theorem zh1 (xs:List Int):∀ u∈xs.map (Value.int .u8),u.oneCell'=true:=by
 intro u hu;simp only[List.mem_map] at hu;obtain⟨x,_,rfl⟩:=hu;rfl
end
section
open Go Go.RowKit Go.Extern.Stop Go.Stop Go.Extern
def ErrT (w:World):Prop:=w.cell? ⟨0,0,none⟩=some (.iface 148 (.agg #[.pointer (some ⟨6,28,none⟩)]))
theorem ErrT.stays {w w':World} (h:ErrT w) (hb:Below w.heap.size w w'):ErrT w':=za4 h hb
theorem zip (t:Addr) (w:World):(ReflectliteValue.unpack (.iface 96 (.pointer (some t)))).run Tryz.prog w
   = .ok (.agg #[.pointer (some ⟨6,96,none⟩),.pointer (some ⟨w.heap.size,0,none⟩),.int .u64 150]) (w.alloc (.cells #[.pointer (some t)] 96)):=by kernel_rfl
theorem zps (a : Addr) (w : World) : (ReflectliteValue.methodAny (ReflectliteValue.valueError "reflectlite.Value.Type" 0) (fun t _ _ _ => ReflectliteType.toType t) #[.agg #[.pointer (some ⟨6, 96, none⟩), .pointer (some a), .int .u64 150]]).run Tryz.prog w
   = .ok (.iface 148 (.agg #[.pointer (some ⟨6,96,none⟩)])) w:=by kernel_rfl
theorem zpt (h : Value) (w : World) : (Go.method 318 148 (.agg #[h]) "Kind").run Tryz.prog w = .ok (160, h) w := by kernel_rfl
theorem zpv (w:World):((ReflectliteType.abiMethod fun t=>(fun a:Nat=>Value.int IntKind.u8 (a:Int)) <$> Rtype.kind t) #[.pointer (some ⟨6,96,none⟩)]).run Tryz.prog w = .ok (.int .u8 22) w:=by kernel_rfl
theorem zpw (w:World):((ReflectliteType.abiMethod fun t=>(fun a:Nat=>Value.int IntKind.u8 (a:Int)) <$> Rtype.kind t) #[.pointer (some ⟨6,71,none⟩)]).run Tryz.prog w = .ok (.int .u8 2) w:=by kernel_rfl
theorem zht (a:Addr) (w:World):(ReflectliteValue.parts (.agg #[.pointer (some ⟨6,96,none⟩),.pointer (some a),.int .u64 150])).run Tryz.prog w = .ok (some (96,a,150)) w:=by kernel_rfl
theorem znw (a p:Addr) (W:World) (ha:W.cell? a=some (.pointer (some p))):
   (ReflectliteValue.method (ReflectliteValue.valueError "reflectlite.Value.IsNil" 0) ReflectliteValue.isNil #[.agg #[.pointer (some ⟨6, 96, none⟩), .pointer (some a), .int .u64 150]]).run Tryz.prog W = .ok (.bool false) W := by
 change Sem.run _ (ReflectliteValue.parts (.agg #[.pointer (some ⟨6,96,none⟩),.pointer (some a),.int .u64 150]) >>= _) _=_;simp only[Sem.run_bind,zht,Result.andThen];simp[ReflectliteValue.isNil,loadVar,isAgg,underlying,Tryz.underlying96,ha,Result.andThen]
theorem zpu (h : Value) (w : World) : (Go.method 318 148 (.agg #[h]) "Elem").run Tryz.prog w = .ok (172, .agg #[h]) w := by kernel_rfl
theorem zff (h : Value) (w : World) : (Go.method 318 148 (.agg #[h]) "Implements").run Tryz.prog w = .ok (173, .agg #[h]) w := by kernel_rfl
theorem zc4 (h : Value) (w : World) : (Go.method 318 148 (.agg #[h]) "AssignableTo").run Tryz.prog w = .ok (170, .agg #[h]) w := by kernel_rfl
theorem zpx (w:World):(ReflectliteType.method ReflectliteType.elem #[.agg #[.pointer (some ⟨6,96,none⟩)]]).run Tryz.prog w = .ok (.iface 148 (.agg #[.pointer (some ⟨6,71,none⟩)])) w:=by kernel_rfl
theorem zfg (w : World) : (ReflectliteType.relation "Implements" ReflectliteType.implements_ #[.agg #[.pointer (some ⟨6, 71, none⟩)], .iface 148 (.agg #[.pointer (some ⟨6, 28, none⟩)])]).run Tryz.prog w = .ok (.bool true) w := by kernel_rfl
theorem zg1 (v:Value) (w:World):(ReflectliteType.typeOf #[.iface 71 v]).run Tryz.prog w = .ok (.iface 148 (.agg #[.pointer (some ⟨6,71,none⟩)])) w:=by kernel_rfl
theorem zg0 (v:Value) (w:World):(ReflectliteType.typeOf #[.iface 69 v]).run Tryz.prog w = .ok (.iface 148 (.agg #[.pointer (some ⟨6,69,none⟩)])) w:=by kernel_rfl
theorem zg3 (w : World) : (ReflectliteType.relation "AssignableTo" ReflectliteType.assignableTo #[.agg #[.pointer (some ⟨6, 71, none⟩)], .iface 148 (.agg #[.pointer (some ⟨6, 71, none⟩)])]).run Tryz.prog w = .ok (.bool true) w := by kernel_rfl
theorem zg2 (w : World) : (ReflectliteType.relation "AssignableTo" ReflectliteType.assignableTo #[.agg #[.pointer (some ⟨6, 69, none⟩)], .iface 148 (.agg #[.pointer (some ⟨6, 71, none⟩)])]).run Tryz.prog w = .ok (.bool false) w := by kernel_rfl
theorem zf3 (c:Int) (w:World):(ReflectliteValue.unpack (.iface 71 (.int .i64 c))).run Tryz.prog w
   = .ok (.agg #[.pointer (some ⟨6,71,none⟩),.pointer (some ⟨w.heap.size,0,none⟩),.int .u64 130]) (w.alloc (.cells #[.int .i64 c] 71)):=by kernel_rfl
theorem zlh (w:World):(Rtype.elem? 96).run Tryz.prog w = .ok (some 71) w:=by kernel_rfl
theorem ea_mkC (p:Addr) (w:World):(ReflectliteValue.mk 71 p ReflectliteValue.flagAddr).run Tryz.prog w = .ok (.agg #[.pointer (some ⟨6,71,none⟩),.pointer (some p),.int .u64 386]) w:=by kernel_rfl
theorem zjv (a p:Addr) (W:World) (ha:W.cell? a=some (.pointer (some p))):
   (ReflectliteValue.method (ReflectliteValue.valueError "reflectlite.Value.Elem" 0) ReflectliteValue.elem #[.agg #[.pointer (some ⟨6, 96, none⟩), .pointer (some a), .int .u64 150]]).run Tryz.prog W
     = .ok (.agg #[.pointer (some ⟨6,71,none⟩),.pointer (some p),.int .u64 386]) W:=by
 change Sem.run _ (ReflectliteValue.parts (.agg #[.pointer (some ⟨6,96,none⟩),.pointer (some a),.int .u64 150]) >>= _) _=_;simp only[Sem.run_bind,zht,Result.andThen];simp[ReflectliteValue.elem,loadVar,isAgg,underlying,Tryz.underlying96,ha,Result.andThen,zlh,ea_mkC]
theorem zlf (a:Addr) (w:World):(ReflectliteValue.parts (.agg #[.pointer (some ⟨6,71,none⟩),.pointer (some a),.int .u64 386])).run Tryz.prog w = .ok (some (71,a,386)) w:=by kernel_rfl
theorem znv (a:Addr) (w:World):(ReflectliteValue.parts (.agg #[.pointer (some ⟨6,71,none⟩),.pointer (some a),.int .u64 130])).run Tryz.prog w = .ok (some (71,a,130)) w:=by kernel_rfl
theorem znx (w:World):(Rtype.directlyAssignable 71 71).run Tryz.prog w = .ok true w:=by kernel_rfl
theorem zqq (ta b:Addr) (c:Int) (old:Value) (W:World) (hb:W.cell? b=some (.int .i64 c)) (ht:W.cell? ta=some old) (hf:W.frozen? ta=false):
   (ReflectliteValue.set #[.agg #[.pointer (some ⟨6,71,none⟩),.pointer (some ta),.int .u64 386],.agg #[.pointer (some ⟨6,71,none⟩),.pointer (some b),.int .u64 130]]).run Tryz.prog W
     = .ok (.tuple #[]) (W.setCell ta (.int .i64 c)):=by
 change Sem.run _ (ReflectliteValue.parts (.agg #[.pointer (some ⟨6,71,none⟩),.pointer (some ta),.int .u64 386]) >>= fun r=>ReflectliteValue.parts (.agg #[.pointer (some ⟨6,71,none⟩),.pointer (some b),.int .u64 130]) >>= _) _=_;simp only[Sem.run_bind,zlf,znv,Result.andThen];simp[ReflectliteValue.flagAddr,loadVar,isAgg,underlying,Tryz.underlying71,hb,Result.andThen,znx,storeVar,Value.cells,storeCells,Addr.add];rw[run_store Tryz.prog W ta _ _ (by rfl)];simp[ht,hf]
end
section
open Go Go.RowKit Go.Extern.Stop Go.Stop Go.Extern
theorem znu (gs:Nat) (a c:Int) (w:World) (h:w.heap[gs]?=some (.cells #[.int .i64 a,.int .i64 c] 73 (0,0))):
   Calls Tryz.prog 164 #[.pointer (some ⟨gs,0,none⟩)] w fun e w'=>e = .returned (.iface 71 (.int .i64 c))∧w=w':=by
 have c1:w.cell? ⟨gs,1,none⟩=some (.int .i64 c):=cell_of_row w gs _ _ 73 (0,0) h;go_enter Tryz.func164,Tryz.ntmps164;go_wp2;go_ret;exact⟨rfl,rfl⟩
theorem zpz (p:Value) (w:World):(Instr.typeAssert (.iface 69 p) 28 153 true).run Tryz.prog w = .ok (.tuple #[.nilIface,.bool false]) w:=run_typeAssert_lacksB Tryz.underlying153 (by kernel_rfl) (by kernel_rfl) p _ w
theorem zpy (p:Value) (w:World):(Instr.typeAssert (.iface 69 p) 28 156 true).run Tryz.prog w = .ok (.tuple #[.iface 69 p,.bool true]) w:=run_typeAssert_hasB Tryz.underlying156 (by kernel_rfl) p _ w
theorem zlg (p : Addr) (w : World) : (Go.method 318 69 (.pointer (some p)) "Unwrap").run Tryz.prog w = .ok (164, .pointer (some p)) w := by kernel_rfl
def asW (w:World) (a:Nat) (t:Nat) (c:Int):World:=((w.setCell ⟨t,0,none⟩ (.int .i64 c)).alloc (.cells #[.pointer (some ⟨6,96,none⟩),.pointer (some ⟨a,0,none⟩),.int .u64 150] 126)).alloc (.cells #[.int .i64 c] 71)
set_option maxHeartbeats 4000000 in
theorem zlj (c:Int) (a t:Nat) (old:Value) (w:World) (ha:w.cell? ⟨a,0,none⟩=some (.pointer (some ⟨t,0,none⟩))) (ht:w.cell? ⟨t,0,none⟩=some old) (hf:w.frozen? ⟨t,0,none⟩=false) (hal:a<w.heap.size) (htl:t<w.heap.size):
   Calls Tryz.prog 69 #[.iface 71 (.int .i64 c),.iface 96 (.pointer (some ⟨t,0,none⟩)),.agg #[.pointer (some ⟨6,96,none⟩),.pointer (some ⟨a,0,none⟩),.int .u64 150],.iface 148 (.agg #[.pointer (some ⟨6,71,none⟩)])] w fun e w'=>e = .returned (.bool true)∧w'=asW w a t c:=by
 have h90 := @run_callFunc_extern Tryz.prog 90 _ ReflectliteType.typeOf Tryz.func90 (by kernel_rfl) (by kernel_rfl) (by kernel_rfl) (by kernel_rfl);have h170 := @run_callFunc_extern Tryz.prog 170 _ (ReflectliteType.relation "AssignableTo" ReflectliteType.assignableTo) Tryz.func170 (by kernel_rfl) (by kernel_rfl) (by kernel_rfl) (by kernel_rfl);have h91 := @run_callFunc_extern Tryz.prog 91 _ (ReflectliteValue.method (ReflectliteValue.valueError "reflectlite.Value.Elem" 0) ReflectliteValue.elem) Tryz.func91 (by kernel_rfl) (by kernel_rfl) (by kernel_rfl) (by kernel_rfl);have h66 := @run_callFunc_extern Tryz.prog 66 _ (fun args=>ReflectliteValue.unpack (args.getD 0 (.tuple #[]))) Tryz.func66 (by kernel_rfl) (by kernel_rfl) (by kernel_rfl) (by kernel_rfl);have h92 := @run_callFunc_extern Tryz.prog 92 _ ReflectliteValue.set Tryz.func92 (by kernel_rfl) (by kernel_rfl) (by kernel_rfl) (by kernel_rfl);have tC:=zg1;have tS:=zg0;have mA:=zc4;have aC:=zg3;have aS:=zg2;have vC:=zf3;have el:=zjv ⟨a,0,none⟩ ⟨t,0,none⟩ (w.alloc (.cells #[.pointer (some ⟨6,96,none⟩),.pointer (some ⟨a,0,none⟩),.int .u64 150] 126)) (by rw [World.cell?_alloc_lt _ _ ⟨a,0,none⟩ hal];exact ha);have st:=zqq ⟨t,0,none⟩ ⟨w.heap.size+1,0,none⟩ c old ((w.alloc (.cells #[.pointer (some ⟨6,96,none⟩),.pointer (some ⟨a,0,none⟩),.int .u64 150] 126)).alloc (.cells #[.int .i64 c] 71))
   (by rw[World.cell?_alloc_at _ _ _ _ (by simp)];rfl)
   (by rw[World.cell?_alloc_lt _ _ ⟨t,0,none⟩ (by simp;omega),World.cell?_alloc_lt _ _ ⟨t,0,none⟩ htl];exact ht)
   (by rw[World.frozen?_alloc_old _ _ ⟨t,0,none⟩ (by simp;omega),World.frozen?_alloc_old _ _ ⟨t,0,none⟩ (Nat.ne_of_lt htl)];exact hf)
 unfold asW;go_enter Tryz.func69,Tryz.ntmps69;go_wp2;refine wp_loop_rounds 1 ?_;rw[rounds_succ];go_wp2;go_ret;exact⟨rfl,rfl⟩
set_option maxHeartbeats 4000000 in
theorem zli (gs:Nat) (x c:Int) (a t:Nat) (old:Value) (w:World) (hgs:w.heap[gs]?=some (.cells #[.int .i64 x,.int .i64 c] 73 (0,0))) (ha:w.cell? ⟨a,0,none⟩=some (.pointer (some ⟨t,0,none⟩))) (ht:w.cell? ⟨t,0,none⟩=some old) (hf:w.frozen? ⟨t,0,none⟩=false) (hal:a<w.heap.size) (htl:t<w.heap.size):
   Calls Tryz.prog 69 #[.iface 69 (.pointer (some ⟨gs,0,none⟩)),.iface 96 (.pointer (some ⟨t,0,none⟩)),.agg #[.pointer (some ⟨6,96,none⟩),.pointer (some ⟨a,0,none⟩),.int .u64 150],.iface 148 (.agg #[.pointer (some ⟨6,71,none⟩)])] w fun e w'=>e = .returned (.bool true)∧w'=asW w a t c:=by
 have h90 := @run_callFunc_extern Tryz.prog 90 _ ReflectliteType.typeOf Tryz.func90 (by kernel_rfl) (by kernel_rfl) (by kernel_rfl) (by kernel_rfl);have h170 := @run_callFunc_extern Tryz.prog 170 _ (ReflectliteType.relation "AssignableTo" ReflectliteType.assignableTo) Tryz.func170 (by kernel_rfl) (by kernel_rfl) (by kernel_rfl) (by kernel_rfl);have h91 := @run_callFunc_extern Tryz.prog 91 _ (ReflectliteValue.method (ReflectliteValue.valueError "reflectlite.Value.Elem" 0) ReflectliteValue.elem) Tryz.func91 (by kernel_rfl) (by kernel_rfl) (by kernel_rfl) (by kernel_rfl);have h66 := @run_callFunc_extern Tryz.prog 66 _ (fun args=>ReflectliteValue.unpack (args.getD 0 (.tuple #[]))) Tryz.func66 (by kernel_rfl) (by kernel_rfl) (by kernel_rfl) (by kernel_rfl);have h92 := @run_callFunc_extern Tryz.prog 92 _ ReflectliteValue.set Tryz.func92 (by kernel_rfl) (by kernel_rfl) (by kernel_rfl) (by kernel_rfl);have tC:=zg1;have tS:=zg0;have mA:=zc4;have aC:=zg3;have aS:=zg2;have vC:=zf3;have qA:=zpz;have qU:=zpy;have mU:=zlg;have el:=zjv ⟨a,0,none⟩ ⟨t,0,none⟩ (w.alloc (.cells #[.pointer (some ⟨6,96,none⟩),.pointer (some ⟨a,0,none⟩),.int .u64 150] 126)) (by rw [World.cell?_alloc_lt _ _ ⟨a,0,none⟩ hal];exact ha);have st:=zqq ⟨t,0,none⟩ ⟨w.heap.size+1,0,none⟩ c old ((w.alloc (.cells #[.pointer (some ⟨6,96,none⟩),.pointer (some ⟨a,0,none⟩),.int .u64 150] 126)).alloc (.cells #[.int .i64 c] 71))
   (by rw[World.cell?_alloc_at _ _ _ _ (by simp)];rfl)
   (by rw[World.cell?_alloc_lt _ _ ⟨t,0,none⟩ (by simp;omega),World.cell?_alloc_lt _ _ ⟨t,0,none⟩ htl];exact ht)
   (by rw[World.frozen?_alloc_old _ _ ⟨t,0,none⟩ (by simp;omega),World.frozen?_alloc_old _ _ ⟨t,0,none⟩ (Nat.ne_of_lt htl)];exact hf)
 have HG:=Zh ((Below.heap_alloc w (.cells #[.pointer (some ⟨6,96,none⟩),.pointer (some ⟨a,0,none⟩),.int .u64 150] 126) gs (za0 hgs)).trans hgs);unfold asW;go_enter Tryz.func69,Tryz.ntmps69;go_wp2;refine wp_loop_rounds 2 ?_;rw[rounds_succ];go_wp2_with (go_at_call 164;(with_reducible refine (znu gs x c _ HG.out).mono ?_);rintro e w' ⟨rfl,rfl⟩);rw[rounds_succ];go_wp2;go_ret;exact⟨rfl,rfl⟩
end
section
open Go Go.RowKit
theorem zru (p:Nat->Bool) (b:Nat):(bits .and .u64 (word p (b / 64) / 2 ^ (b % 64)) 1==1)=p b:=by
 have h:=zgv p (b % 64+64*0:Nat);have e:((2:Int) ^ (b % 64))=((2 ^ (b % 64):Nat):Int):=(by simp);have lt:wordN p (b / 64) / 2 ^ (b % 64)<18446744073709551616:=Nat.lt_of_le_of_lt (Nat.div_le_self _ _) (zar _ _);unfold word;rw[e,←Int.natCast_ediv,show (1:Int)=((1:Nat):Int) from rfl,bits_and_u64_nat _ _ lt (by omega)];have t:=za9 p (b / 64) (b % 64);rw[Nat.testBit_eq_decide_div_mod_eq] at t;have hm:b % 64<64:=(by omega);have hx:64*(b / 64)+b % 64=b:=(by omega);rw[hx] at t;simp only[hm,decide_true,Bool.true_and] at t;rw[←t,Nat.and_one_is_mod];generalize wordN p (b / 64) / 2 ^ (b % 64)=m;rw[Bool.eq_iff_iff,beq_iff_eq,decide_eq_true_iff];omega
theorem zp5 (k:Nat) (h:k<64):2 ^ k<18446744073709551616:=by
 have h:=Nat.pow_le_pow_right (n:=2) (by omega) (show k<=63 by omega);have e:(2:Nat) ^ 63=9223372036854775808:=(by decide);omega
theorem zsb (p:Nat->Bool) (b:Nat):bits .or .u64 (word p (b / 64)) (IntKind.u64.wrap (2 ^ (b % 64)))=word (add1 p b) (b / 64):=by
 have e:((2:Int) ^ (b % 64))=((2 ^ (b % 64):Nat):Int):=(by simp);have lt:=zp5 (b % 64) (by omega);have wr:IntKind.u64.wrap ((2 ^ (b % 64):Nat):Int)=((2 ^ (b % 64):Nat):Int):=by
   generalize 2 ^ (b % 64)=m at lt ⊢;exact zbc (by omega) (by omega)
 unfold word;rw[e,wr,bits_or_u64_nat _ _ (zar _ _) lt,zg8]
def minusP (p q:Nat->Bool):Nat->Bool:=fun x=>p x && !q x
theorem zij (p q:Nat->Bool) (i:Nat):bits .andNot .u64 (word p i) (word q i)=word (minusP p q) i:=by
 have h1:(BitVec.ofInt 64 ((wordN p i:Nat):Int)).toNat=wordN p i:=by
   rw[BitVec.ofInt_natCast,BitVec.toNat_ofNat];exact Nat.mod_eq_of_lt (zar _ _)
 have h2:(BitVec.ofInt 64 ((wordN q i:Nat):Int)).toNat=wordN q i:=by
   rw[BitVec.ofInt_natCast,BitVec.toNat_ofNat];exact Nat.mod_eq_of_lt (zar _ _)
 have e:wordN p i &&& (2 ^ 64-1-wordN q i)=wordN (minusP p q) i:=by
   apply Nat.eq_of_testBit_eq;intro j;have hq:=zar q i;rw[Nat.testBit_and,show 2 ^ 64-1-wordN q i=2 ^ 64-(wordN q i+1) by omega,Nat.testBit_two_pow_sub_succ (by omega),za9,za9,za9];cases decide (j<64) <;> simp[minusP]
 unfold word
 show IntKind.u64.wrap ((BitVec.ofInt 64 ((wordN p i:Nat):Int) &&& ~~~ BitVec.ofInt 64 ((wordN q i:Nat):Int)).toNat:Int)=_
 rw[BitVec.toNat_and,BitVec.toNat_not,h1,h2,e,IntKind.wrap_u64];have:=zar (minusP p q) i;omega
def fromP (q:Nat->Bool) (i p:Nat):Nat:=bitsN (fun j=>decide (p<=j)&&q (64*i+j)) 64
theorem zgw (q:Nat->Bool) (i p:Nat):fromP q i p<18446744073709551616:=zh3 64 _
theorem zbx (q:Nat->Bool) (i p j:Nat):(fromP q i p).testBit j=(decide (j<64)&&(decide (p<=j)&&q (64*i+j))):=zby 64 _ j
theorem zin (q:Nat->Bool) (i:Nat):fromP q i 0=wordN q i:=zbi 64 _ _ fun j _=>by simp
theorem zl7 {q:Nat->Bool} {i p:Nat} (h:fromP q i p=0) (j:Nat) (h1:p<=j) (h2:j<64):q (64*i+j)=false:=by
 have t:=zbx q i p j;rw[h] at t;simp[h1,h2] at t;exact t
theorem zne:∀ (n x:Nat),x<2 ^ n->x≠0->∃ k m,k<n∧x=2 ^ k*(2*m+1)
 | 0,x,h,h0=>by simp at h;omega
 | n+1,x,h,h0=>by
   by_cases hx:x % 2=1
   . exact⟨0,x / 2,by omega,by omega⟩
   . rw[Nat.pow_succ] at h;obtain⟨k,m,hk,e⟩:=zne n (x / 2) (by omega) (by omega);refine⟨k+1,m,by omega,?_⟩;have:x=2*(x / 2):=by omega
     rw[this,e,Nat.pow_succ,Nat.mul_comm (2 ^ k) 2,Nat.mul_assoc]
theorem zda (k m j:Nat):(2 ^ k*(2*m+1)).testBit j=(decide (k<=j)&&(2*m+1).testBit (j-k)):=by
 have h:=Nat.testBit_two_pow_mul (i:=k) (a:=2*m+1) (j:=j)
 simpa using h
theorem zjp (k m j:Nat):(2 ^ k*(2*m+1)-1).testBit j=if j<k then true else (2*m).testBit (j-k):=by
 have hp:0<2 ^ k:=Nat.two_pow_pos k;have e:2 ^ k*(2*m+1)-1=2 ^ k*(2*m)+(2 ^ k-1):=(by rw[Nat.mul_add,Nat.mul_one];omega);rw[e,Nat.testBit_two_pow_mul_add _ (by omega)];split
 . rename_i h;rw[Nat.testBit_two_pow_sub_one];simp[h]
 . rfl
theorem zgn (m j:Nat):(2*m+1).testBit (j+1)=m.testBit j:=by
 rw[Nat.testBit_succ];congr 1;omega
theorem zf1 (m j:Nat):(2*m).testBit (j+1)=m.testBit j:=by
 rw[Nat.testBit_succ];congr 1;omega
theorem zpj (k m:Nat) (h:2 ^ k*(2*m+1)<2 ^ 64):(2 ^ k*(2*m+1)) &&& (2 ^ 64-2 ^ k*(2*m+1))=2 ^ k:=by
 have hp:0<2 ^ k:=Nat.two_pow_pos k;have h1:0<2 ^ k*(2*m+1):=Nat.mul_pos hp (by omega);apply Nat.eq_of_testBit_eq;intro j;have e:2 ^ 64-2 ^ k*(2*m+1)=2 ^ 64-((2 ^ k*(2*m+1)-1)+1):=(by omega);rw[Nat.testBit_and,e,Nat.testBit_two_pow_sub_succ (by omega),zda,zjp,Nat.testBit_two_pow]
 by_cases h2:j<k
 . have:¬ k<=j:=by omega
   have h3:¬ k=j:=(by omega);simp[this,h3]
 . by_cases h3:j=k
   . subst h3;have h64:j<64:=by
       rcases Nat.lt_or_ge j 64 with h4|h4
       . exact h4
       . have:=Nat.pow_le_pow_right (n:=2) (by omega) h4;have h5:2 ^ j*1<=2 ^ j*(2*m+1):=Nat.mul_le_mul_left _ (by omega);omega
     simp[h64]
   . obtain⟨d,rfl⟩:∃ d,j=k+(d+1):=⟨j-k-1,by omega⟩;have h4:¬ k=k+(d+1):=(by omega);rw[show k+(d+1)-k=d+1 by omega,zgn,zf1];simp[h4,h2];exact fun h _=>h
theorem zpk (k m:Nat):(2 ^ k*(2*m+1)) &&& (2 ^ k*(2*m+1)-1)=2 ^ k*(2*m):=by
 apply Nat.eq_of_testBit_eq;intro j;have h:=Nat.testBit_two_pow_mul (i:=k) (a:=2*m) (j:=j);rw[Nat.testBit_and,zda,zjp]
 by_cases h2:j<k
 . have:¬ k<=j:=by omega
   simp[this] at h ⊢
   simpa using h.symm
 . have h6:k<=j:=(by omega);rw[if_neg h2];simp[h6] at h ⊢;rw[h]
   by_cases h3:j=k
   . subst h3;simp
   . obtain⟨d,rfl⟩:∃ d,j=k+(d+1):=⟨j-k-1,by omega⟩;rw[show k+(d+1)-k=d+1 by omega,zgn,zf1];simp
theorem zl8 {q:Nat->Bool} {i p:Nat} (h:fromP q i p≠0):∃ k,p<=k∧k<64∧q (64*i+k)=true∧(∀ j,p<=j->j<k->q (64*i+j)=false)∧
   fromP q i p &&& (fromP q i p-1)=fromP q i (k+1)∧fromP q i p &&& (2 ^ 64-fromP q i p)=2 ^ k:=by
 obtain⟨k,m,hk,e⟩:=zne 64 (fromP q i p) (zgw q i p) h;have tk:=zbx q i p k;rw[e,zda] at tk;simp[hk] at tk;have hb:∀ j,p<=j->j<k->q (64*i+j)=false:=by
   intro j h1 h2;have t:=zbx q i p j;have h3:¬ k<=j:=(by omega);rw[e,zda] at t;simp[h3,h1,show j<64 by omega] at t;exact t
 refine⟨k,tk.1,hk,tk.2,hb,?_,?_⟩
 . rw[e,zpk];apply Nat.eq_of_testBit_eq;intro j;have hm:=Nat.testBit_two_pow_mul (i:=k) (a:=2*m) (j:=j);have t:=zbx q i p j;rw[e,zda] at t;rw[hm,zbx]
   by_cases h2:k+1<=j
   . obtain⟨d,rfl⟩:∃ d,j=k+(d+1):=⟨j-k-1,by omega⟩;rw[show k+(d+1)-k=d+1 by omega,zgn] at t;rw[show k+(d+1)-k=d+1 by omega,zf1];have h5:p<=k+(d+1):=(by omega);simp[h5] at t;simp[t]
   . by_cases h3:j=k
     . subst h3;simp;omega
     . have h4:¬ k<=j:=(by omega);have h5:¬ k+1<=j:=(by omega);simp[h4,h5]
 . rw[e,zpj k m (by rw[←e];exact zgw q i p)]
def upP (q:Nat->Bool) (m:Nat):List Nat:=(List.range m).filter q
theorem zr4 {q:Nat->Bool} {k:Nat} (h:q k=true):upP q (k+1)=upP q k++[k]:=by
 unfold upP;rw[List.range_succ,List.filter_append];simp[h]
theorem zor {q:Nat->Bool} {k:Nat} (h:q k=false):upP q (k+1)=upP q k:=by
 unfold upP;rw[List.range_succ,List.filter_append];simp[h]
theorem zgc {q:Nat->Bool} {a:Nat}:∀ (d:Nat),(∀ j,a<=j->j<a+d->q j=false)->upP q (a+d)=upP q a
 | 0,_=>rfl
 | d+1,h=>by rw[←Nat.add_assoc,zor (h (a+d) (by omega) (by omega)),zgc d fun j h1 h2=>h j h1 (by omega)]
theorem upP_mem {q:Nat->Bool} {m k:Nat}:k∈upP q m↔k<m∧q k=true:=by simp[upP]
def deBr:List Nat:=[0,1,56,2,57,49,28,3,61,58,42,50,38,29,17,4,62,47,59,36,45,43,51,22,53,39,33,30,24,18,12,5,63,55,48,27,60,41,37,16,46,35,44,21,52,32,23,11,54,26,40,15,34,20,31,10,25,14,19,9,13,8,7,6]
theorem zrz:∀ k:Fin 64,deBr.getD ((2 ^ k.val*285870213051353865 % 18446744073709551616) / 288230376151711744) 0=k.val∧(2 ^ k.val*285870213051353865 % 18446744073709551616) / 288230376151711744<64:=by decide +kernel
end
section
open Go Go.RowKit
def noDefer (ops:Array Oper):Bool:=ops.all fun o=>match o.op with | .defer _=>false | _=>true
theorem zl4 {ops:Array Oper} (h:noDefer ops=true) {i:Nat} {o:Oper} (hi:ops[i]?=some o):∀ c,o.op ≠ .defer c:=by
 intro c hc;unfold noDefer at h;rw[Array.all_eq_true] at h;obtain⟨hlt,e⟩:=Array.getElem?_eq_some_iff.1 hi;have:=h i hlt;rw[e,hc] at this;cases this
section
variable {P:Program} {ops:Array Oper} {Q:Exit->Act->World->Prop} {md:Region.Mode} {l n:Nat}
theorem zfc (hd:noDefer ops=true) (hL:¬ LetsOut Q) {i:Nat} {K:Act->World->Prop} {a:Act} {w:World} (h:wpOp P ops Q i K a w):wpOpIn (Fence.wide.inRound l) n P ops Q i K a w:=by
 unfold wpOp at h;unfold wpOpIn;cases ho:ops[i]? with
 | none=>rw[ho] at h;exact h
 | some o =>
   rw[ho] at h;simp only at h ⊢;split
   . rename_i hw;rw[if_pos hw] at h;rcases h with h|⟨_,h⟩
     . refine⟨fun _ _=>trivial,?_⟩;rw[Oper.semAt_eq _ _ _ (zl4 hd ho)];unfold Oper.wp at h;generalize (execOp a.eval o).run P w=r at h ⊢;cases r with
       | ok x w' =>
         cases x <;> simp only[Oper.upon,Oper.uponIn] at h ⊢
         case value=>exact h
         case skip=>exact h
         case defer=>exact h
         case enter=>exact⟨fun e=>(by cases e),callsIn_wide.2 h⟩
         case row=>exact⟨fun e=>(by cases e),fun c cs _=>let ⟨v,w2,r,s⟩:=h c cs;⟨v,w2,r,stepsIn_wide.2 s⟩⟩
       | halt x w'=>cases x <;> simp only[Oper.upon,Oper.uponIn] at h ⊢;exact h
     . exact absurd h hL
   . rename_i hw;rw[if_neg hw] at h;exact⟨fun _ _=>trivial,h⟩
theorem zbf (hd:noDefer ops=true) (hL:¬ LetsOut Q):∀ (fuel:Nat) (listed:Array Bool) (a:Act) (w:World),wpAny P md ops Q fuel listed a w->wpAnyIn (Fence.wide.inRound l) n P md ops Q fuel listed a w
 | 0,listed,a,w,h=>h
 | fuel+1,listed,a,w,h=>⟨h.1,fun i hi=>wpOpIn_mono (fun a' w' h'=>zbf hd hL fuel _ a' w' h') (zfc hd hL (h.2 i hi))⟩
end
theorem zbe {P:Program} {Q:Exit->Act->World->Prop} {r n id:Nat} {a:Act} {w:World} {l:List Oper} (k:Nat) (hm:P.follows .mixedOrders=true) (hB:Region.lexTailB .any l.toArray k=true) (hd:noDefer l.toArray=true) (hL:¬ LetsOut Q)
   (h:wpStill P l.toArray w.drew (fun a'=>wpList P l.toArray Q (l.drop k) a' w.drew) (l.take k) a):(Code.region id l.toArray true).wpIn (Fence.wide.inRound r) n P Q a w:=by
 refine wpIn_region_any hm (zbf hd hL _ _ _ _ ?_);simp only[Region.lexTailB,Bool.and_eq_true,decide_eq_true_eq] at hB;have hk:k<l.length:=(by have:=hB.1.1.1.2;simpa using this);have e1:(l.take k).length=k:=(by rw[List.length_take];omega);have e2:(l.drop k).length=l.toArray.size-k:=(by simp);have e3:(l.take k).length+(l.toArray.size-k)=l.toArray.size:=(by rw[e1];simp;omega);have start:HeadInv .any l.toArray k (Array.replicate l.toArray.size false):=by
   refine⟨by simp,fun j oj _ hl=>?_,fun t _ ht=>getD_in (by simpa using ht) (getD_replicate_false _ _)⟩;rw[getD_replicate_false] at hl;cases hl
 have hat:∀ j,j<(l.take k).length->(l.take k)[j]?=l.toArray[0+j]?:=fun j hj=>by
   rw[e1] at hj;simp[hj]
 have lex:=wpAnyL_lex (md := .any) (g:=l.toArray.size-k) hB.1.1.1.1 hB.1.1.2 hB.1.2 hB.1.1.1.2 (l.take k) 0 _ a hat (by omega) start (by rw[e1];exact hB.2) h;have tail:=wpAny_of_head (Q':=Q) (g:=l.toArray.size-k) (fun listed a' hs=>?_) _ _ _ lex
 . rwa [e3] at tail
 . have t1:=wpAny_of_seq (md := .any) (Q':=Q) (l.drop k) k listed a' w.drew (fun j=>by simp[List.getElem?_drop]) (by rw[e2];exact hs.1) hs.2
   rwa [e2] at t1
end
section
open Go Go.RowKit
section
variable {P:Program} (w:World)
end
def HasO (w:World) (g:Nat) (o:Obj):Prop:=w.heap[g]?=some o
end
section
open Go Go.RowKit
structure Kept (Q:Nat->Prop) (w w':World):Prop where
 os:w'.os=w.os
 tape:w'.tape=w.tape
 output:w'.output=w.output
 size:w.heap.size<=w'.heap.size
 block:∀ b,b<w.heap.size->¬ Q b->w'.heap[b]?=w.heap[b]?
section
variable {Q Q':Nat->Prop} {w w' w'':World}
end
theorem zn4 {w w':World} {B e size n:Nat} {v:Value} {xs:List Value} (h:w.ownsRow B e size v n xs) (hb:∀ b,v.ownBlock=some b->b<w.heap.size->w'.heap[b]?=w.heap[b]?):w'.ownsRow B e size v n xs:=by
 refine⟨h.1,?_⟩;rcases h.2 with h0|⟨g,cap,cur,rfl,hB,hh,r⟩
 . exact Or.inl h0
 . exact Or.inr ⟨g,cap,cur,rfl,hB,(hb g rfl (za0 hh)).trans hh,r⟩
theorem zjg {w:World} {B e size n:Nat} {v:Value} {xs:List Value} (h:w.ownsRow B e size v n xs) {b:Nat} (hb:v.ownBlock=some b):∃ cur,w.heap[b]?=some (.cells cur e (0,0)):=by
 rcases h.2 with ⟨rfl,_⟩|⟨g,cap,cur,rfl,hB,hh,r⟩
 . cases hb
 . cases hb;exact⟨cur,hh⟩
theorem zcj {w:World} {b c:Nat} {cur cur':Array Value} {ty ty':TypeId} (h:w.heap[b]?=some (.cells cur ty (0,0))) (h':w.heap[c]?=some (.cells cur' ty' (0,0))) (hne:ty≠ty'):b≠c:=by
 intro e;subst e;rw[h] at h';injection h' with h'
 injection h' with _ e _
 exact hne e
end
section
open Go Go.RowKit
def stoW (w:World) (p v:Value):World:=match p,v with
 | .pointer (some a),.agg cs=>w.setRow a.block cs
 | _,_=>w
def Sto (ty:TypeId) (w:World) (p v:Value):Prop:=(Instr.storeAt ty p v).run Tryz.prog w = .ok () (stoW w p v)
theorem sto_of {ty:TypeId} {w:World} {b:Nat} {cur cs:Array Value} {t:TypeId} (h:w.heap[b]?=some (.cells cur t (0,0))) (hi:(Tryz.prog.info? ty).map (·.size)=some cs.size) (ho:cur.size=cs.size) (h1:cs.all (·.oneCell')=true):
   Sto ty w (.pointer (some ⟨b,0,none⟩)) (.agg cs):=by
 unfold Sto stoW;simp only[Instr.storeAt,Instr.sureAddr,Sem.run_bind,Sem.run_pure,Result.andThen_ok,run_storeVar_row w b t ty cur cs h hi ho h1]
theorem has_sto {w:World} {b:Nat} {old cs:Array Value} {t:TypeId} (h:w.heap[b]?=some (.cells old t (0,0))):(stoW w (.pointer (some ⟨b,0,none⟩)) (.agg cs)).heap[b]?=some (.cells cs t (0,0)):=setRow_heap w b old cs t (0,0) h
theorem cell_sto {w:World} {g o b:Nat} {cs:Array Value} {v:Value} (h:w.cell? ⟨g,o,none⟩=some v) (hne:g≠b):(stoW w (.pointer (some ⟨b,0,none⟩)) (.agg cs)).cell? ⟨g,o,none⟩=some v:=(cell_setRow_other w b cs ⟨g,o,none⟩ hne).trans h
theorem below_sto {B:Nat} {w0 w:World} {b:Nat} {cs:Array Value} (h:Below B w0 w) (hb:B<=b):Below B w0 (stoW w (.pointer (some ⟨b,0,none⟩)) (.agg cs)):=below_setRow h hb cs
def stoM (w:World) (p v:Value):World:=match p,v with
 | .pointer (some a),.agg cs=>w.setCells a.block a.off cs.toList
 | _,_=>w
def StoM (ty:TypeId) (w:World) (p v:Value):Prop:=(Instr.storeAt ty p v).run Tryz.prog w = .ok () (stoM w p v)
theorem zr7 {ty:TypeId} {w:World} {b o:Nat} {cs:Array Value} (ht:w.there b o cs.size) (hi:(Tryz.prog.info? ty).map (·.size)=some cs.size) (h1:cs.all (·.oneCell')=true):StoM ty w (.pointer (some ⟨b,o,none⟩)) (.agg cs):=run_storeAt_mid w b o ty cs ht hi h1
theorem zoy {ρ:Operand->Value} {dst:Option Tmp} {x y:Operand} {t ty:TypeId} {pos:String} {after:Array Edge} {guard:Option (Nat×Bool)} {w:World} (h:StoM t w (ρ x) (ρ y)):
   Sem.run Tryz.prog (execOp ρ {dst:=dst,op := .store t x y,type:=ty,pos:=pos,after:=after,guard:=guard}) w = .ok .skip (stoM w (ρ x) (ρ y)):=by
 unfold StoM at h;unfold execOp;simp only[Sem.run_bind,Sem.run_pure,Result.andThen_ok,h]
end
section
open Go Go.RowKit
def RdStr (w:World) (A:Option Addr) (L:List ByteArray):Prop:=∀ i s,L[i]?=some s->∃ b off,A=some ⟨b,off,none⟩∧b<w.heap.size∧w.cell? ⟨b,off+i,none⟩=some (.string s)
theorem RdStr.stays {w w':World} {A:Option Addr} {L:List ByteArray} (h:RdStr w A L) (hb:Below w.heap.size w w'):RdStr w' A L:=fun i s e=>by
 obtain⟨b,off,h1,h2,h3⟩:=h i s e;exact⟨b,off,h1,Nat.lt_of_lt_of_le h2 hb.size,za4 h3 hb⟩
end
section
open Go Go.RowKit
def ruC (x:Ru):List Value:=[.string x.name,.string x.pat,.bool x.luhn]
def ruV (x:Ru):Value := .agg #[.string x.name,.string x.pat,.bool x.luhn]
def ruL:List Ru->List Value
 | []=>[]
 | x::l=>ruC x++ruL l
theorem zmo:∀ (a b:List Ru),ruL (a++b)=ruL a++ruL b
 | [],b=>rfl
 | x::a,b=>by rw[List.cons_append,ruL,ruL,zmo a b,List.append_assoc]
theorem zmn:∀ (l:List Ru) (i q:Nat) (x:Ru),l[i]?=some x->q<3->(ruL l)[i*3+q]?=(ruC x)[q]?
 | [],i,q,x,h,hq=>by simp at h
 | y::l,0,q,x,h,hq=>by
   simp at h;subst h;rw[ruL,List.getElem?_append_left (by simp[ruC];omega)];simp
 | y::l,i+1,q,x,h,hq=>by
   rw[ruL,List.getElem?_append_right (by simp[ruC];omega),show (i+1)*3+q-(ruC y).length=i*3+q by simp[ruC];omega];exact zmn l i q x (by simpa using h) hq
def RdRu (w:World) (A:Option Addr) (l:List Ru):Prop:=
 ∀ i x,l[i]?=some x->∃ g off,A=some ⟨g,off,none⟩∧g<w.heap.size∧w.cell? ⟨g,off+i*3,none⟩=some (.string x.name)∧w.cell? ⟨g,off+i*3+1,none⟩=some (.string x.pat)∧w.cell? ⟨g,off+i*3+2,none⟩=some (.bool x.luhn)
def RuRow (w:World) (B:Nat) (v:Value) (l:List Ru):Prop:=w.ownsRow B 58 3 v l.length (ruL l)
def StrRow (w:World) (B:Nat) (v:Value) (l:List ByteArray):Prop:=w.ownsRow B 9 1 v l.length (l.map Value.string)
section
variable {w w':World} {B:Nat} {v:Value} {l:List Ru} {s:List ByteArray} {A:Option Addr}
theorem RdRu.stays (h:RdRu w A l) (hb:Below w.heap.size w w'):RdRu w' A l:=fun i x e=>by
 obtain⟨g,off,h1,h2,h3,h4,h5⟩:=h i x e;exact⟨g,off,h1,Nat.lt_of_lt_of_le h2 hb.size,za4 h3 hb,za4 h4 hb,za4 h5 hb⟩
theorem RuRow.nil (w:World) (B:Nat):RuRow w B (.slice none 0 0) []:=World.ownsRow_nil w B _ 3
theorem RuRow.form (h:RuRow w B v l):∃ A c,v = .slice A l.length c:=by
 rcases h.2 with ⟨rfl,h0⟩|⟨g,cap,cur,rfl,_⟩
 . exact⟨none,0,by rw[h0]⟩
 . exact⟨_,_,rfl⟩
theorem RuRow.stays (h:RuRow w B v l) (hb:Below w.heap.size w w'):RuRow w' B v l:=zal h hb
theorem RuRow.in (h:RuRow w B v l):∀ b,v.ownBlock=some b->B<=b∧b<w.heap.size:=fun b e=>World.ownsRow.lt h b e
theorem RuRow.rd {n c:Nat} (h:RuRow w B (.slice A n c) l):RdRu w A l:=fun i x hi=>by
 have hl:i<l.length:=(List.getElem?_eq_some_iff.1 hi).1;rcases h.2 with ⟨e,e0⟩|⟨g,cap',cur,e,hB,hg,_⟩
 . injection e with e1 e2 e3
   have:l.length=0:=e0;omega
 . have e':=e;injection e with e1 e2 e3
   subst e1 e2;have key:∀ q,q<3->w.cell? ⟨g,i*3+q,none⟩=(ruC x)[q]?:=fun q hq=>by
     rw[World.ownsRow.cellAt h (i*3+q) (by omega),zmn l i q x hi hq]
   refine⟨g,0,rfl,za0 hg,?_,?_,?_⟩
   . rw[show 0+i*3=i*3+0 by omega];exact key 0 (by omega)
   . rw[show 0+i*3+1=i*3+1 by omega];exact key 1 (by omega)
   . rw[show 0+i*3+2=i*3+2 by omega];exact key 2 (by omega)
theorem StrRow.nil (w:World) (B:Nat):StrRow w B (.slice none 0 0) []:=World.ownsRow_nil w B _ 1
theorem StrRow.form (h:StrRow w B v s):∃ A c,v = .slice A s.length c:=by
 rcases h.2 with ⟨rfl,h0⟩|⟨g,cap,cur,rfl,_⟩
 . exact⟨none,0,by rw[h0]⟩
 . exact⟨_,_,rfl⟩
theorem StrRow.stays (h:StrRow w B v s) (hb:Below w.heap.size w w'):StrRow w' B v s:=zal h hb
theorem StrRow.in (h:StrRow w B v s):∀ b,v.ownBlock=some b->B<=b∧b<w.heap.size:=fun b e=>World.ownsRow.lt h b e
theorem StrRow.rd {n c:Nat} (h:StrRow w B (.slice A n c) s):RdStr w A s:=fun i x hi=>by
 have hl:i<s.length:=(List.getElem?_eq_some_iff.1 hi).1;rcases h.2 with ⟨e,e0⟩|⟨g,cap',cur,e,hB,hg,_⟩
 . injection e with e1 e2 e3
   have:s.length=0:=e0;omega
 . injection e with e1 e2 e3
   subst e1 e2;refine⟨g,0,rfl,za0 hg,?_⟩;rw[Nat.zero_add,World.ownsRow.cellAt h i (by omega),List.getElem?_map,hi];rfl
end
theorem zrc (w:World) (l:List ByteArray):RdStr (w.alloc (.cells (l.map Value.string).toArray 9)) (some ⟨w.heap.size,0,none⟩) l:=fun i s hi=>by
 refine⟨w.heap.size,0,rfl,by simp,?_⟩;rw[cell_of_row _ w.heap.size (0+i) _ 9 (0,0) (heap_alloc_new w _)];simp[hi]
theorem infoRu:(Tryz.prog.info? 58).map (fun i=>(i.zero,i.size,i.bytes))=some (some (.agg #[.string ⟨#[]⟩,.string ⟨#[]⟩,.bool false]),3,40):=by kernel_rfl
theorem zrs:(Tryz.prog.info? 9).map (fun i=>(i.zero,i.size,i.bytes))=some (some (.string ⟨#[]⟩),1,16):=by kernel_rfl
theorem zrb {w:World} {B:Nat} {v:Value} {l:List Ru} (h:RuRow w B v l) (hB:B<=w.heap.size) (hl:l.length<=100000) (x:Ru) (td:TypeId) (ad:Addr) (c:Nat)
   (hc:∀ (j:Nat) u,(ruC x)[j]?=some u->w.cell? (ad.add j)=some u):
   ∃ v' w',(Builtin.append_ #[54,54] td #[v,.slice (some ad) 1 c]).run Tryz.prog w = .ok v' w'∧RuRow w' B v' (l++[x])∧w.grownBy w' v.ownBlock∧(v'.ownBlock=v.ownBlock∨v'.ownBlock=some w.heap.size):=by
 obtain⟨i0,hi,hz0,hz1,hz2⟩:=info_parts infoRu;obtain⟨v',w',hr,h4,h5,_,h6⟩:=run_append_own_at (P:=Tryz.prog) w B 54 td 58 i0 _ 3 40 Tryz.underlying54 hi hz0 hz1 hz2 rfl (by decide) v l.length (ruL l) h ad 1 c (ruC x) rfl hc
   (by
     intro u hu;simp only[ruC,List.mem_cons,List.not_mem_nil,or_false] at hu;rcases hu with rfl|rfl|rfl <;> rfl) (by unfold maxLen;omega) (by omega) hB
 refine⟨v',w',hr,?_,h5,h6⟩;unfold RuRow;rw[zmo,show ruL [x]=ruC x from by simp[ruL]]
 simpa using h4
theorem zou {w:World} {B:Nat} {v:Value} {l:List ByteArray} (h:StrRow w B v l) (hB:B<=w.heap.size) (hl:l.length<=100000) (x:ByteArray) (td:TypeId) (ad:Addr) (c:Nat)
   (hc:w.cell? ad=some (.string x)):
   ∃ v' w',(Builtin.append_ #[89,89] td #[v,.slice (some ad) 1 c]).run Tryz.prog w = .ok v' w'∧StrRow w' B v' (l++[x])∧w.grownBy w' v.ownBlock∧(v'.ownBlock=v.ownBlock∨v'.ownBlock=some w.heap.size):=by
 obtain⟨i0,hi,hz0,hz1,hz2⟩:=info_parts zrs;obtain⟨v',w',hr,h4,h5,_,h6⟩:=run_append_own_at (P:=Tryz.prog) w B 89 td 9 i0 _ 1 16 Tryz.underlying89 hi hz0 hz1 hz2 rfl (by decide) v l.length (l.map Value.string) h ad 1 c [.string x] rfl
   (by
     intro j u hu;cases j with
     | zero=>simp at hu;subst hu;have e:ad.add 0=ad:=(by unfold Addr.add;split <;> simp_all);rw[e];exact hc
     | succ j=>simp at hu)
   (by
     intro u hu;simp at hu;subst hu;rfl) (by unfold maxLen;omega) (by omega) hB
 refine⟨v',w',hr,?_,h5,h6⟩;unfold StrRow;rw[List.map_append]
 simpa using h4
theorem zh8 {w:World} {ops:Array Oper} {rest:List Oper} {o:Oper} {a:Act} {Q:Exit->Act->World->Prop} (hgd:o.guard=none) (s x:Operand)
   (ho:o.op = .call {callee := .builtin .append,args:=#[s,x],argTypes:=#[54,54]})
   {B:Nat} {v:Value} {l:List Ru} (hs:a.eval s=v) (h:RuRow w B v l) (hB:B<=w.heap.size) (hl:l.length<=100000) (y:Ru)
   (ad:Addr) (c:Nat) (hx:a.eval x = .slice (some ad) 1 c) (hc:∀ (j:Nat) u,(ruC y)[j]?=some u->w.cell? (ad.add j)=some u)
   (hk:∀ v' w',RuRow w' B v' (l++[y])->w.grownBy w' v.ownBlock->(v'.ownBlock=v.ownBlock∨v'.ownBlock=some w.heap.size)->wpList Tryz.prog ops Q rest (a.put o.dst v') w'):wpList Tryz.prog ops Q (o::rest) a w:=by
 obtain⟨v',w',hr,h2,h3,h4⟩:=zrb h hB hl y o.type ad c hc;refine wpList_plain hgd fun _ hK=>?_
 unfold Oper.wp execOp;simp only[ho,resolve,invoke,builtin,Sem.run_bind,Sem.run_pure,Result.andThen_ok,List.map_toArray,List.map_cons,List.map_nil,hs,hx,hr];exact hK _ _ (hk v' w' h2 h3 h4)
theorem zfj {w:World} {ops:Array Oper} {rest:List Oper} {o:Oper} {a:Act} {Q:Exit->Act->World->Prop} (hgd:o.guard=none) (s x:Operand)
   (ho:o.op = .call {callee := .builtin .append,args:=#[s,x],argTypes:=#[89,89]})
   {B:Nat} {v:Value} {l:List ByteArray} (hs:a.eval s=v) (h:StrRow w B v l) (hB:B<=w.heap.size) (hl:l.length<=100000) (y:ByteArray)
   (ad:Addr) (c:Nat) (hx:a.eval x = .slice (some ad) 1 c) (hc:w.cell? ad=some (.string y))
   (hk:∀ v' w',StrRow w' B v' (l++[y])->w.grownBy w' v.ownBlock->(v'.ownBlock=v.ownBlock∨v'.ownBlock=some w.heap.size)->wpList Tryz.prog ops Q rest (a.put o.dst v') w'):wpList Tryz.prog ops Q (o::rest) a w:=by
 obtain⟨v',w',hr,h2,h3,h4⟩:=zou h hB hl y o.type ad c hc;refine wpList_plain hgd fun _ hK=>?_
 unfold Oper.wp execOp;simp only[ho,resolve,invoke,builtin,Sem.run_bind,Sem.run_pure,Result.andThen_ok,List.map_toArray,List.map_cons,List.map_nil,hs,hx,hr];exact hK _ _ (hk v' w' h2 h3 h4)
theorem zai {B:Nat} {a w:World} (h:Below B a w) (n:Nat):Below B a (w.drewN n):=⟨h.os,h.tape,h.output,h.size,h.block⟩
def ruA (x:Ru):Array Value:=#[.string x.name,.string x.pat,.bool x.luhn]
def RB (w:World) (g:Nat) (x:Ru):Prop:=w.heap[g]?=some (.cells #[.string x.name,.string x.pat,.bool x.luhn] 58 (0,0))
section
variable {w w':World} {g:Nat} {x:Ru}
theorem RB.lt (h:RB w g x):g<w.heap.size:=za0 h
theorem RB.stays (h:RB w g x) (hb:Below w.heap.size w w'):RB w' g x:=(hb.block g h.lt).trans h
theorem RB.drewN (h:RB w g x) (n:Nat):RB (w.drewN n) g x:=h
theorem RB.new (w:World) (x:Ru):RB (w.alloc (.cells #[.string x.name,.string x.pat,.bool x.luhn] 58)) w.heap.size x:=heap_alloc_new w _
theorem RB.cell (h:RB w g x):w.cell? ⟨g,0,none⟩=some (.string x.name)∧w.cell? ⟨g,1,none⟩=some (.string x.pat)∧w.cell? ⟨g,2,none⟩=some (.bool x.luhn):=
 ⟨cell_of_row w g 0 _ _ (0,0) h,cell_of_row w g 1 _ _ (0,0) h,cell_of_row w g 2 _ _ (0,0) h⟩
theorem RB.frozen (h:RB w g x) (j:Nat):w.frozen? ⟨g,j,none⟩=false:=by
 unfold RB at h;simp[World.frozen?,h]
theorem RB.put (h:RB w g x) (a b:ByteArray) (c:Bool):RB (((w.setCell ⟨g,0,none⟩ (.string a)).setCell ⟨g,1,none⟩ (.string b)).setCell ⟨g,2,none⟩ (.bool c)) g ⟨a,b,c⟩:=
 heap_setCell_same _ g 2 _ 58 _ (heap_setCell_same _ g 1 _ 58 _ (heap_setCell_same w g 0 _ 58 _ h))
theorem zkt (h:RB w g x):(loadVar 58 ⟨g,0,none⟩).run Tryz.prog w = .ok (ruV x) w:=by
 have:=run_loadVar_mid (P:=Tryz.prog) w g 0 58 (ruC x) _ (fun j v hv=>by
   rw[Nat.zero_add,cell_of_row w g j _ 58 (0,0) h]
   simpa [ruC] using hv) Tryz.underlying58 rfl (by kernel_rfl)
 simpa [ruC,ruV] using this
theorem zag {fn:Func} {tmps:Array Value} {y z:Nat} {v:Value} (hr:fn.results=#[.cell y 58,.tmp z]) (hy:tmps.getD y undef = .pointer (some ⟨g,0,none⟩)) (hz:tmps.getD z undef=v) (h:RB w g x):
   (results fn tmps).run Tryz.prog w = .ok (.tuple #[ruV x,v]) w:=by
 have e:(#[ResultVar.cell y 58,.tmp z]:Array ResultVar)=[ResultVar.cell y 58,.tmp z].toArray:=rfl;rw[Array.getD_eq_getD_getElem?] at hy hz;unfold results;rw[hr,e];simp[Sem.run_bind,hy,hz,zkt h,asAddr]
end
end
section
open Go Go.RowKit
theorem Tryz.infoInt:(Tryz.prog.info? 3).map (fun i=>(i.zero,i.size,i.bytes))=some (some (.int .i64 0),1,8):=by kernel_rfl
def Ints (w:World) (B:Nat) (v:Value) (l:List Int):Prop:=w.ownsRow B 3 1 v l.length (l.map (Value.int .i64))
section
variable {w w':World} {B:Nat} {v:Value} {l:List Int}
theorem Ints.nil (w:World) (B:Nat):Ints w B (.slice none 0 0) []:=World.ownsRow_nil w B _ 1
theorem Ints.stays (h:Ints w B v l) (hb:Below w.heap.size w w'):Ints w' B v l:=zal h hb
theorem Ints.kept {row:Option Nat} (h:Ints w B v l) (hg:w.grownBy w' row) (hr:∀ g,v.ownBlock=some g->row≠some g):Ints w' B v l:=by
 refine World.ownsRow.kept h hg ?_;cases e:v.ownBlock with
 | none=>exact .inl rfl
 | some g=>exact .inr fun e'=>hr g e e'.symm
theorem Ints.form (h:Ints w B v l):∃ A c,v = .slice A l.length c:=by
 rcases h.2 with ⟨rfl,h0⟩|⟨g,cap,cur,rfl,_⟩
 . exact⟨none,0,by rw[h0]⟩
 . exact⟨_,_,rfl⟩
theorem Ints.at (h:Ints w B v l) (j:Nat) (hj:j<l.length):∃ g c,v = .slice (some ⟨g,0,none⟩) l.length c∧B<=g∧g<w.heap.size∧w.cell? ⟨g,j,none⟩=some (.int .i64 (l[j]'hj)):=by
 rcases h.2 with ⟨rfl,h0⟩|⟨g,cap,cur,rfl,hB,hg,_⟩
 . omega
 . refine⟨g,cap,rfl,hB,za0 hg,?_⟩;rw[World.ownsRow.cellAt h j (by omega)];simp[hj]
end
end
section
open Go Go.RowKit
theorem Tryz.askSpot (x:TypeId) (p:Value) (w:World):(Instr.typeAssert (.iface 69 p) x 69 true).run Tryz.prog w = .ok (.tuple #[p,.bool true]) w:=by
 unfold Instr.typeAssert;simp[run_underlying Tryz.underlying69,Sem.run_bind,Result.andThen]
set_option maxHeartbeats 400000 in
theorem zow (w:World):Calls Tryz.prog 8 #[.nilIface] w fun e w'=>e = .returned (.tuple #[.int .i64 0,.int .i64 0])∧w=w':=by
 go_enter Tryz.func8,Tryz.ntmps8;go_wp2;go_ret2;exact⟨rfl,rfl⟩
set_option maxHeartbeats 400000 in
theorem spot_p (w:World) (gs:Nat) (a c:Int) (h:w.heap[gs]?=some (.cells #[.int .i64 a,.int .i64 c] 73 (0,0))):
   Calls Tryz.prog 8 #[.iface 69 (.pointer (some ⟨gs,0,none⟩))] w fun e w'=>e = .returned (.tuple #[.int .i64 c,.int .i64 a])∧∃ n,w'=w.drewN n:=by
 have c0:w.cell? ⟨gs,0,none⟩=some (.int .i64 a):=cell_of_row w gs _ _ 73 (0,0) h;have c1:w.cell? ⟨gs,1,none⟩=some (.int .i64 c):=cell_of_row w gs _ _ 73 (0,0) h;have hta:=Tryz.askSpot;go_enter Tryz.func8,Tryz.ntmps8;go_wp2;go_quiet (fail);go_wp2;go_ret2;exact⟨rfl,_,rfl⟩
end
section
open Go Go.RowKit
theorem err_eq (a b:Int) (w:World):(binOp .eql 28 (.iface 71 (.int .i64 a)) (.iface 71 (.int .i64 b))).run Tryz.prog w = .ok (.bool (a==b)) w:=by kernel_rfl
set_option maxRecDepth 20000 in
set_option maxHeartbeats 2000000 in
theorem zs1 (w:World) (c:Nat) (h1:1<=c) (h2:c<=11):Calls Tryz.prog 27 #[.iface 71 (.int .i64 (c:Int))] w fun e w'=>e = .returned (.int .i64 (c:Int))∧w=w':=by
 have he:=err_eq;go_enter Tryz.func27,Tryz.ntmps27;go_wp2;go_loopg [3] 12 (fun m s wr=>∃ j:Nat,s = .int .i64 (j:Int)∧1<=j∧j<=c∧m=13-j∧wr=w)
 case atStart=>exact⟨1,by first | rfl | trivial,Nat.le_refl _,h1,by first | rfl | trivial,rfl⟩
 case round =>
   obtain⟨j,rfl,hj1,hj,hm,hww⟩:=hrel;obtain rfl:=hww.symm;have HM:=Zh hm;clear hm;have i1:(j:Int)<=11:=by omega
   by_cases hjc:j=c
   . subst hjc;go_wp2;go_ret;exact⟨rfl,rfl⟩
   . have hq:((c:Int)==(j:Int))=false:=(by simp;omega);go_wp2;go_roundg (13-(j+1))
     case measure=>have:=HM.out;omega
     case rel=>exact⟨j+1,by go_num,by omega,by omega,rfl,rfl⟩
end
section
open Go Go.RowKit
theorem eq4 (a0 a1 a2 a3 b0 b1 b2 b3:Int) (w:World):
   (Op.equalIn 10000 38 (.agg #[.int .u64 a0,.int .u64 a1,.int .u64 a2,.int .u64 a3]) (.agg #[.int .u64 b0,.int .u64 b1,.int .u64 b2,.int .u64 b3])).run Tryz.prog w = .ok (a0==b0&&a1==b1&&a2==b2&&a3==b3) w:=by
 have hs:∀ w:World,(sizeOf 22).run Tryz.prog w = .ok 1 w:=fun _=>by kernel_rfl
 have p0:∀ (c0 c1 c2 c3:Int) (w:World),(part 22 #[.int .u64 c0,.int .u64 c1,.int .u64 c2,.int .u64 c3] 0).run Tryz.prog w = .ok (.int .u64 c0) w:=fun _ _ _ _ _=>by kernel_rfl
 have p1:∀ (c0 c1 c2 c3:Int) (w:World),(part 22 #[.int .u64 c0,.int .u64 c1,.int .u64 c2,.int .u64 c3] 1).run Tryz.prog w = .ok (.int .u64 c1) w:=fun _ _ _ _ _=>by kernel_rfl
 have p2:∀ (c0 c1 c2 c3:Int) (w:World),(part 22 #[.int .u64 c0,.int .u64 c1,.int .u64 c2,.int .u64 c3] 2).run Tryz.prog w = .ok (.int .u64 c2) w:=fun _ _ _ _ _=>by kernel_rfl
 have p3:∀ (c0 c1 c2 c3:Int) (w:World),(part 22 #[.int .u64 c0,.int .u64 c1,.int .u64 c2,.int .u64 c3] 3).run Tryz.prog w = .ok (.int .u64 c3) w:=fun _ _ _ _ _=>by kernel_rfl
 have pe:∀ (a b:Int) (w:World),(Op.equalIn 9999 22 (.int .u64 a) (.int .u64 b)).run Tryz.prog w = .ok (a==b) w:=fun a b w=>run_equalIn_int (P:=Tryz.prog) w 9998 22 .u64 .u64 a b Tryz.underlying22
 rw[show (10000:Nat)=9999+1 from rfl];unfold Op.equalIn;simp only[Sem.run_bind,run_underlying Tryz.underlying38,Result.andThen_ok,hs];simp only[Std.Legacy.Range.forIn_eq_forIn_range',Std.Legacy.Range.size];simp only[show List.range' 0 ((4-0+1-1) / 1) 1=[0,1,2,3] from rfl,List.forIn_cons,List.forIn_nil,Sem.run_bind,p0,p1,p2,p3,pe,Result.andThen_ok,Nat.zero_mul,Nat.one_mul,Nat.mul_one];cases h0:a0==b0 <;> cases h1:a1==b1 <;> cases h2:a2==b2 <;> cases h3:a3==b3 <;> simp[p1,p2,p3,pe,go_sem,h1,h2,h3]
end
section
open Go Go.ChangeShapes Go.WideShapes Go.ChangeAt Go.RowKit
theorem Tryz.ownKnobNone:ownKnob Tryz.prog.godebug=none:=by kernel_rfl
theorem Tryz.laidOutOk:laidOutB Tryz.prog=true:=by kernel_rfl
section
variable {H:Type} {enc:TypeId×Value->H} {W:World} {base:Nat} {spare:Nat->Bool} {held:Bool} {v:Value} {d:DataW H} {ps:List MemPlace}
end
end
end Go.Proofs.YtgbdanddbgomhaaGreatDoor
