import Derived.Test.YtgbdanddbgomhaaDoorMw2
import Derived.Test.YtgbdanddbgomhaaDoorMw1
import Derived.Deep.QuietTactic
import Derived.Deep.DrawnRows
import Derived.Test.YtgbdanddbgomhaaDoorCards
import Derived.Test.YtgbdanddbgomhaaDoorTie
import Derived.ChangeMaps5
import Derived.LaidMore
import Derived.Stop.Joined
import Derived.Lib.LaidTab
import Derived.SevenTiedAt
set_option linter.unusedVariables false
set_option linter.unusedSimpArgs false
namespace Go.Proofs.YtgbdanddbgomhaaDoor
open Go Go.RowKit
section
structure St where
 pos:Nat
 opn:Int
 bad:Int
 spot:Int
namespace St
def fail (st:St) (at_ bad:Int):St:=if st.bad=0 then {st with bad:=bad,spot:=at_} else st
def peek (s:ByteArray) (st:St):Int:=if st.bad≠0∨s.size<=st.pos then -1 else (bt s st.pos:Int)
def step (st:St) (k:Nat):St:={st with pos:=st.pos+k}
def next (s:ByteArray) (st:St):Int×St:=if st.peek s<0 then (-1,st.fail s.size 2) else (st.peek s,st.step 1)
end St
def Rdr (w:World) (g:Nat) (s:ByteArray) (st:St):Prop:=
 w.heap[g]?=some (.cells #[.string s,.int .i64 (st.pos:Int),.int .i64 st.opn,.int .i64 st.bad,.int .i64 st.spot] 140 (0,0))
section
variable {w w':World} {g:Nat} {s:ByteArray} {st:St}
theorem Rdr.cell (h:Rdr w g s st):w.cell? ⟨g,0,none⟩=some (.string s)∧w.cell? ⟨g,1,none⟩=some (.int .i64 (st.pos:Int))∧w.cell? ⟨g,2,none⟩=some (.int .i64 st.opn)∧w.cell? ⟨g,3,none⟩=some (.int .i64 st.bad)∧w.cell? ⟨g,4,none⟩=some (.int .i64 st.spot):=by
 unfold Rdr at h;refine⟨?_,?_,?_,?_,?_⟩ <;> exact cell_of_row w g _ _ 140 (0,0) h
theorem Rdr.frozen (h:Rdr w g s st):w.frozen? ⟨g,0,none⟩=false∧w.frozen? ⟨g,1,none⟩=false∧w.frozen? ⟨g,2,none⟩=false∧w.frozen? ⟨g,3,none⟩=false∧w.frozen? ⟨g,4,none⟩=false:=by
 unfold Rdr at h;refine⟨?_,?_,?_,?_,?_⟩ <;> simp[World.frozen?,h]
theorem Rdr.lt (h:Rdr w g s st):g<w.heap.size:=za0 h
theorem Rdr.drew (h:Rdr w g s st):Rdr w.drew g s st:=h
theorem Rdr.drewN (h:Rdr w g s st) (n:Nat):Rdr (w.drewN n) g s st:=h
end
section
variable {w w':World} {g:Nat} {s:ByteArray} {st:St}
theorem Rdr.setPos (h:Rdr w g s st) (k:Nat):Rdr (w.setCell ⟨g,1,none⟩ (.int .i64 (k:Int))) g s {st with pos:=k}:=by
 unfold Rdr at *;simp[World.setCell,Array.getElem?_modify,h]
theorem Rdr.setOpn (h:Rdr w g s st) (k:Int):Rdr (w.setCell ⟨g,2,none⟩ (.int .i64 k)) g s {st with opn:=k}:=by
 unfold Rdr at *;simp[World.setCell,Array.getElem?_modify,h]
theorem Rdr.setBad (h:Rdr w g s st) (k:Int):Rdr (w.setCell ⟨g,3,none⟩ (.int .i64 k)) g s {st with bad:=k}:=by
 unfold Rdr at *;simp[World.setCell,Array.getElem?_modify,h]
theorem Rdr.setSpot (h:Rdr w g s st) (k:Int):Rdr (w.setCell ⟨g,4,none⟩ (.int .i64 k)) g s {st with spot:=k}:=by
 unfold Rdr at *;simp[World.setCell,Array.getElem?_modify,h]
theorem Rdr.stays (h:Rdr w g s st) (hb:Below w.heap.size w w'):Rdr w' g s st:=(hb.block g h.lt).trans h
theorem Rdr.put4 (h:Rdr w g s st) {g':Nat} (hg:g≠g') (q:Nat->Bool):Rdr (put4 w g' q) g s st:=by
 unfold Rdr Go.Proofs.YtgbdanddbgomhaaDoor.put4 at *;rw[Below.heap_setCell _ _ _ _ hg,Below.heap_setCell _ _ _ _ hg,Below.heap_setCell _ _ _ _ hg,Below.heap_setCell _ _ _ _ hg];exact h
theorem Rdr.far4 (h:Rdr w g s st) {g':Nat} (hg:g≠g') (v0 v1 v2 v3:Value):Rdr ((((w.setCell ⟨g',0,none⟩ v0).setCell ⟨g',1,none⟩ v1).setCell ⟨g',2,none⟩ v2).setCell ⟨g',3,none⟩ v3) g s st:=by
 unfold Rdr at *;rw[Below.heap_setCell _ _ _ _ hg,Below.heap_setCell _ _ _ _ hg,Below.heap_setCell _ _ _ _ hg,Below.heap_setCell _ _ _ _ hg];exact h
theorem Rdr.alloc (h:Rdr w g s st) (o:Obj):Rdr (w.alloc o) g s st:=(Below.heap_alloc w o g h.lt).trans h
end
theorem zax (w:World) (r:Option Nat):w.grownBy w r:=⟨rfl,rfl,rfl,Nat.le_refl _,fun _ _ _=>rfl⟩
theorem za7 {a b c:World} {r:Option Nat} (h:a.grownBy b r) (k:b.grownBy c r):a.grownBy c r:=
 ⟨k.os.trans h.os,k.tape.trans h.tape,k.output.trans h.output,Nat.le_trans h.size k.size,fun i hi hr=>(k.block i (Nat.lt_of_lt_of_le hi h.size) hr).trans (h.block i hi hr)⟩
theorem zb8 {a b:World} {g i:Nat} (h:a.grownBy b (some g)) (v:Value):a.grownBy (b.setCell ⟨g,i,none⟩ v) (some g):=
 za7 h ⟨rfl,rfl,rfl,by simp[World.setCell],fun k _ hk=>Below.heap_setCell _ _ _ _ (by intro e;subst e;exact hk rfl)⟩
theorem zbv {a b:World} {r:Option Nat} (h:a.grownBy b r):a.grownBy b.drew r:=⟨h.os,h.tape,h.output,h.size,h.block⟩
theorem zab {a b:World} {r:Option Nat} (h:a.grownBy b r) (n:Nat):a.grownBy (b.drewN n) r:=⟨h.os,h.tape,h.output,h.size,h.block⟩
theorem zak {a b:World} {r:Option Nat} (h:a.grownBy b r) (o:Obj):a.grownBy (b.alloc o) r:=
 za7 h ⟨rfl,rfl,rfl,by simp,fun k hk _=>Below.heap_alloc _ _ _ hk⟩
theorem zaf {a b c:World} {r:Option Nat} (h:a.grownBy b r) (k:Below b.heap.size b c):a.grownBy c r:=
 za7 h ⟨k.os,k.tape,k.output,k.size,fun i hi _=>k.block i hi⟩
theorem za4 {a b:World} {g g' i:Nat} (h:a.grownBy b (some g)) (hg:a.heap.size<=g') (v:Value):a.grownBy (b.setCell ⟨g',i,none⟩ v) (some g):=
 ⟨h.os,h.tape,h.output,by simpa [World.setCell] using h.size,fun k hk hr=>(Below.heap_setCell _ _ _ _ (by show k≠g';omega)).trans (h.block k hk hr)⟩
theorem zbu {a b:World} {g g':Nat} (h:a.grownBy b (some g)) (hg:a.heap.size<=g') (q:Nat->Bool):a.grownBy (put4 b g' q) (some g):=
 za4 (za4 (za4 (za4 h hg _) hg _) hg _) hg _
set_option maxHeartbeats 400000 in
theorem zct (w:World) (g:Nat) (s:ByteArray) (st:St) (a b:Int) (h:Rdr w g s st):
   Calls Tryd.prog 121 #[.pointer (some ⟨g,0,none⟩),.int .i64 a,.int .i64 b] w fun e w'=>e = .returned (.tuple #[])∧Rdr w' g s (st.fail a b)∧w.grownBy w' (some g):=by
 obtain⟨c0,c1,c2,c3,c4⟩:=h.cell;obtain⟨f0,f1,f2,f3,f4⟩:=h.frozen
 by_cases hb:st.bad=0
 . have hb':(st.bad==0)=true:=(by simp[hb]);have e:st.fail a b={st with bad:=b,spot:=a}:=(by unfold St.fail;rw[if_pos hb]);rw[e];clear e hb;go_enter Tryd.func121,Tryd.ntmps121;go_wp2;go_end0;exact⟨rfl,(h.setBad b).setSpot a,zb8 (zb8 (zax _ _) _) _⟩
 . have hb':(st.bad==0)=false:=(by simp[hb]);have e:st.fail a b=st:=(by unfold St.fail;rw[if_neg hb]);rw[e];clear e hb;go_enter Tryd.func121,Tryd.ntmps121;go_wp2;go_end0;exact⟨rfl,h,zax _ _⟩
theorem zu3 (w:World) (m n:Nat):(w.drewN m).drewN n=w.drewN (m+n):=by
 unfold World.drewN;simp[Nat.add_assoc]
set_option maxHeartbeats 400000 in
theorem zai (w:World) (g:Nat) (s:ByteArray) (st:St) (h:Rdr w g s st) (hs:s.size<=1000):
   Calls Tryd.prog 91 #[.pointer (some ⟨g,0,none⟩)] w fun e w'=>e = .returned (.int .i64 (st.peek s))∧∃ n,w'=w.drewN n:=by
 obtain⟨c0,c1,c2,c3,c4⟩:=h.cell
 by_cases hb:st.bad=0
 . have hb':(st.bad != 0)=false:=by simp[hb]
   by_cases hlt:st.pos<s.size
   . have hd:decide (s.size<=st.pos)=false:=(by simp;omega);have e:st.peek s=((s[st.pos]'hlt).toNat:Int):=(by unfold St.peek;rw[if_neg (by omega),zw3 s _ hlt]);rw[e];clear e hb;have k0:(0:Int)<=(st.pos:Int):=(by omega);have k1:(st.pos:Int)<(s.size:Int):=(by omega);go_enter Tryd.func91,Tryd.ntmps91;go_wp2;go_quiet (fail);go_wp2;go_quiet (fail);go_wp2;go_ret;refine⟨congrArg Ending.returned (congrArg (Value.int .i64) ?_),_,zu3 _ _ _⟩;have:=UInt8.toNat_lt (s[st.pos]'hlt);unfold wrap64;omega
   . have hd:decide (s.size<=st.pos)=true:=(by simp;omega);have e:st.peek s = -1:=(by unfold St.peek;rw[if_pos (by omega)]);rw[e];clear e hb;go_enter Tryd.func91,Tryd.ntmps91;go_wp2;go_quiet (fail);go_wp2;go_ret;exact⟨rfl,_,rfl⟩
 . have hb':(st.bad != 0)=true:=(by simp[hb]);have e:st.peek s = -1:=(by unfold St.peek;rw[if_pos (by omega)]);rw[e];clear e hb;go_enter Tryd.func91,Tryd.ntmps91;go_wp2;go_quiet (fail);go_wp2;go_ret;exact⟨rfl,_,rfl⟩
end
theorem zhx (s:ByteArray) (st:St) : -1<=st.peek s∧st.peek s<=255:=by
 have:=zwx s st.pos;unfold St.peek;split <;> omega
theorem zar (s:ByteArray) (st:St) (h:0<=st.peek s):st.bad=0∧st.pos<s.size:=by
 unfold St.peek at h;split at h
 . omega
 . omega
set_option maxHeartbeats 400000 in
theorem zbb (w:World) (g:Nat) (s:ByteArray) (st:St) (h:Rdr w g s st) (hs:s.size<=1000):
   Calls Tryd.prog 119 #[.pointer (some ⟨g,0,none⟩)] w fun e w'=>e = .returned (.int .i64 (st.next s).1)∧Rdr w' g s (st.next s).2∧w.grownBy w' (some g):=by
 obtain⟨c0,c1,c2,c3,c4⟩:=h.cell;obtain⟨f0,f1,f2,f3,f4⟩:=h.frozen;have hbd:=zhx s st
 by_cases hn:st.peek s<0
 . have e:st.next s=(-1,st.fail s.size 2):=(by unfold St.next;rw[if_pos hn]);rw[e];clear e;go_enter Tryd.func119,Tryd.ntmps119;go_wp2_with (first
     | (go_at_call 91;(with_reducible refine (zai _ g s st h hs).mono ?_);rintro e w1 ⟨rfl,n,rfl⟩)
     | (go_at_call 121;(with_reducible refine (zct _ g s st _ _ (h.drewN _)).mono ?_);rintro e w2 ⟨rfl,hr,ho⟩))
   go_ret;exact⟨rfl,hr,za7 (zab (zax _ _) _) ho⟩
 . have hp:=zar s st (by omega);have e:st.next s=(st.peek s,st.step 1):=(by unfold St.next;rw[if_neg hn]);rw[e];clear e;have hp1:=hp.2;clear hp;go_enter Tryd.func119,Tryd.ntmps119;go_wp2_with (go_at_call 91;(with_reducible refine (zai _ g s st h hs).mono ?_);rintro e w1 ⟨rfl,n,rfl⟩);go_ret;refine⟨rfl,?_,?_⟩
   . exact h.setPos (st.pos+1)
   . exact zab (zb8 (zax _ _) _) _
theorem zcb (b:UInt8):wrap64 (b.toNat:Int)=(b.toNat:Int):=by
 have:=UInt8.toNat_lt b;unfold wrap64;omega
def inT (c:Int) (s:ByteArray):Bool:=s.data.toList.any fun b=>(b.toNat:Int)==c
theorem zd5 (c:Int) (s:ByteArray) (h:inT c s=true):0<=c:=by
 unfold inT at h;rw[List.any_eq_true] at h;obtain⟨b,_,hb⟩:=h;have:(b.toNat:Int)=c:=by simpa using hb
 omega
def inUpto (c:Int) (s:ByteArray) (k:Nat):Bool:=(s.data.toList.take k).any fun b=>(b.toNat:Int)==c
set_option maxHeartbeats 400000 in
theorem in_p (w:World) (c:Int) (s:ByteArray) (hs:s.size<=1000):
   Calls Tryd.prog 131 #[.int .i64 c,.string s] w fun e w'=>e = .returned (.bool (inT c s))∧w=w':=by
 go_enter Tryd.func131,Tryd.ntmps131;go_wp2;go_loop [5] (fun i=>∃ k:Nat,k<=s.size∧i = .int .i64 k∧inUpto c s k=false) (fun i=>s.size-(intOf i).toNat)
 case atStart=>exact⟨0,Nat.zero_le _,rfl,by simp[inUpto]⟩
 case round =>
   obtain⟨k,hk,rfl,hin⟩:=hrel;have HI:=Zh hin;clear hin
   by_cases hlt:k<s.size
   . by_cases he:((s[k]'hlt).toNat:Int)=c
     . have he':(wrap64 ((s[k]'hlt).toNat:Int)==c)=true:=(by rw[zcb];simp[he]);have HE:=Zh he;clear he;go_wp2;go_ret;refine⟨congrArg Ending.returned (congrArg Value.bool ?_),rfl⟩;symm;unfold inT;rw[List.any_eq_true];rw[zcb] at he';exact⟨s[k]'hlt,by simp[ByteArray.getElem_eq_getElem_data],he'⟩
     . have he':(wrap64 ((s[k]'hlt).toNat:Int)==c)=false:=(by rw[zcb];simp[he]);clear he;go_wp2;go_round
       case rel =>
         refine⟨k+1,by omega,by go_num,?_⟩;have hin:=HI.out;unfold inUpto at *;rw[List.take_succ_eq_append_getElem (by simpa using hlt),List.any_append,hin];rw[zcb] at he'
         simpa [ByteArray.getElem_eq_getElem_data] using he'
       case measure=>simp[intOf];omega
   . go_wp2;go_ret;refine⟨congrArg Ending.returned (congrArg Value.bool ?_),rfl⟩;have hin:=HI.out;unfold inUpto at hin;unfold inT;rw[List.take_of_length_le (by simp;omega)] at hin;exact hin.symm
namespace St
def escaped (s:ByteArray) (st:St):Int×St:=
 let c:=(st.next s).1
 let st1:=(st.next s).2
 if c=110 then (10,st1) else if c=116 then (9,st1) else
 if inT c ⟨#[92,46,91,93,40,41,123,125,124,63,42,43,94,36,45,47]⟩=true then (c,st1) else (0,st1.fail ((st1.pos:Int)-1) 2)
def member (s:ByteArray) (st:St):Int×St:=
 let c:=(st.next s).1
 let st1:=(st.next s).2
 let st2:=if c=93 then st1.fail ((st1.pos:Int)-1) 2 else st1
 if c=92 then st2.escaped s else (max c 0,st2)
def number (s:ByteArray) (st:St):Int×St:=
 let c:=(st.next s).1
 let st1:=(st.next s).2
 if c<48∨57<c then (0,st1.fail ((st1.pos:Int)-1) 2) else
 let d:=st1.peek s
 if 48<=d∧d<=57 then (10*(c-48)+d-48,st1.step 1) else (c-48,st1)
end St
theorem ze8 (s:ByteArray) (st:St) : -1<=(st.next s).1∧(st.next s).1<=255:=by
 have:=zhx s st;unfold St.next;split <;> simp <;> omega
theorem zby (s:ByteArray) (st:St) (h:st.pos<=s.size):(st.next s).2.pos<=s.size∧st.pos<=(st.next s).2.pos:=by
 by_cases hn:st.peek s<0
 . have e:st.next s=(-1,st.fail s.size 2):=(by unfold St.next;rw[if_pos hn]);rw[e];unfold St.fail;split <;> simp <;> omega
 . have hp:=zar s st (by omega);have e:st.next s=(st.peek s,st.step 1):=(by unfold St.next;rw[if_neg hn]);rw[e];simp[St.step];omega
theorem zey (st:St) (a b:Int):(st.fail a b).pos=st.pos:=by unfold St.fail;split <;> rfl
set_option maxHeartbeats 400000 in
theorem zjp (w:World) (g:Nat) (s:ByteArray) (st:St) (h:Rdr w g s st) (hs:s.size<=1000) (hpos:st.pos<=s.size):
   Calls Tryd.prog 130 #[.pointer (some ⟨g,0,none⟩)] w fun e w'=>e = .returned (.int .u8 (st.escaped s).1)∧Rdr w' g s (st.escaped s).2∧w.grownBy w' (some g):=by
 have hbd:=ze8 s st;have hps:=zby s st hpos;have hnot:∀ (x:Bool) (w:World),(Op.unary .not (.bool x)).run Tryd.prog w = .ok (.bool (!x)) w:=fun _ _=>rfl
 have HN:=Zh (zbb w g s st h hs);generalize hc:(st.next s).1=c at *;generalize h1:(st.next s).2=st1 at *;have HE:Hid (st.escaped s=if c=110 then (10,st1) else if c=116 then (9,st1) else if inT c ⟨#[92,46,91,93,40,41,123,125,124,63,42,43,94,36,45,47]⟩=true then (c,st1) else (0,st1.fail ((st1.pos:Int)-1) 2)):=by
   unfold St.escaped;rw[hc,h1];exact rfl
 clear hc h1
 by_cases e1:c=110
 . have hE:=HE.out;rw[if_pos e1] at hE;rw[hE];clear hE HE;have e1':(c==110)=true:=(by simp[e1]);clear e1;go_enter Tryd.func130,Tryd.ntmps130;go_wp2_with (go_at_call 119;(with_reducible refine (HN.out).mono ?_);rintro e w1 ⟨rfl,hr,ho⟩);go_ret;exact⟨rfl,hr,ho⟩
 . have e1':(c==110)=false:=(by simp[e1]);have hE:=HE.out;rw[if_neg e1] at hE;clear e1 HE
   by_cases e2:c=116
   . rw[if_pos e2] at hE;rw[hE];clear hE;have e2':(c==116)=true:=(by simp[e2]);clear e2;go_enter Tryd.func130,Tryd.ntmps130;go_wp2_with (go_at_call 119;(with_reducible refine (HN.out).mono ?_);rintro e w1 ⟨rfl,hr,ho⟩);go_ret;exact⟨rfl,hr,ho⟩
   . have e2':(c==116)=false:=(by simp[e2]);rw[if_neg e2] at hE;clear e2;have HI:=Zh (fun w=>in_p w c ⟨#[92,46,91,93,40,41,123,125,124,63,42,43,94,36,45,47]⟩ (by decide));generalize hi:inT c ⟨#[92,46,91,93,40,41,123,125,124,63,42,43,94,36,45,47]⟩=i at *;have HI2:=Zh hi;clear hi;cases i with
     | true =>
       rw[if_pos rfl] at hE;rw[hE];clear hE;have c0:0<=c:=zd5 _ _ HI2.out;go_enter Tryd.func130,Tryd.ntmps130;go_wp2_with (first
         | (go_at_call 119;(with_reducible refine (HN.out).mono ?_);rintro e w1 ⟨rfl,hr,ho⟩)
         | (go_at_call 131;(with_reducible refine (HI.out _).mono ?_);rintro e w2 ⟨rfl,rfl⟩))
       go_ret;exact⟨rfl,hr,ho⟩
     | false =>
       rw[if_neg (by simp)] at hE;rw[hE];clear hE;go_enter Tryd.func130,Tryd.ntmps130;go_wp2_with (first
         | (go_at_call 119;(with_reducible refine (HN.out).mono ?_);rintro e w1 ⟨rfl,hr,ho⟩;obtain⟨k0,k1,k2,k3,k4⟩:=hr.cell)
         | (go_at_call 131;(with_reducible refine (HI.out _).mono ?_);rintro e w2 ⟨rfl,rfl⟩)
         | (go_at_call 121;(with_reducible refine (zct _ g s st1 _ _ hr).mono ?_);rintro e w3 ⟨rfl,hr3,ho3⟩))
       go_ret;exact⟨rfl,hr3,za7 ho ho3⟩
section
attribute [local go_sem ↓] Go.wp_at_zero Go.wp_at_succ
def Tab (w:World):Prop:=1<w.heap.size∧∀ k,k<64->w.cell? ⟨1,k,none⟩=some (.int .u8 (deBr.getD k 0))
theorem Tab.below {w w':World} {B:Nat} (h:Tab w) (hb:Below B w w') (hB:1<B):Tab w':=⟨Nat.lt_of_lt_of_le h.1 hb.size,fun k hk=>(hb.cell (p:=⟨1,k,none⟩) hB).trans (h.2 k hk)⟩
set_option maxHeartbeats 1000000 in
theorem tz_p (w:World) (x k:Nat) (hx:x<18446744073709551616) (hk:k<64) (h:x &&& (2 ^ 64-x)=2 ^ k) (ht:Tab w):Calls Tryd.prog 109 #[.int .u64 x] w fun e w'=>e = .returned (.int .i64 k)∧w=w':=by
 have hx0:x≠0:=by
   rintro rfl;have:=Nat.two_pow_pos k;simp at h;omega
 have hb0:((x:Int)==0)=false:=(by simp;omega);have e1:IntKind.u64.wrap (-(x:Int))=((2 ^ 64-x:Nat):Int):=by
   rw[IntKind.wrap_u64];have:(2:Nat) ^ 64=18446744073709551616:=by decide
   omega
 have e2:bits .and .u64 (x:Int) ((2 ^ 64-x:Nat):Int)=((2 ^ k:Nat):Int):=by
   rw[bits_and_u64_nat _ _ hx (by have:(2:Nat) ^ 64=18446744073709551616:=(by decide);omega),h]
 obtain⟨d1,d2⟩:=zvx ⟨k,hk⟩;simp only at d1 d2;have e3:IntKind.u64.wrap (((2 ^ k:Nat):Int)*285870213051353865)=((2 ^ k*285870213051353865 % 18446744073709551616:Nat):Int):=by
   rw[IntKind.wrap_u64];omega
 generalize 2 ^ k*285870213051353865 % 18446744073709551616=y at d1 d2 e3;have hc:=ht.2 _ d2;rw[d1] at hc;generalize hp:((2 ^ k:Nat))=p2 at *;generalize hn:2 ^ 64-x=nx at *;have j1:(y:Int) / 288230376151711744<64:=(by omega);have j2:((y:Int) / 288230376151711744).toNat=y / 288230376151711744:=(by omega);have j0:(0:Int)<=(y:Int) / 288230376151711744:=(by omega);clear d1 h hp hn hx0;go_enter Tryd.func109,Tryd.ntmps109;go_wp2;go_ret;exact⟨rfl,rfl⟩
end
section
open Go Go.ChangeShapes Go.WideShapes Go.ChangeAt Go.RowKit
def deInts:List Int:=deBr.map fun (n:Nat)=>(n:Int)
theorem zvh {H:Type}:(Rows.laid_math_bits_deBruijn64tab:DataW H)=Lib.tabData .u8 deInts:=rfl
theorem gDe : Tryd.prog.globalNamed "math/bits.deBruijn64tab" = some 1 := by kernel_rfl
theorem tDe:(Tryd.prog.globals[1]?).map (·.type)=some 196:=by kernel_rfl
def laidDe : List (String × DataW Unit) := [("math/bits.deBruijn64tab", Rows.laid_math_bits_deBruijn64tab)]
theorem zkb {W:World} (h:laidMetH Tryd.prog laidDe W):Tab W:=by
 rw[MakeChecks.laidMetH_plain _ _ _ (by kernel_rfl)] at h;unfold laidDe at h;rw[zvh] at h;have ht:=Lib.tabIs_of_head gDe tDe Tryd.underlying196 Tryd.underlying5 (by kernel_rfl) (by kernel_rfl) h;have hc:∀ k,k<64->W.cell? ⟨1,k,none⟩=some (.int .u8 (deBr.getD k 0:Nat)):=fun k hk=>by
   have hl:deInts.length=64:=(by decide +kernel);rw[ht.cell gDe k (by omega)];have e:deInts.getD k 0=((deBr.getD k 0:Nat):Int):=by
     unfold deInts;rw[List.getD_eq_getElem?_getD,List.getD_eq_getElem?_getD,List.getElem?_map];cases deBr[k]? <;> rfl
   rw[e]
 exact⟨World.block_lt_of_cell? W _ (hc 0 (by omega)),hc⟩
theorem zu4 (os:Os) (args:Array Value):laidMetH Tryd.prog laidDe ((World.doorLaid Tryd.prog 14 os).forCall (fun _ _=>0) ⟨#[],args,[]⟩).memory:=
 laidMetH_of_parts3 (fuel:=8) (laidMet_of_run' 8 (by kernel_rfl) (by kernel_rfl)) (by kernel_rfl) (by kernel_rfl)
end
end Go.Proofs.YtgbdanddbgomhaaDoor
