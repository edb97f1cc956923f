import Derived.Test.YtgbdanddbgomhaaGreatDoorMv3
import Derived.Test.YtgbdanddbgomhaaGreatDoorMv2
import Derived.Laws.Cover2
set_option linter.unusedVariables false
set_option linter.unusedSimpArgs false
namespace Go.Proofs.YtgbdanddbgomhaaGreatDoor
open Go Go.RowKit
section
structure St where
 pos:Nat
 opn:Int
 bad:Int
 spot:Int
namespace St
def fail (st:St) (at_ bad:Int):St:=if st.bad=0 then {st with bad:=bad,spot:=at_} else st
def peek (s:ByteArray) (st:St):Int:=if st.bad≠0∨s.size<=st.pos then -1 else (bt s st.pos:Int)
def step (st:St) (k:Nat):St:={st with pos:=st.pos+k}
def next (s:ByteArray) (st:St):Int×St:=if st.peek s<0 then (-1,st.fail s.size 2) else (st.peek s,st.step 1)
end St
def Rdr (w:World) (g:Nat) (s:ByteArray) (st:St):Prop:=
 w.heap[g]?=some (.cells #[.string s,.int .i64 (st.pos:Int),.int .i64 st.opn,.int .i64 st.bad,.int .i64 st.spot] 103 (0,0))
section
variable {w w':World} {g:Nat} {s:ByteArray} {st:St}
theorem Rdr.cell (h:Rdr w g s st):w.cell? ⟨g,0,none⟩=some (.string s)∧w.cell? ⟨g,1,none⟩=some (.int .i64 (st.pos:Int))∧w.cell? ⟨g,2,none⟩=some (.int .i64 st.opn)∧w.cell? ⟨g,3,none⟩=some (.int .i64 st.bad)∧w.cell? ⟨g,4,none⟩=some (.int .i64 st.spot):=by
 unfold Rdr at h;refine⟨?_,?_,?_,?_,?_⟩ <;> exact cell_of_row w g _ _ 103 (0,0) h
theorem Rdr.frozen (h:Rdr w g s st):w.frozen? ⟨g,0,none⟩=false∧w.frozen? ⟨g,1,none⟩=false∧w.frozen? ⟨g,2,none⟩=false∧w.frozen? ⟨g,3,none⟩=false∧w.frozen? ⟨g,4,none⟩=false:=by
 unfold Rdr at h;refine⟨?_,?_,?_,?_,?_⟩ <;> simp[World.frozen?,h]
theorem Rdr.lt (h:Rdr w g s st):g<w.heap.size:=za0 h
theorem Rdr.drew (h:Rdr w g s st):Rdr w.drew g s st:=h
theorem Rdr.drewN (h:Rdr w g s st) (n:Nat):Rdr (w.drewN n) g s st:=h
end
section
variable {w w':World} {g:Nat} {s:ByteArray} {st:St}
theorem Rdr.setPos (h:Rdr w g s st) (k:Nat):Rdr (w.setCell ⟨g,1,none⟩ (.int .i64 (k:Int))) g s {st with pos:=k}:=by
 unfold Rdr at *;simp[World.setCell,Array.getElem?_modify,h]
theorem Rdr.setOpn (h:Rdr w g s st) (k:Int):Rdr (w.setCell ⟨g,2,none⟩ (.int .i64 k)) g s {st with opn:=k}:=by
 unfold Rdr at *;simp[World.setCell,Array.getElem?_modify,h]
theorem Rdr.setBad (h:Rdr w g s st) (k:Int):Rdr (w.setCell ⟨g,3,none⟩ (.int .i64 k)) g s {st with bad:=k}:=by
 unfold Rdr at *;simp[World.setCell,Array.getElem?_modify,h]
theorem Rdr.setSpot (h:Rdr w g s st) (k:Int):Rdr (w.setCell ⟨g,4,none⟩ (.int .i64 k)) g s {st with spot:=k}:=by
 unfold Rdr at *;simp[World.setCell,Array.getElem?_modify,h]
theorem Rdr.stays (h:Rdr w g s st) (hb:Below w.heap.size w w'):Rdr w' g s st:=(hb.block g h.lt).trans h
theorem Rdr.put4 (h:Rdr w g s st) {g':Nat} (hg:g≠g') (q:Nat->Bool):Rdr (put4 w g' q) g s st:=by
 unfold Rdr Go.Proofs.YtgbdanddbgomhaaGreatDoor.put4 at *;rw[Below.heap_setCell _ _ _ _ hg,Below.heap_setCell _ _ _ _ hg,Below.heap_setCell _ _ _ _ hg,Below.heap_setCell _ _ _ _ hg];exact h
theorem Rdr.far4 (h:Rdr w g s st) {g':Nat} (hg:g≠g') (v0 v1 v2 v3:Value):Rdr ((((w.setCell ⟨g',0,none⟩ v0).setCell ⟨g',1,none⟩ v1).setCell ⟨g',2,none⟩ v2).setCell ⟨g',3,none⟩ v3) g s st:=by
 unfold Rdr at *;rw[Below.heap_setCell _ _ _ _ hg,Below.heap_setCell _ _ _ _ hg,Below.heap_setCell _ _ _ _ hg,Below.heap_setCell _ _ _ _ hg];exact h
theorem Rdr.alloc (h:Rdr w g s st) (o:Obj):Rdr (w.alloc o) g s st:=(Below.heap_alloc w o g h.lt).trans h
end
theorem za7 (w:World) (r:Option Nat):w.grownBy w r:=⟨rfl,rfl,rfl,Nat.le_refl _,fun _ _ _=>rfl⟩
theorem za2 {a b c:World} {r:Option Nat} (h:a.grownBy b r) (k:b.grownBy c r):a.grownBy c r:=
 ⟨k.os.trans h.os,k.tape.trans h.tape,k.output.trans h.output,Nat.le_trans h.size k.size,fun i hi hr=>(k.block i (Nat.lt_of_lt_of_le hi h.size) hr).trans (h.block i hi hr)⟩
theorem zaa {a b:World} {g i:Nat} (h:a.grownBy b (some g)) (v:Value):a.grownBy (b.setCell ⟨g,i,none⟩ v) (some g):=
 za2 h ⟨rfl,rfl,rfl,by simp[World.setCell],fun k _ hk=>Below.heap_setCell _ _ _ _ (by intro e;subst e;exact hk rfl)⟩
theorem zb2 {a b:World} {r:Option Nat} (h:a.grownBy b r):a.grownBy b.drew r:=⟨h.os,h.tape,h.output,h.size,h.block⟩
theorem za3 {a b:World} {r:Option Nat} (h:a.grownBy b r) (n:Nat):a.grownBy (b.drewN n) r:=⟨h.os,h.tape,h.output,h.size,h.block⟩
theorem za8 {a b:World} {r:Option Nat} (h:a.grownBy b r) (o:Obj):a.grownBy (b.alloc o) r:=
 za2 h ⟨rfl,rfl,rfl,by simp,fun k hk _=>Below.heap_alloc _ _ _ hk⟩
theorem zab {a b c:World} {r:Option Nat} (h:a.grownBy b r) (k:Below b.heap.size b c):a.grownBy c r:=
 za2 h ⟨k.os,k.tape,k.output,k.size,fun i hi _=>k.block i hi⟩
theorem za5 {a b:World} {g g' i:Nat} (h:a.grownBy b (some g)) (hg:a.heap.size<=g') (v:Value):a.grownBy (b.setCell ⟨g',i,none⟩ v) (some g):=
 ⟨h.os,h.tape,h.output,by simpa [World.setCell] using h.size,fun k hk hr=>(Below.heap_setCell _ _ _ _ (by show k≠g';omega)).trans (h.block k hk hr)⟩
theorem zb1 {a b:World} {g g':Nat} (h:a.grownBy b (some g)) (hg:a.heap.size<=g') (q:Nat->Bool):a.grownBy (put4 b g' q) (some g):=
 za5 (za5 (za5 (za5 h hg _) hg _) hg _) hg _
set_option maxHeartbeats 400000 in
theorem zcc (w:World) (g:Nat) (s:ByteArray) (st:St) (a b:Int) (h:Rdr w g s st):
   Calls Tryz.prog 109 #[.pointer (some ⟨g,0,none⟩),.int .i64 a,.int .i64 b] w fun e w'=>e = .returned (.tuple #[])∧Rdr w' g s (st.fail a b)∧w.grownBy w' (some g):=by
 obtain⟨c0,c1,c2,c3,c4⟩:=h.cell;obtain⟨f0,f1,f2,f3,f4⟩:=h.frozen
 by_cases hb:st.bad=0
 . have hb':(st.bad==0)=true:=(by simp[hb]);have e:st.fail a b={st with bad:=b,spot:=a}:=(by unfold St.fail;rw[if_pos hb]);rw[e];clear e hb;go_enter Tryz.func109,Tryz.ntmps109;go_wp2;go_end0;exact⟨rfl,(h.setBad b).setSpot a,zaa (zaa (za7 _ _) _) _⟩
 . have hb':(st.bad==0)=false:=(by simp[hb]);have e:st.fail a b=st:=(by unfold St.fail;rw[if_neg hb]);rw[e];clear e hb;go_enter Tryz.func109,Tryz.ntmps109;go_wp2;go_end0;exact⟨rfl,h,za7 _ _⟩
theorem zq1 (w:World) (m n:Nat):(w.drewN m).drewN n=w.drewN (m+n):=by
 unfold World.drewN;simp[Nat.add_assoc]
set_option maxHeartbeats 400000 in
theorem zae (w:World) (g:Nat) (s:ByteArray) (st:St) (h:Rdr w g s st) (hs:s.size<=1000):
   Calls Tryz.prog 72 #[.pointer (some ⟨g,0,none⟩)] w fun e w'=>e = .returned (.int .i64 (st.peek s))∧∃ n,w'=w.drewN n:=by
 obtain⟨c0,c1,c2,c3,c4⟩:=h.cell
 by_cases hb:st.bad=0
 . have hb':(st.bad != 0)=false:=by simp[hb]
   by_cases hlt:st.pos<s.size
   . have hd:decide (s.size<=st.pos)=false:=(by simp;omega);have e:st.peek s=((s[st.pos]'hlt).toNat:Int):=(by unfold St.peek;rw[if_neg (by omega),zdw s _ hlt]);rw[e];clear e hb;have k0:(0:Int)<=(st.pos:Int):=(by omega);have k1:(st.pos:Int)<(s.size:Int):=(by omega);go_enter Tryz.func72,Tryz.ntmps72;go_wp2;go_quiet (fail);go_wp2;go_quiet (fail);go_wp2;go_ret;refine⟨congrArg Ending.returned (congrArg (Value.int .i64) ?_),_,zq1 _ _ _⟩;have:=UInt8.toNat_lt (s[st.pos]'hlt);unfold wrap64;omega
   . have hd:decide (s.size<=st.pos)=true:=(by simp;omega);have e:st.peek s = -1:=(by unfold St.peek;rw[if_pos (by omega)]);rw[e];clear e hb;go_enter Tryz.func72,Tryz.ntmps72;go_wp2;go_quiet (fail);go_wp2;go_ret;exact⟨rfl,_,rfl⟩
 . have hb':(st.bad != 0)=true:=(by simp[hb]);have e:st.peek s = -1:=(by unfold St.peek;rw[if_pos (by omega)]);rw[e];clear e hb;go_enter Tryz.func72,Tryz.ntmps72;go_wp2;go_quiet (fail);go_wp2;go_ret;exact⟨rfl,_,rfl⟩
end
theorem zgk (s:ByteArray) (st:St) : -1<=st.peek s∧st.peek s<=255:=by
 have:=zhy s st.pos;unfold St.peek;split <;> omega
theorem zaj (s:ByteArray) (st:St) (h:0<=st.peek s):st.bad=0∧st.pos<s.size:=by
 unfold St.peek at h;split at h
 . omega
 . omega
set_option maxHeartbeats 400000 in
theorem zb3 (w:World) (g:Nat) (s:ByteArray) (st:St) (h:Rdr w g s st) (hs:s.size<=1000):
   Calls Tryz.prog 107 #[.pointer (some ⟨g,0,none⟩)] w fun e w'=>e = .returned (.int .i64 (st.next s).1)∧Rdr w' g s (st.next s).2∧w.grownBy w' (some g):=by
 obtain⟨c0,c1,c2,c3,c4⟩:=h.cell;obtain⟨f0,f1,f2,f3,f4⟩:=h.frozen;have hbd:=zgk s st
 by_cases hn:st.peek s<0
 . have e:st.next s=(-1,st.fail s.size 2):=(by unfold St.next;rw[if_pos hn]);rw[e];clear e;go_enter Tryz.func107,Tryz.ntmps107;go_wp2_with (first
     | (go_at_call 72;(with_reducible refine (zae _ g s st h hs).mono ?_);rintro e w1 ⟨rfl,n,rfl⟩)
     | (go_at_call 109;(with_reducible refine (zcc _ g s st _ _ (h.drewN _)).mono ?_);rintro e w2 ⟨rfl,hr,ho⟩))
   go_ret;exact⟨rfl,hr,za2 (za3 (za7 _ _) _) ho⟩
 . have hp:=zaj s st (by omega);have e:st.next s=(st.peek s,st.step 1):=(by unfold St.next;rw[if_neg hn]);rw[e];clear e;have hp1:=hp.2;clear hp;go_enter Tryz.func107,Tryz.ntmps107;go_wp2_with (go_at_call 72;(with_reducible refine (zae _ g s st h hs).mono ?_);rintro e w1 ⟨rfl,n,rfl⟩);go_ret;refine⟨rfl,?_,?_⟩
   . exact h.setPos (st.pos+1)
   . exact za3 (zaa (za7 _ _) _) _
theorem zbz (b:UInt8):wrap64 (b.toNat:Int)=(b.toNat:Int):=by
 have:=UInt8.toNat_lt b;unfold wrap64;omega
def inT (c:Int) (s:ByteArray):Bool:=s.data.toList.any fun b=>(b.toNat:Int)==c
theorem zck (c:Int) (s:ByteArray) (h:inT c s=true):0<=c:=by
 unfold inT at h;rw[List.any_eq_true] at h;obtain⟨b,_,hb⟩:=h;have:(b.toNat:Int)=c:=by simpa using hb
 omega
def inUpto (c:Int) (s:ByteArray) (k:Nat):Bool:=(s.data.toList.take k).any fun b=>(b.toNat:Int)==c
set_option maxHeartbeats 400000 in
theorem in_p (w:World) (c:Int) (s:ByteArray) (hs:s.size<=1000):
   Calls Tryz.prog 123 #[.int .i64 c,.string s] w fun e w'=>e = .returned (.bool (inT c s))∧w=w':=by
 go_enter Tryz.func123,Tryz.ntmps123;go_wp2;go_loop [5] (fun i=>∃ k:Nat,k<=s.size∧i = .int .i64 k∧inUpto c s k=false) (fun i=>s.size-(intOf i).toNat)
 case atStart=>exact⟨0,Nat.zero_le _,rfl,by simp[inUpto]⟩
 case round =>
   obtain⟨k,hk,rfl,hin⟩:=hrel;have HI:=Zh hin;clear hin
   by_cases hlt:k<s.size
   . by_cases he:((s[k]'hlt).toNat:Int)=c
     . have he':(wrap64 ((s[k]'hlt).toNat:Int)==c)=true:=(by rw[zbz];simp[he]);have HE:=Zh he;clear he;go_wp2;go_ret;refine⟨congrArg Ending.returned (congrArg Value.bool ?_),rfl⟩;symm;unfold inT;rw[List.any_eq_true];rw[zbz] at he';exact⟨s[k]'hlt,by simp[ByteArray.getElem_eq_getElem_data],he'⟩
     . have he':(wrap64 ((s[k]'hlt).toNat:Int)==c)=false:=(by rw[zbz];simp[he]);clear he;go_wp2;go_round
       case rel =>
         refine⟨k+1,by omega,by go_num,?_⟩;have hin:=HI.out;unfold inUpto at *;rw[List.take_succ_eq_append_getElem (by simpa using hlt),List.any_append,hin];rw[zbz] at he'
         simpa [ByteArray.getElem_eq_getElem_data] using he'
       case measure=>simp[intOf];omega
   . go_wp2;go_ret;refine⟨congrArg Ending.returned (congrArg Value.bool ?_),rfl⟩;have hin:=HI.out;unfold inUpto at hin;unfold inT;rw[List.take_of_length_le (by simp;omega)] at hin;exact hin.symm
namespace St
def escaped (s:ByteArray) (st:St):Int×St:=
 let c:=(st.next s).1
 let st1:=(st.next s).2
 if c=110 then (10,st1) else if c=116 then (9,st1) else
 if inT c ⟨#[92,46,91,93,40,41,123,125,124,63,42,43,94,36,45,47]⟩=true then (c,st1) else (0,st1.fail ((st1.pos:Int)-1) 2)
def member (s:ByteArray) (st:St):Int×St:=
 let c:=(st.next s).1
 let st1:=(st.next s).2
 let st2:=if c=93 then st1.fail ((st1.pos:Int)-1) 2 else st1
 if c=92 then st2.escaped s else (max c 0,st2)
def number (s:ByteArray) (st:St):Int×St:=
 let c:=(st.next s).1
 let st1:=(st.next s).2
 if c<48∨57<c then (0,st1.fail ((st1.pos:Int)-1) 2) else
 let d:=st1.peek s
 if 48<=d∧d<=57 then (10*(c-48)+d-48,st1.step 1) else (c-48,st1)
end St
theorem zds (s:ByteArray) (st:St) : -1<=(st.next s).1∧(st.next s).1<=255:=by
 have:=zgk s st;unfold St.next;split <;> simp <;> omega
theorem zbl (s:ByteArray) (st:St) (h:st.pos<=s.size):(st.next s).2.pos<=s.size∧st.pos<=(st.next s).2.pos:=by
 by_cases hn:st.peek s<0
 . have e:st.next s=(-1,st.fail s.size 2):=(by unfold St.next;rw[if_pos hn]);rw[e];unfold St.fail;split <;> simp <;> omega
 . have hp:=zaj s st (by omega);have e:st.next s=(st.peek s,st.step 1):=(by unfold St.next;rw[if_neg hn]);rw[e];simp[St.step];omega
theorem zed (st:St) (a b:Int):(st.fail a b).pos=st.pos:=by unfold St.fail;split <;> rfl
set_option maxHeartbeats 400000 in
theorem zhs (w:World) (g:Nat) (s:ByteArray) (st:St) (h:Rdr w g s st) (hs:s.size<=1000) (hpos:st.pos<=s.size):
   Calls Tryz.prog 122 #[.pointer (some ⟨g,0,none⟩)] w fun e w'=>e = .returned (.int .u8 (st.escaped s).1)∧Rdr w' g s (st.escaped s).2∧w.grownBy w' (some g):=by
 have hbd:=zds s st;have hps:=zbl s st hpos;have hnot:∀ (x:Bool) (w:World),(Op.unary .not (.bool x)).run Tryz.prog w = .ok (.bool (!x)) w:=fun _ _=>rfl
 have HN:=Zh (zb3 w g s st h hs);generalize hc:(st.next s).1=c at *;generalize h1:(st.next s).2=st1 at *;have HE:Hid (st.escaped s=if c=110 then (10,st1) else if c=116 then (9,st1) else if inT c ⟨#[92,46,91,93,40,41,123,125,124,63,42,43,94,36,45,47]⟩=true then (c,st1) else (0,st1.fail ((st1.pos:Int)-1) 2)):=by
   unfold St.escaped;rw[hc,h1];exact rfl
 clear hc h1
 by_cases e1:c=110
 . have hE:=HE.out;rw[if_pos e1] at hE;rw[hE];clear hE HE;have e1':(c==110)=true:=(by simp[e1]);clear e1;go_enter Tryz.func122,Tryz.ntmps122;go_wp2_with (go_at_call 107;(with_reducible refine (HN.out).mono ?_);rintro e w1 ⟨rfl,hr,ho⟩);go_ret;exact⟨rfl,hr,ho⟩
 . have e1':(c==110)=false:=(by simp[e1]);have hE:=HE.out;rw[if_neg e1] at hE;clear e1 HE
   by_cases e2:c=116
   . rw[if_pos e2] at hE;rw[hE];clear hE;have e2':(c==116)=true:=(by simp[e2]);clear e2;go_enter Tryz.func122,Tryz.ntmps122;go_wp2_with (go_at_call 107;(with_reducible refine (HN.out).mono ?_);rintro e w1 ⟨rfl,hr,ho⟩);go_ret;exact⟨rfl,hr,ho⟩
   . have e2':(c==116)=false:=(by simp[e2]);rw[if_neg e2] at hE;clear e2;have HI:=Zh (fun w=>in_p w c ⟨#[92,46,91,93,40,41,123,125,124,63,42,43,94,36,45,47]⟩ (by decide));generalize hi:inT c ⟨#[92,46,91,93,40,41,123,125,124,63,42,43,94,36,45,47]⟩=i at *;have HI2:=Zh hi;clear hi;cases i with
     | true =>
       rw[if_pos rfl] at hE;rw[hE];clear hE;have c0:0<=c:=zck _ _ HI2.out;go_enter Tryz.func122,Tryz.ntmps122;go_wp2_with (first
         | (go_at_call 107;(with_reducible refine (HN.out).mono ?_);rintro e w1 ⟨rfl,hr,ho⟩)
         | (go_at_call 123;(with_reducible refine (HI.out _).mono ?_);rintro e w2 ⟨rfl,rfl⟩))
       go_ret;exact⟨rfl,hr,ho⟩
     | false =>
       rw[if_neg (by simp)] at hE;rw[hE];clear hE;go_enter Tryz.func122,Tryz.ntmps122;go_wp2_with (first
         | (go_at_call 107;(with_reducible refine (HN.out).mono ?_);rintro e w1 ⟨rfl,hr,ho⟩;obtain⟨k0,k1,k2,k3,k4⟩:=hr.cell)
         | (go_at_call 123;(with_reducible refine (HI.out _).mono ?_);rintro e w2 ⟨rfl,rfl⟩)
         | (go_at_call 109;(with_reducible refine (zcc _ g s st1 _ _ hr).mono ?_);rintro e w3 ⟨rfl,hr3,ho3⟩))
       go_ret;exact⟨rfl,hr3,za2 ho ho3⟩
theorem zpd (a b:Nat) (ha:a<18446744073709551616) (hb:b<18446744073709551616):(Ieee.double.order a b==some .gt||Ieee.double.order a b==some .eq)=(someN a&&someN b&&decide (rankN b<=rankN a)):=by
 rw[zpc a b ha hb,zjh a b ha hb,lessB,sameB,Bool.and_comm (someN b),←Bool.and_or_distrib_left]
 congr 1
 by_cases h:rankN b<=rankN a
 . by_cases h2:rankN a=rankN b
   . rw[decide_eq_true h2,decide_eq_true h];simp
   . rw[decide_eq_true h,decide_eq_true (by omega)];rfl
 . rw[decide_eq_false h,decide_eq_false (by omega),decide_eq_false (by omega)];rfl
theorem zpb (a b:Nat) (ha:a<18446744073709551616) (hb:b<18446744073709551616):(Ieee.double.order a b==some .lt||Ieee.double.order a b==some .eq)=(someN a&&someN b&&decide (rankN a<=rankN b)):=by
 rw[zpa a b ha hb,zjh a b ha hb,lessB,sameB,←Bool.and_or_distrib_left]
 congr 1
 by_cases h:rankN a<=rankN b
 . by_cases h2:rankN a=rankN b
   . rw[decide_eq_true h2,decide_eq_true h];simp
   . rw[decide_eq_true h,decide_eq_true (by omega)];rfl
 . rw[decide_eq_false h,decide_eq_false (by omega),decide_eq_false (by omega)];rfl
theorem zhi (x:Nat) (w:World):
   (callFunc 56 #[.int .u64 (x:Int)]).run Tryz.prog w = .ok (.value (.float .f64 x)) w:=by
 rw[run_callFunc_extern Tryz.func56 (by kernel_rfl) (by kernel_rfl) (by kernel_rfl) (e:=Extern.MathFloatBits.float64frombits) (by kernel_rfl)];rfl
def rateV (x:Nat):Value := .tuple #[.int .i64 (if rateOk x=true then (rateN x:Int) else 0),if rateOk x=true then .nilIface else .iface 71 (.int .i64 1)]
theorem zp3 (x:Nat) (hx:x<18446744073709551616) (w:World):
   Calls Tryz.prog 33 #[.int .u64 (x:Int)] w fun e w'=>e = .returned (rateV x)∧w=w':=by
 have hr:=zhi x;have hrk:=zhk x hx;have o1:=zpd x 4607182418800017408 hx (by omega);have o2:=zpb x 4652218415073722368 hx (by omega);have s1:someN 4607182418800017408=true:=(by decide +kernel);have s2:someN 4652218415073722368=true:=(by decide +kernel);have r1:rankN 4607182418800017408=4607182418800017408:=(by decide +kernel);have r2:rankN 4652218415073722368=4652218415073722368:=(by decide +kernel);rw[s1,r1,Bool.and_true] at o1;rw[s2,r2,Bool.and_true] at o2;unfold rateV;cases hk:rateOk x
 . rw[hk] at hrk;simp only[Bool.false_eq_true,if_false];cases ha:(someN x&&decide (4607182418800017408<=rankN x))
   . rw[ha] at o1;have o1':(FloatKind.f64.format.order x 4607182418800017408==some .gt||FloatKind.f64.format.order x 4607182418800017408==some .eq)=false:=o1;clear o1 o2 s1 s2 r1 r2 hrk hk ha;go_enter Tryz.func33,Tryz.ntmps33;go_wp2_with (first | simp only[hr] | simp only[o1']);go_ret2;exact⟨rfl,rfl⟩
   . have hb:(someN x&&decide (rankN x<=4652218415073722368))=false:=by
       cases h1:someN x
       . rfl
       . rw[h1] at ha hrk;simp only[Bool.true_and] at ha hrk ⊢;rw[ha,Bool.true_and] at hrk;exact hrk.symm
     rw[ha] at o1;rw[hb] at o2;have o1':(FloatKind.f64.format.order x 4607182418800017408==some .gt||FloatKind.f64.format.order x 4607182418800017408==some .eq)=true:=o1;have o2':(FloatKind.f64.format.order x 4652218415073722368==some .lt||FloatKind.f64.format.order x 4652218415073722368==some .eq)=false:=o2;clear o1 o2 s1 s2 r1 r2 hrk hk ha hb;go_enter Tryz.func33,Tryz.ntmps33;go_wp2_with (first | simp only[hr] | simp only[o1'] | simp only[o2']);go_ret2;exact⟨rfl,rfl⟩
 . rw[hk] at hrk;simp only[if_true];have ht:=zkn x hk;have ha:(someN x&&decide (4607182418800017408<=rankN x))=true:=(by simp at hrk;simp[hrk]);have hb:(someN x&&decide (rankN x<=4652218415073722368))=true:=(by simp at hrk;simp[hrk]);rw[ha] at o1;rw[hb] at o2;have o1':(FloatKind.f64.format.order x 4607182418800017408==some .gt||FloatKind.f64.format.order x 4607182418800017408==some .eq)=true:=o1;have o2':(FloatKind.f64.format.order x 4652218415073722368==some .lt||FloatKind.f64.format.order x 4652218415073722368==some .eq)=true:=o2;have hcv:∀ w:World,(convert 113 3 (.float .f64 x)).run Tryz.prog w = .ok (.int .i64 (rateN x)) w:=fun w=>run_convert_float_int w _ _ _ _ _ _ (by kernel_rfl) Tryz.underlying3 ht
   clear o1 o2 s1 s2 r1 r2 hrk hk ha hb;go_enter Tryz.func33,Tryz.ntmps33;go_wp2_with (first | simp only[hr] | simp only[o1'] | simp only[o2'] | simp only[hcv]);go_ret2;exact⟨rfl,rfl⟩
end Go.Proofs.YtgbdanddbgomhaaGreatDoor
