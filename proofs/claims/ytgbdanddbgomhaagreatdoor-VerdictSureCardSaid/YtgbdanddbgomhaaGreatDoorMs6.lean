import Derived.Test.YtgbdanddbgomhaaGreatDoorMs3
set_option linter.unusedVariables false
set_option linter.unusedSimpArgs false
namespace Go.Proofs.YtgbdanddbgomhaaGreatDoor
open Go Go.RowKit
def inT (c:Int) (s:ByteArray):Bool:=s.data.toList.any fun b=>(b.toNat:Int)==c
def inUpto (c:Int) (s:ByteArray) (k:Nat):Bool:=(s.data.toList.take k).any fun b=>(b.toNat:Int)==c
namespace St
def escaped (s:ByteArray) (st:St):Int×St:=
 let c:=(st.next s).1
 let st1:=(st.next s).2
 if c=110 then (10,st1) else if c=116 then (9,st1) else
 if inT c ⟨#[92,46,91,93,40,41,123,125,124,63,42,43,94,36,45,47]⟩=true then (c,st1) else (0,st1.fail ((st1.pos:Int)-1) 2)
def member (s:ByteArray) (st:St):Int×St:=
 let c:=(st.next s).1
 let st1:=(st.next s).2
 let st2:=if c=93 then st1.fail ((st1.pos:Int)-1) 2 else st1
 if c=92 then st2.escaped s else (max c 0,st2)
def number (s:ByteArray) (st:St):Int×St:=
 let c:=(st.next s).1
 let st1:=(st.next s).2
 if c<48∨57<c then (0,st1.fail ((st1.pos:Int)-1) 2) else
 let d:=st1.peek s
 if 48<=d∧d<=57 then (10*(c-48)+d-48,st1.step 1) else (c-48,st1)
end St
section
attribute [local go_sem ↓] Go.wp_at_zero Go.wp_at_succ
def digP:Nat->Bool:=rangeP 48 57
def wordP:Nat->Bool:=orP (orP digP (memP [95])) (orP (rangeP 97 122) (rangeP 65 90))
def wideP (c:Int):Nat->Bool:=if c=100 then digP else if c=119 then wordP else noneP
def isWide (c:Int):Bool:=c==100||c==119
end
section
attribute [local go_sem ↓] Go.wp_at_zero Go.wp_at_succ
namespace St
def wideHere (s:ByteArray) (st:St):Bool:=st.peek s==92&&decide (st.pos+1<s.size)&&isWide (bt s (st.pos+1):Int)
def item (s:ByteArray) (st:St):(Nat->Bool)×St:=
 if st.wideHere s=true then (wideP (bt s (st.pos+1):Int),st.step 2) else
 let lo:=(st.member s).1
 let st1:=(st.member s).2
 if st1.peek s=45 then
   let hi:=((st1.step 1).member s).1
   let st3:=((st1.step 1).member s).2
   (rangeP lo hi,if hi<lo then st3.fail ((st3.pos:Int)-1) 2 else st3)
 else (rangeP lo lo,st1)
end St
end
end Go.Proofs.YtgbdanddbgomhaaGreatDoor
