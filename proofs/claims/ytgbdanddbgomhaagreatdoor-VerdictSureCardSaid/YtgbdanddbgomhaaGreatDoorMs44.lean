import Derived.Test.YtgbdanddbgomhaaGreatDoorMs43
namespace Go.Proofs.YtgbdanddbgomhaaGreatDoor
open Go Go.RowKit
theorem ze1 (w:World) (s:ByteArray) (c:Cf) (A:Option Addr) (cw:Nat) (xs:List Int) (hs:s.size<=9223372036854775807) (hc:CfW c) (hrd:RdB w w.heap.size A xs) (hby:∀ k,k<xs.length->0<=xs.getD k 0∧xs.getD k 0<=255) (hx:xs.length<=9223372036854775807) (hd:Dor w) (hm:MaxL w):
   Calls Tryz.prog 4 #[.string s,.agg #[.int .i64 c.lam,.int .i64 c.q,.int .i64 c.cap,.int .u64 (c.rate:Int),.int .u8 (c.mask:Int)],.slice A xs.length cw] w fun e w'=>e = .returned (.bool true)∧Below w.heap.size w w':=ze2 w s c A cw xs hs hc hrd hby hx hd hm
end Go.Proofs.YtgbdanddbgomhaaGreatDoor
