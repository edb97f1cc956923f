import Derived.Test.YtgbdanddbgomhaaGreatDoorMv50
namespace Go.Proofs.YtgbdanddbgomhaaGreatDoor
open Go Go.RowKit
theorem zfd (w:World) (s:ByteArray) (c:Cf) (hs:s.size<=9223372036854775807) (hc:CfW c) (hd:Dor w) (hm:MaxL w):
   Calls Tryz.prog 3 #[.string s,.agg #[.int .i64 c.lam,.int .i64 c.q,.int .i64 c.cap,.int .u64 (c.rate:Int),.int .u8 (c.mask:Int)]] w fun e w'=>e = .returned (.bool true)∧Below w.heap.size w w':=zfe w s c hs hc hd hm
end Go.Proofs.YtgbdanddbgomhaaGreatDoor
