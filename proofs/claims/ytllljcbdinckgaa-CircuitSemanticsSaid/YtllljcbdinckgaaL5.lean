/- The law: the values are those of the operations. -/
import Derived.Test.YtllljcbdinckgaaL5a
import Derived.Test.YtllljcbdinckgaaL5b
namespace Go.Proofs.Ytllljcbdinckgaa
open Go.RowKit

theorem semantics_calls (l : List Stp) (sa : Option Addr) (sc : Nat) (n m k : Nat) (vals : List Bool) (va : Option Addr) (vc : Nat) (w : World) (h : StpsW w sa sc l) (hs : ∀ s ∈ l, StpOk s) (hn : n < 256) (hm : m < 256) (hk : k < 256) (hv : BoolsW w va vc vals) :
    Calls Try.prog 5 #[.slice sa l.length sc, .int .u8 (n : Int), .int .u8 (m : Int), .int .u8 (k : Int), .slice va vals.length vc] w fun e w' => e = .returned (.bool true) ∧ w.grownBy w' none := by
  by_cases hkv : (k : Int) % 20 + 1 ≤ (vals.length : Int)
  · exact semantics_a_calls l sa sc n m k vals va vc w h hs hn hm hk hkv hv
  · exact semantics_b_calls l sa sc n m k vals va vc w h hs hn hm hk hkv hv
end Go.Proofs.Ytllljcbdinckgaa
