/-
  Zero values of more than 64 cells, where the set-up lays none.
-/
import Derived.Test.YtndakfanlgilmaaDoorFr
import Derived.Test.YtndakfanlgilmaaDoorProg
namespace Go.Proofs.YtndakfanlgilmaaDoor
def Tryd.zeroCells87 : Array Value := (List.replicate 72 (Value.int .u8 0)).toArray
set_option maxRecDepth 100000 in
theorem zv72 (w : World) : (zeroValue 87).run Tryd.prog w = .ok (.agg Tryd.zeroCells87) w := by kernel_rfl
set_option maxRecDepth 100000 in
theorem zn72 : Tryd.zeroCells87 ≠ #[] := by decide +kernel
def zh73 : Array Value := (List.replicate 8 (Value.int .u32 0) ++ List.replicate 64 (Value.int .u8 0) ++ [Value.int .i64 0]).toArray
set_option maxRecDepth 100000 in
theorem zv73 (w : World) : (zeroValue 75).run Tryd.prog w = .ok (.agg zh73) w := by kernel_rfl
set_option maxRecDepth 100000 in
theorem zn73 : zh73 ≠ #[] := by decide +kernel
end Go.Proofs.YtndakfanlgilmaaDoor
