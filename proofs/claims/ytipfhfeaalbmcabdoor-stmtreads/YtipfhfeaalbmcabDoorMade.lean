/- How a statement is made of what was handed in. -/
import Derived.Test.YtipfhfeaalbmcabDoorStm
import Derived.Deep.DeepCutAuto
import Derived.Deep.CutRange
namespace Go.Proofs.YtipfhfeaalbmcabDoor
open Go.RowKit

theorem as116_116 (W : World) (v : Value) : (Instr.typeAssert (.iface 92 v) 50 92 true).run Tryd.prog W = .ok (.tuple #[v, .bool true]) W := by kernel_rfl
theorem as116_121 (W : World) (v : Value) : (Instr.typeAssert (.iface 92 v) 50 97 true).run Tryd.prog W = .ok (.tuple #[.pointer none, .bool false]) W := by kernel_rfl
theorem as116_123 (W : World) (v : Value) : (Instr.typeAssert (.iface 92 v) 50 98 true).run Tryd.prog W = .ok (.tuple #[.pointer none, .bool false]) W := by kernel_rfl
theorem as121_116 (W : World) (v : Value) : (Instr.typeAssert (.iface 97 v) 50 92 true).run Tryd.prog W = .ok (.tuple #[.pointer none, .bool false]) W := by kernel_rfl
theorem as121_121 (W : World) (v : Value) : (Instr.typeAssert (.iface 97 v) 50 97 true).run Tryd.prog W = .ok (.tuple #[v, .bool true]) W := by kernel_rfl
theorem as121_123 (W : World) (v : Value) : (Instr.typeAssert (.iface 97 v) 50 98 true).run Tryd.prog W = .ok (.tuple #[.pointer none, .bool false]) W := by kernel_rfl
theorem as123_116 (W : World) (v : Value) : (Instr.typeAssert (.iface 98 v) 50 92 true).run Tryd.prog W = .ok (.tuple #[.pointer none, .bool false]) W := by kernel_rfl
theorem as123_121 (W : World) (v : Value) : (Instr.typeAssert (.iface 98 v) 50 97 true).run Tryd.prog W = .ok (.tuple #[.pointer none, .bool false]) W := by kernel_rfl
theorem as123_123 (W : World) (v : Value) : (Instr.typeAssert (.iface 98 v) 50 98 true).run Tryd.prog W = .ok (.tuple #[v, .bool true]) W := by kernel_rfl
def stmA (k : Int) (lb ky fn : Tok) (pr : Bool) (vw vp : Value) : Array Value := #[.int .i64 k, .string lb.text, .int .i64 lb.off, .int .i64 lb.line, .int .i64 lb.col, .string ky.text, .int .i64 ky.off, .int .i64 ky.line, .int .i64 ky.col, .bool pr, vw, vp, .string fn.text, .int .i64 fn.off, .int .i64 fn.line, .int .i64 fn.col]

end Go.Proofs.YtipfhfeaalbmcabDoor
