/- A piece of a proof over this program: contracts of its functions, and a logic to prove them by. -/
import Derived.Test.YtkdbkgfdggbhkaaP3
import Derived.Test.YtkdbkgfdggbhkaaRows
import Derived.Lib.Strings
section
namespace Go.Proofs.Ytkdbkgfdggbhkaa
open Go Go.Lg
theorem mixed : Try.prog.follows .mixedOrders = true := by kernel_rfl
instance : ZeroT Try.prog 1 [(.val (.nilFunc))] := ⟨by kernel_rfl⟩
instance : OneT Try.prog 1 := ⟨by kernel_rfl⟩
instance : ZeroT Try.prog 2 [(.val (.int .i64 0))] := ⟨by kernel_rfl⟩
instance : OneT Try.prog 2 := ⟨by kernel_rfl⟩
instance : IntT Try.prog 2 .i64 := ⟨by kernel_rfl⟩
instance : ZeroT Try.prog 3 [(.val (.int .i64 0))] := ⟨by kernel_rfl⟩
instance : OneT Try.prog 3 := ⟨by kernel_rfl⟩
instance : IntT Try.prog 3 .i64 := ⟨by kernel_rfl⟩
instance : ZeroT Try.prog 4 [(.val (.bool false))] := ⟨by kernel_rfl⟩
instance : OneT Try.prog 4 := ⟨by kernel_rfl⟩
instance : BoolT Try.prog 4 := ⟨by kernel_rfl⟩
instance : ZeroT Try.prog 5 [(.val (.int .u8 0))] := ⟨by kernel_rfl⟩
instance : OneT Try.prog 5 := ⟨by kernel_rfl⟩
instance : IntT Try.prog 5 .u8 := ⟨by kernel_rfl⟩
instance : ZeroT Try.prog 6 [(.val (.int .u8 0))] := ⟨by kernel_rfl⟩
instance : OneT Try.prog 6 := ⟨by kernel_rfl⟩
instance : IntT Try.prog 6 .u8 := ⟨by kernel_rfl⟩
instance : ZeroT Try.prog 7 [(.val (.int .i64 0)), (.val (.int .i64 0)), (.val (.bool false)), (.val (.int .u8 0))] := ⟨by kernel_rfl⟩
instance : AggT Try.prog 7 4 := ⟨by kernel_rfl⟩
instance : FieldT Try.prog 7 0 0 0 := ⟨by kernel_rfl⟩
instance : FieldT Try.prog 7 1 1 0 := ⟨by kernel_rfl⟩
instance : FieldT Try.prog 7 2 2 0 := ⟨by kernel_rfl⟩
instance : FieldT Try.prog 7 3 3 0 := ⟨by kernel_rfl⟩
instance : StructT Try.prog 7 [(.int .i64 0), (.int .i64 0), (.bool false), (.int .u8 0)] [(0, 1), (1, 1), (2, 1), (3, 1)] := ⟨by kernel_rfl⟩
instance : ZeroT Try.prog 8 [(.val (.int .i64 0)), (.val (.int .i64 0)), (.val (.bool false)), (.val (.int .u8 0))] := ⟨by kernel_rfl⟩
instance : AggT Try.prog 8 4 := ⟨by kernel_rfl⟩
instance : FieldT Try.prog 8 0 0 0 := ⟨by kernel_rfl⟩
instance : FieldT Try.prog 8 1 1 0 := ⟨by kernel_rfl⟩
instance : FieldT Try.prog 8 2 2 0 := ⟨by kernel_rfl⟩
instance : FieldT Try.prog 8 3 3 0 := ⟨by kernel_rfl⟩
instance : StructT Try.prog 8 [(.int .i64 0), (.int .i64 0), (.bool false), (.int .u8 0)] [(0, 1), (1, 1), (2, 1), (3, 1)] := ⟨by kernel_rfl⟩
instance : ZeroT Try.prog 9 [(.val (.string ⟨#[]⟩))] := ⟨by kernel_rfl⟩
instance : OneT Try.prog 9 := ⟨by kernel_rfl⟩
instance : StrT Try.prog 9 := ⟨by kernel_rfl⟩
instance : ZeroT Try.prog 10 [(.val (.string ⟨#[]⟩))] := ⟨by kernel_rfl⟩
instance : OneT Try.prog 10 := ⟨by kernel_rfl⟩
instance : StrT Try.prog 10 := ⟨by kernel_rfl⟩
instance : ZeroT Try.prog 11 [(.val (.string ⟨#[]⟩))] := ⟨by kernel_rfl⟩
instance : OneT Try.prog 11 := ⟨by kernel_rfl⟩
instance : StrT Try.prog 11 := ⟨by kernel_rfl⟩
instance : ZeroT Try.prog 12 [(.val (.int .u64 0))] := ⟨by kernel_rfl⟩
instance : OneT Try.prog 12 := ⟨by kernel_rfl⟩
instance : IntT Try.prog 12 .u64 := ⟨by kernel_rfl⟩
instance : ZeroT Try.prog 13 [(.val (.string ⟨#[]⟩)), (.val (.int .u64 0))] := ⟨by kernel_rfl⟩
instance : AggT Try.prog 13 2 := ⟨by kernel_rfl⟩
instance : FieldT Try.prog 13 0 0 0 := ⟨by kernel_rfl⟩
instance : FieldT Try.prog 13 1 1 0 := ⟨by kernel_rfl⟩
instance : StructT Try.prog 13 [(.string ⟨#[]⟩), (.int .u64 0)] [(0, 1), (1, 1)] := ⟨by kernel_rfl⟩
instance : ZeroT Try.prog 14 [(.val (.string ⟨#[]⟩)), (.val (.int .u64 0))] := ⟨by kernel_rfl⟩
instance : AggT Try.prog 14 2 := ⟨by kernel_rfl⟩
instance : FieldT Try.prog 14 0 0 0 := ⟨by kernel_rfl⟩
instance : FieldT Try.prog 14 1 1 0 := ⟨by kernel_rfl⟩
instance : StructT Try.prog 14 [(.string ⟨#[]⟩), (.int .u64 0)] [(0, 1), (1, 1)] := ⟨by kernel_rfl⟩
instance : ZeroT Try.prog 15 [(.val (.pointer none))] := ⟨by kernel_rfl⟩
instance : OneT Try.prog 15 := ⟨by kernel_rfl⟩
instance : ZeroT Try.prog 16 [(.val (.pointer none))] := ⟨by kernel_rfl⟩
instance : OneT Try.prog 16 := ⟨by kernel_rfl⟩
instance : ZeroT Try.prog 17 [(.val (.pointer none))] := ⟨by kernel_rfl⟩
instance : OneT Try.prog 17 := ⟨by kernel_rfl⟩
instance : ZeroT Try.prog 18 [(.val (.pointer none))] := ⟨by kernel_rfl⟩
instance : AggT Try.prog 18 1 := ⟨by kernel_rfl⟩
instance : FieldT Try.prog 18 0 0 0 := ⟨by kernel_rfl⟩
instance : StructT Try.prog 18 [(.pointer none)] [(0, 1)] := ⟨by kernel_rfl⟩
instance : ZeroT Try.prog 19 [(.val (.pointer none))] := ⟨by kernel_rfl⟩
instance : AggT Try.prog 19 1 := ⟨by kernel_rfl⟩
instance : FieldT Try.prog 19 0 0 0 := ⟨by kernel_rfl⟩
instance : StructT Try.prog 19 [(.pointer none)] [(0, 1)] := ⟨by kernel_rfl⟩
instance : ZeroT Try.prog 20 [(.val (.nilIface))] := ⟨by kernel_rfl⟩
instance : OneT Try.prog 20 := ⟨by kernel_rfl⟩
instance : ZeroT Try.prog 21 [(.val (.int .i32 0))] := ⟨by kernel_rfl⟩
instance : OneT Try.prog 21 := ⟨by kernel_rfl⟩
instance : IntT Try.prog 21 .i32 := ⟨by kernel_rfl⟩
instance : ZeroT Try.prog 22 [(.val (.slice none 0 0))] := ⟨by kernel_rfl⟩
instance : OneT Try.prog 22 := ⟨by kernel_rfl⟩
instance : SliceT Try.prog 22 3 := ⟨by kernel_rfl⟩
instance : ZeroT Try.prog 23 [(.val (.nilFunc))] := ⟨by kernel_rfl⟩
instance : OneT Try.prog 23 := ⟨by kernel_rfl⟩
instance : ZeroT Try.prog 24 [(.val (.pointer none))] := ⟨by kernel_rfl⟩
instance : OneT Try.prog 24 := ⟨by kernel_rfl⟩
instance : ZeroT Try.prog 25 [(.val (.nilFunc))] := ⟨by kernel_rfl⟩
instance : OneT Try.prog 25 := ⟨by kernel_rfl⟩
instance : ZeroT Try.prog 26 [(.val (.int .u64 0))] := ⟨by kernel_rfl⟩
instance : OneT Try.prog 26 := ⟨by kernel_rfl⟩
instance : IntT Try.prog 26 .u64 := ⟨by kernel_rfl⟩
instance : ZeroT Try.prog 27 [(.val (.int .u64 0))] := ⟨by kernel_rfl⟩
instance : OneT Try.prog 27 := ⟨by kernel_rfl⟩
instance : IntT Try.prog 27 .u64 := ⟨by kernel_rfl⟩
instance : ZeroT Try.prog 28 [(.val (.int .i64 0))] := ⟨by kernel_rfl⟩
instance : OneT Try.prog 28 := ⟨by kernel_rfl⟩
instance : IntT Try.prog 28 .i64 := ⟨by kernel_rfl⟩
instance : ZeroT Try.prog 30 [(.val (.nilFunc))] := ⟨by kernel_rfl⟩
instance : OneT Try.prog 30 := ⟨by kernel_rfl⟩
instance : ZeroT Try.prog 31 [(.val (.nilFunc))] := ⟨by kernel_rfl⟩
instance : OneT Try.prog 31 := ⟨by kernel_rfl⟩
instance : ZeroT Try.prog 32 [(.val (.nilFunc))] := ⟨by kernel_rfl⟩
instance : OneT Try.prog 32 := ⟨by kernel_rfl⟩
instance : ZeroT Try.prog 33 [(.val (.slice none 0 0))] := ⟨by kernel_rfl⟩
instance : OneT Try.prog 33 := ⟨by kernel_rfl⟩
instance : SliceT Try.prog 33 1 := ⟨by kernel_rfl⟩
instance : ZeroT Try.prog 34 [(.val (.nilFunc))] := ⟨by kernel_rfl⟩
instance : OneT Try.prog 34 := ⟨by kernel_rfl⟩
instance : ZeroT Try.prog 35 [(.val (.nilFunc))] := ⟨by kernel_rfl⟩
instance : OneT Try.prog 35 := ⟨by kernel_rfl⟩
instance : ZeroT Try.prog 36 [(.val (.nilFunc))] := ⟨by kernel_rfl⟩
instance : OneT Try.prog 36 := ⟨by kernel_rfl⟩
instance : ZeroT Try.prog 37 [(.val (.nilFunc))] := ⟨by kernel_rfl⟩
instance : OneT Try.prog 37 := ⟨by kernel_rfl⟩
instance : ZeroT Try.prog 38 [(.val (.nilFunc))] := ⟨by kernel_rfl⟩
instance : OneT Try.prog 38 := ⟨by kernel_rfl⟩
instance : ZeroT Try.prog 39 [(.val (.int .i64 0)), (.val (.bool false)), (.val (.bool false))] := ⟨by kernel_rfl⟩
instance : AggT Try.prog 39 3 := ⟨by kernel_rfl⟩
instance : FieldT Try.prog 39 0 0 0 := ⟨by kernel_rfl⟩
instance : FieldT Try.prog 39 1 1 0 := ⟨by kernel_rfl⟩
instance : FieldT Try.prog 39 2 2 0 := ⟨by kernel_rfl⟩
instance : StructT Try.prog 39 [(.int .i64 0), (.bool false), (.bool false)] [(0, 1), (1, 1), (2, 1)] := ⟨by kernel_rfl⟩
instance : ZeroT Try.prog 40 [(.val (.int .i64 0)), (.val (.bool false)), (.val (.bool false))] := ⟨by kernel_rfl⟩
instance : AggT Try.prog 40 3 := ⟨by kernel_rfl⟩
instance : FieldT Try.prog 40 0 0 0 := ⟨by kernel_rfl⟩
instance : FieldT Try.prog 40 1 1 0 := ⟨by kernel_rfl⟩
instance : FieldT Try.prog 40 2 2 0 := ⟨by kernel_rfl⟩
instance : StructT Try.prog 40 [(.int .i64 0), (.bool false), (.bool false)] [(0, 1), (1, 1), (2, 1)] := ⟨by kernel_rfl⟩
instance : ZeroT Try.prog 41 [(.val (.int .i64 0)), (.val (.bool false)), (.val (.bool false)), (.val (.int .i64 0)), (.val (.bool false)), (.val (.bool false)), (.val (.int .i64 0)), (.val (.bool false)), (.val (.bool false)), (.val (.int .i64 0)), (.val (.bool false)), (.val (.bool false)), (.val (.int .i64 0)), (.val (.bool false)), (.val (.bool false)), (.val (.int .i64 0)), (.val (.bool false)), (.val (.bool false)), (.val (.int .i64 0)), (.val (.bool false)), (.val (.bool false)), (.val (.int .i64 0)), (.val (.bool false)), (.val (.bool false)), (.val (.int .i64 0)), (.val (.bool false)), (.val (.bool false)), (.val (.int .i64 0)), (.val (.bool false)), (.val (.bool false)), (.val (.int .i64 0)), (.val (.bool false)), (.val (.bool false)), (.val (.int .i64 0)), (.val (.bool false)), (.val (.bool false)), (.val (.int .i64 0)), (.val (.bool false)), (.val (.bool false)), (.val (.int .i64 0)), (.val (.bool false)), (.val (.bool false)), (.val (.int .i64 0)), (.val (.bool false)), (.val (.bool false)), (.val (.int .i64 0)), (.val (.bool false)), (.val (.bool false)), (.val (.int .i64 0)), (.val (.bool false)), (.val (.bool false)), (.val (.int .i64 0)), (.val (.bool false)), (.val (.bool false)), (.val (.int .i64 0)), (.val (.bool false)), (.val (.bool false)), (.val (.int .i64 0)), (.val (.bool false)), (.val (.bool false)), (.val (.int .i64 0)), (.val (.bool false)), (.val (.bool false)), (.val (.int .i64 0)), (.val (.bool false)), (.val (.bool false)), (.val (.int .i64 0)), (.val (.bool false)), (.val (.bool false)), (.val (.int .i64 0)), (.val (.bool false)), (.val (.bool false)), (.val (.int .i64 0)), (.val (.bool false)), (.val (.bool false)), (.val (.int .i64 0)), (.val (.bool false)), (.val (.bool false)), (.val (.int .i64 0)), (.val (.bool false)), (.val (.bool false)), (.val (.int .i64 0)), (.val (.bool false)), (.val (.bool false)), (.val (.int .i64 0)), (.val (.bool false)), (.val (.bool false)), (.val (.int .i64 0)), (.val (.bool false)), (.val (.bool false)), (.val (.int .i64 0)), (.val (.bool false)), (.val (.bool false)), (.val (.int .i64 0)), (.val (.bool false)), (.val (.bool false)), (.val (.int .i64 0)), (.val (.bool false)), (.val (.bool false)), (.val (.int .i64 0)), (.val (.bool false)), (.val (.bool false)), (.val (.int .i64 0)), (.val (.bool false)), (.val (.bool false)), (.val (.int .i64 0)), (.val (.bool false)), (.val (.bool false)), (.val (.int .i64 0)), (.val (.bool false)), (.val (.bool false)), (.val (.int .i64 0)), (.val (.bool false)), (.val (.bool false)), (.val (.int .i64 0)), (.val (.bool false)), (.val (.bool false)), (.val (.int .i64 0)), (.val (.bool false)), (.val (.bool false)), (.val (.int .i64 0)), (.val (.bool false)), (.val (.bool false)), (.val (.int .i64 0)), (.val (.bool false)), (.val (.bool false)), (.val (.int .i64 0)), (.val (.bool false)), (.val (.bool false)), (.val (.int .i64 0)), (.val (.bool false)), (.val (.bool false)), (.val (.int .i64 0)), (.val (.bool false)), (.val (.bool false)), (.val (.int .i64 0)), (.val (.bool false)), (.val (.bool false)), (.val (.int .i64 0)), (.val (.bool false)), (.val (.bool false)), (.val (.int .i64 0)), (.val (.bool false)), (.val (.bool false)), (.val (.int .i64 0)), (.val (.bool false)), (.val (.bool false)), (.val (.int .i64 0)), (.val (.bool false)), (.val (.bool false)), (.val (.int .i64 0)), (.val (.bool false)), (.val (.bool false)), (.val (.int .i64 0)), (.val (.bool false)), (.val (.bool false)), (.val (.int .i64 0)), (.val (.bool false)), (.val (.bool false)), (.val (.int .i64 0)), (.val (.bool false)), (.val (.bool false)), (.val (.int .i64 0)), (.val (.bool false)), (.val (.bool false)), (.val (.int .i64 0)), (.val (.bool false)), (.val (.bool false)), (.val (.int .i64 0)), (.val (.bool false)), (.val (.bool false)), (.val (.int .i64 0)), (.val (.bool false)), (.val (.bool false)), (.val (.int .i64 0)), (.val (.bool false)), (.val (.bool false)), (.val (.int .i64 0)), (.val (.bool false)), (.val (.bool false)), (.val (.int .i64 0)), (.val (.bool false)), (.val (.bool false)), (.val (.int .i64 0)), (.val (.bool false)), (.val (.bool false)), (.val (.int .i64 0)), (.val (.bool false)), (.val (.bool false)), (.val (.int .i64 0)), (.val (.bool false)), (.val (.bool false)), (.val (.int .i64 0)), (.val (.bool false)), (.val (.bool false)), (.val (.int .i64 0)), (.val (.bool false)), (.val (.bool false)), (.val (.int .i64 0)), (.val (.bool false)), (.val (.bool false)), (.val (.int .i64 0)), (.val (.bool false)), (.val (.bool false)), (.val (.int .i64 0)), (.val (.bool false)), (.val (.bool false)), (.val (.int .i64 0)), (.val (.bool false)), (.val (.bool false)), (.val (.int .i64 0)), (.val (.bool false)), (.val (.bool false)), (.val (.int .i64 0)), (.val (.bool false)), (.val (.bool false)), (.val (.int .i64 0)), (.val (.bool false)), (.val (.bool false)), (.val (.int .i64 0)), (.val (.bool false)), (.val (.bool false)), (.val (.int .i64 0)), (.val (.bool false)), (.val (.bool false)), (.val (.int .i64 0)), (.val (.bool false)), (.val (.bool false)), (.val (.int .i64 0)), (.val (.bool false)), (.val (.bool false)), (.val (.int .i64 0)), (.val (.bool false)), (.val (.bool false)), (.val (.int .i64 0)), (.val (.bool false)), (.val (.bool false)), (.val (.int .i64 0)), (.val (.bool false)), (.val (.bool false)), (.val (.int .i64 0)), (.val (.bool false)), (.val (.bool false)), (.val (.int .i64 0)), (.val (.bool false)), (.val (.bool false)), (.val (.int .i64 0)), (.val (.bool false)), (.val (.bool false)), (.val (.int .i64 0)), (.val (.bool false)), (.val (.bool false)), (.val (.int .i64 0)), (.val (.bool false)), (.val (.bool false)), (.val (.int .i64 0)), (.val (.bool false)), (.val (.bool false)), (.val (.int .i64 0)), (.val (.bool false)), (.val (.bool false)), (.val (.int .i64 0)), (.val (.bool false)), (.val (.bool false)), (.val (.int .i64 0)), (.val (.bool false)), (.val (.bool false)), (.val (.int .i64 0)), (.val (.bool false)), (.val (.bool false)), (.val (.int .i64 0)), (.val (.bool false)), (.val (.bool false)), (.val (.int .i64 0)), (.val (.bool false)), (.val (.bool false)), (.val (.int .i64 0)), (.val (.bool false)), (.val (.bool false)), (.val (.int .i64 0)), (.val (.bool false)), (.val (.bool false)), (.val (.int .i64 0)), (.val (.bool false)), (.val (.bool false)), (.val (.int .i64 0)), (.val (.bool false)), (.val (.bool false)), (.val (.int .i64 0)), (.val (.bool false)), (.val (.bool false)), (.val (.int .i64 0)), (.val (.bool false)), (.val (.bool false)), (.val (.int .i64 0)), (.val (.bool false)), (.val (.bool false)), (.val (.int .i64 0)), (.val (.bool false)), (.val (.bool false)), (.val (.int .i64 0)), (.val (.bool false)), (.val (.bool false)), (.val (.int .i64 0)), (.val (.bool false)), (.val (.bool false)), (.val (.int .i64 0)), (.val (.bool false)), (.val (.bool false)), (.val (.int .i64 0)), (.val (.bool false)), (.val (.bool false)), (.val (.int .i64 0)), (.val (.bool false)), (.val (.bool false)), (.val (.int .i64 0)), (.val (.bool false)), (.val (.bool false)), (.val (.int .i64 0)), (.val (.bool false)), (.val (.bool false)), (.val (.int .i64 0)), (.val (.bool false)), (.val (.bool false)), (.val (.int .i64 0)), (.val (.bool false)), (.val (.bool false)), (.val (.int .i64 0)), (.val (.bool false)), (.val (.bool false)), (.val (.int .i64 0)), (.val (.bool false)), (.val (.bool false)), (.val (.int .i64 0)), (.val (.bool false)), (.val (.bool false)), (.val (.int .i64 0)), (.val (.bool false)), (.val (.bool false)), (.val (.int .i64 0)), (.val (.bool false)), (.val (.bool false)), (.val (.int .i64 0)), (.val (.bool false)), (.val (.bool false)), (.val (.int .i64 0)), (.val (.bool false)), (.val (.bool false)), (.val (.int .i64 0)), (.val (.bool false)), (.val (.bool false)), (.val (.int .i64 0)), (.val (.bool false)), (.val (.bool false)), (.val (.int .i64 0)), (.val (.bool false)), (.val (.bool false)), (.val (.int .i64 0)), (.val (.bool false)), (.val (.bool false)), (.val (.int .i64 0)), (.val (.bool false)), (.val (.bool false)), (.val (.int .i64 0)), (.val (.bool false)), (.val (.bool false)), (.val (.int .i64 0)), (.val (.bool false)), (.val (.bool false)), (.val (.int .i64 0)), (.val (.bool false)), (.val (.bool false)), (.val (.int .i64 0)), (.val (.bool false)), (.val (.bool false)), (.val (.int .i64 0)), (.val (.bool false)), (.val (.bool false)), (.val (.int .i64 0)), (.val (.bool false)), (.val (.bool false)), (.val (.int .i64 0)), (.val (.bool false)), (.val (.bool false)), (.val (.int .i64 0)), (.val (.bool false)), (.val (.bool false)), (.val (.int .i64 0)), (.val (.bool false)), (.val (.bool false)), (.val (.int .i64 0)), (.val (.bool false)), (.val (.bool false)), (.val (.int .i64 0)), (.val (.bool false)), (.val (.bool false)), (.val (.int .i64 0)), (.val (.bool false)), (.val (.bool false)), (.val (.int .i64 0)), (.val (.bool false)), (.val (.bool false)), (.val (.int .i64 0)), (.val (.bool false)), (.val (.bool false)), (.val (.int .i64 0)), (.val (.bool false)), (.val (.bool false)), (.val (.int .i64 0)), (.val (.bool false)), (.val (.bool false)), (.val (.int .i64 0)), (.val (.bool false)), (.val (.bool false)), (.val (.int .i64 0)), (.val (.bool false)), (.val (.bool false)), (.val (.int .i64 0)), (.val (.bool false)), (.val (.bool false)), (.val (.int .i64 0)), (.val (.bool false)), (.val (.bool false)), (.val (.int .i64 0)), (.val (.bool false)), (.val (.bool false)), (.val (.int .i64 0)), (.val (.bool false)), (.val (.bool false)), (.val (.int .i64 0)), (.val (.bool false)), (.val (.bool false)), (.val (.int .i64 0)), (.val (.bool false)), (.val (.bool false)), (.val (.int .i64 0)), (.val (.bool false)), (.val (.bool false)), (.val (.int .i64 0)), (.val (.bool false)), (.val (.bool false)), (.val (.int .i64 0)), (.val (.bool false)), (.val (.bool false)), (.val (.int .i64 0)), (.val (.bool false)), (.val (.bool false)), (.val (.int .i64 0)), (.val (.bool false)), (.val (.bool false)), (.val (.int .i64 0)), (.val (.bool false)), (.val (.bool false)), (.val (.int .i64 0)), (.val (.bool false)), (.val (.bool false)), (.val (.int .i64 0)), (.val (.bool false)), (.val (.bool false)), (.val (.int .i64 0)), (.val (.bool false)), (.val (.bool false)), (.val (.int .i64 0)), (.val (.bool false)), (.val (.bool false)), (.val (.int .i64 0)), (.val (.bool false)), (.val (.bool false)), (.val (.int .i64 0)), (.val (.bool false)), (.val (.bool false)), (.val (.int .i64 0)), (.val (.bool false)), (.val (.bool false)), (.val (.int .i64 0)), (.val (.bool false)), (.val (.bool false)), (.val (.int .i64 0)), (.val (.bool false)), (.val (.bool false)), (.val (.int .i64 0)), (.val (.bool false)), (.val (.bool false)), (.val (.int .i64 0)), (.val (.bool false)), (.val (.bool false)), (.val (.int .i64 0)), (.val (.bool false)), (.val (.bool false)), (.val (.int .i64 0)), (.val (.bool false)), (.val (.bool false)), (.val (.int .i64 0)), (.val (.bool false)), (.val (.bool false)), (.val (.int .i64 0)), (.val (.bool false)), (.val (.bool false)), (.val (.int .i64 0)), (.val (.bool false)), (.val (.bool false)), (.val (.int .i64 0)), (.val (.bool false)), (.val (.bool false)), (.val (.int .i64 0)), (.val (.bool false)), (.val (.bool false)), (.val (.int .i64 0)), (.val (.bool false)), (.val (.bool false)), (.val (.int .i64 0)), (.val (.bool false)), (.val (.bool false)), (.val (.int .i64 0)), (.val (.bool false)), (.val (.bool false)), (.val (.int .i64 0)), (.val (.bool false)), (.val (.bool false)), (.val (.int .i64 0)), (.val (.bool false)), (.val (.bool false)), (.val (.int .i64 0)), (.val (.bool false)), (.val (.bool false)), (.val (.int .i64 0)), (.val (.bool false)), (.val (.bool false)), (.val (.int .i64 0)), (.val (.bool false)), (.val (.bool false)), (.val (.int .i64 0)), (.val (.bool false)), (.val (.bool false)), (.val (.int .i64 0)), (.val (.bool false)), (.val (.bool false)), (.val (.int .i64 0)), (.val (.bool false)), (.val (.bool false)), (.val (.int .i64 0)), (.val (.bool false)), (.val (.bool false)), (.val (.int .i64 0)), (.val (.bool false)), (.val (.bool false)), (.val (.int .i64 0)), (.val (.bool false)), (.val (.bool false)), (.val (.int .i64 0)), (.val (.bool false)), (.val (.bool false)), (.val (.int .i64 0)), (.val (.bool false)), (.val (.bool false)), (.val (.int .i64 0)), (.val (.bool false)), (.val (.bool false)), (.val (.int .i64 0)), (.val (.bool false)), (.val (.bool false)), (.val (.int .i64 0)), (.val (.bool false)), (.val (.bool false)), (.val (.int .i64 0)), (.val (.bool false)), (.val (.bool false)), (.val (.int .i64 0)), (.val (.bool false)), (.val (.bool false)), (.val (.int .i64 0)), (.val (.bool false)), (.val (.bool false)), (.val (.int .i64 0)), (.val (.bool false)), (.val (.bool false)), (.val (.int .i64 0)), (.val (.bool false)), (.val (.bool false)), (.val (.int .i64 0)), (.val (.bool false)), (.val (.bool false)), (.val (.int .i64 0)), (.val (.bool false)), (.val (.bool false)), (.val (.int .i64 0)), (.val (.bool false)), (.val (.bool false)), (.val (.int .i64 0)), (.val (.bool false)), (.val (.bool false)), (.val (.int .i64 0)), (.val (.bool false)), (.val (.bool false)), (.val (.int .i64 0)), (.val (.bool false)), (.val (.bool false)), (.val (.int .i64 0)), (.val (.bool false)), (.val (.bool false)), (.val (.int .i64 0)), (.val (.bool false)), (.val (.bool false)), (.val (.int .i64 0)), (.val (.bool false)), (.val (.bool false)), (.val (.int .i64 0)), (.val (.bool false)), (.val (.bool false)), (.val (.int .i64 0)), (.val (.bool false)), (.val (.bool false)), (.val (.int .i64 0)), (.val (.bool false)), (.val (.bool false)), (.val (.int .i64 0)), (.val (.bool false)), (.val (.bool false)), (.val (.int .i64 0)), (.val (.bool false)), (.val (.bool false)), (.val (.int .i64 0)), (.val (.bool false)), (.val (.bool false)), (.val (.int .i64 0)), (.val (.bool false)), (.val (.bool false)), (.val (.int .i64 0)), (.val (.bool false)), (.val (.bool false)), (.val (.int .i64 0)), (.val (.bool false)), (.val (.bool false)), (.val (.int .i64 0)), (.val (.bool false)), (.val (.bool false)), (.val (.int .i64 0)), (.val (.bool false)), (.val (.bool false)), (.val (.int .i64 0)), (.val (.bool false)), (.val (.bool false)), (.val (.int .i64 0)), (.val (.bool false)), (.val (.bool false)), (.val (.int .i64 0)), (.val (.bool false)), (.val (.bool false)), (.val (.int .i64 0)), (.val (.bool false)), (.val (.bool false)), (.val (.int .i64 0)), (.val (.bool false)), (.val (.bool false)), (.val (.int .i64 0)), (.val (.bool false)), (.val (.bool false)), (.val (.int .i64 0)), (.val (.bool false)), (.val (.bool false)), (.val (.int .i64 0)), (.val (.bool false)), (.val (.bool false)), (.val (.int .i64 0)), (.val (.bool false)), (.val (.bool false)), (.val (.int .i64 0)), (.val (.bool false)), (.val (.bool false)), (.val (.int .i64 0)), (.val (.bool false)), (.val (.bool false)), (.val (.int .i64 0)), (.val (.bool false)), (.val (.bool false)), (.val (.int .i64 0)), (.val (.bool false)), (.val (.bool false)), (.val (.int .i64 0)), (.val (.bool false)), (.val (.bool false)), (.val (.int .i64 0)), (.val (.bool false)), (.val (.bool false)), (.val (.int .i64 0)), (.val (.bool false)), (.val (.bool false)), (.val (.int .i64 0)), (.val (.bool false)), (.val (.bool false)), (.val (.int .i64 0)), (.val (.bool false)), (.val (.bool false)), (.val (.int .i64 0)), (.val (.bool false)), (.val (.bool false)), (.val (.int .i64 0)), (.val (.bool false)), (.val (.bool false)), (.val (.int .i64 0)), (.val (.bool false)), (.val (.bool false)), (.val (.int .i64 0)), (.val (.bool false)), (.val (.bool false)), (.val (.int .i64 0)), (.val (.bool false)), (.val (.bool false)), (.val (.int .i64 0)), (.val (.bool false)), (.val (.bool false)), (.val (.int .i64 0)), (.val (.bool false)), (.val (.bool false)), (.val (.int .i64 0)), (.val (.bool false)), (.val (.bool false)), (.val (.int .i64 0)), (.val (.bool false)), (.val (.bool false)), (.val (.int .i64 0)), (.val (.bool false)), (.val (.bool false)), (.val (.int .i64 0)), (.val (.bool false)), (.val (.bool false)), (.val (.int .i64 0)), (.val (.bool false)), (.val (.bool false)), (.val (.int .i64 0)), (.val (.bool false)), (.val (.bool false)), (.val (.int .i64 0)), (.val (.bool false)), (.val (.bool false)), (.val (.int .i64 0)), (.val (.bool false)), (.val (.bool false)), (.val (.int .i64 0)), (.val (.bool false)), (.val (.bool false)), (.val (.int .i64 0)), (.val (.bool false)), (.val (.bool false)), (.val (.int .i64 0)), (.val (.bool false)), (.val (.bool false)), (.val (.int .i64 0)), (.val (.bool false)), (.val (.bool false)), (.val (.int .i64 0)), (.val (.bool false)), (.val (.bool false)), (.val (.int .i64 0)), (.val (.bool false)), (.val (.bool false)), (.val (.int .i64 0)), (.val (.bool false)), (.val (.bool false)), (.val (.int .i64 0)), (.val (.bool false)), (.val (.bool false)), (.val (.int .i64 0)), (.val (.bool false)), (.val (.bool false)), (.val (.int .i64 0)), (.val (.bool false)), (.val (.bool false)), (.val (.int .i64 0)), (.val (.bool false)), (.val (.bool false))] := ⟨by kernel_rfl⟩
instance : AggT Try.prog 41 771 := ⟨by kernel_rfl⟩
instance : ArrT Try.prog 41 257 3 := ⟨by kernel_rfl⟩
instance : ZeroT Try.prog 42 [(.val (.int .i64 0)), (.val (.int .i64 0)), (.val (.bool false)), (.val (.bool false)), (.val (.int .i64 0)), (.val (.bool false)), (.val (.bool false)), (.val (.int .i64 0)), (.val (.bool false)), (.val (.bool false)), (.val (.int .i64 0)), (.val (.bool false)), (.val (.bool false)), (.val (.int .i64 0)), (.val (.bool false)), (.val (.bool false)), (.val (.int .i64 0)), (.val (.bool false)), (.val (.bool false)), (.val (.int .i64 0)), (.val (.bool false)), (.val (.bool false)), (.val (.int .i64 0)), (.val (.bool false)), (.val (.bool false)), (.val (.int .i64 0)), (.val (.bool false)), (.val (.bool false)), (.val (.int .i64 0)), (.val (.bool false)), (.val (.bool false)), (.val (.int .i64 0)), (.val (.bool false)), (.val (.bool false)), (.val (.int .i64 0)), (.val (.bool false)), (.val (.bool false)), (.val (.int .i64 0)), (.val (.bool false)), (.val (.bool false)), (.val (.int .i64 0)), (.val (.bool false)), (.val (.bool false)), (.val (.int .i64 0)), (.val (.bool false)), (.val (.bool false)), (.val (.int .i64 0)), (.val (.bool false)), (.val (.bool false)), (.val (.int .i64 0)), (.val (.bool false)), (.val (.bool false)), (.val (.int .i64 0)), (.val (.bool false)), (.val (.bool false)), (.val (.int .i64 0)), (.val (.bool false)), (.val (.bool false)), (.val (.int .i64 0)), (.val (.bool false)), (.val (.bool false)), (.val (.int .i64 0)), (.val (.bool false)), (.val (.bool false)), (.val (.int .i64 0)), (.val (.bool false)), (.val (.bool false)), (.val (.int .i64 0)), (.val (.bool false)), (.val (.bool false)), (.val (.int .i64 0)), (.val (.bool false)), (.val (.bool false)), (.val (.int .i64 0)), (.val (.bool false)), (.val (.bool false)), (.val (.int .i64 0)), (.val (.bool false)), (.val (.bool false)), (.val (.int .i64 0)), (.val (.bool false)), (.val (.bool false)), (.val (.int .i64 0)), (.val (.bool false)), (.val (.bool false)), (.val (.int .i64 0)), (.val (.bool false)), (.val (.bool false)), (.val (.int .i64 0)), (.val (.bool false)), (.val (.bool false)), (.val (.int .i64 0)), (.val (.bool false)), (.val (.bool false)), (.val (.int .i64 0)), (.val (.bool false)), (.val (.bool false)), (.val (.int .i64 0)), (.val (.bool false)), (.val (.bool false)), (.val (.int .i64 0)), (.val (.bool false)), (.val (.bool false)), (.val (.int .i64 0)), (.val (.bool false)), (.val (.bool false)), (.val (.int .i64 0)), (.val (.bool false)), (.val (.bool false)), (.val (.int .i64 0)), (.val (.bool false)), (.val (.bool false)), (.val (.int .i64 0)), (.val (.bool false)), (.val (.bool false)), (.val (.int .i64 0)), (.val (.bool false)), (.val (.bool false)), (.val (.int .i64 0)), (.val (.bool false)), (.val (.bool false)), (.val (.int .i64 0)), (.val (.bool false)), (.val (.bool false)), (.val (.int .i64 0)), (.val (.bool false)), (.val (.bool false)), (.val (.int .i64 0)), (.val (.bool false)), (.val (.bool false)), (.val (.int .i64 0)), (.val (.bool false)), (.val (.bool false)), (.val (.int .i64 0)), (.val (.bool false)), (.val (.bool false)), (.val (.int .i64 0)), (.val (.bool false)), (.val (.bool false)), (.val (.int .i64 0)), (.val (.bool false)), (.val (.bool false)), (.val (.int .i64 0)), (.val (.bool false)), (.val (.bool false)), (.val (.int .i64 0)), (.val (.bool false)), (.val (.bool false)), (.val (.int .i64 0)), (.val (.bool false)), (.val (.bool false)), (.val (.int .i64 0)), (.val (.bool false)), (.val (.bool false)), (.val (.int .i64 0)), (.val (.bool false)), (.val (.bool false)), (.val (.int .i64 0)), (.val (.bool false)), (.val (.bool false)), (.val (.int .i64 0)), (.val (.bool false)), (.val (.bool false)), (.val (.int .i64 0)), (.val (.bool false)), (.val (.bool false)), (.val (.int .i64 0)), (.val (.bool false)), (.val (.bool false)), (.val (.int .i64 0)), (.val (.bool false)), (.val (.bool false)), (.val (.int .i64 0)), (.val (.bool false)), (.val (.bool false)), (.val (.int .i64 0)), (.val (.bool false)), (.val (.bool false)), (.val (.int .i64 0)), (.val (.bool false)), (.val (.bool false)), (.val (.int .i64 0)), (.val (.bool false)), (.val (.bool false)), (.val (.int .i64 0)), (.val (.bool false)), (.val (.bool false)), (.val (.int .i64 0)), (.val (.bool false)), (.val (.bool false)), (.val (.int .i64 0)), (.val (.bool false)), (.val (.bool false)), (.val (.int .i64 0)), (.val (.bool false)), (.val (.bool false)), (.val (.int .i64 0)), (.val (.bool false)), (.val (.bool false)), (.val (.int .i64 0)), (.val (.bool false)), (.val (.bool false)), (.val (.int .i64 0)), (.val (.bool false)), (.val (.bool false)), (.val (.int .i64 0)), (.val (.bool false)), (.val (.bool false)), (.val (.int .i64 0)), (.val (.bool false)), (.val (.bool false)), (.val (.int .i64 0)), (.val (.bool false)), (.val (.bool false)), (.val (.int .i64 0)), (.val (.bool false)), (.val (.bool false)), (.val (.int .i64 0)), (.val (.bool false)), (.val (.bool false)), (.val (.int .i64 0)), (.val (.bool false)), (.val (.bool false)), (.val (.int .i64 0)), (.val (.bool false)), (.val (.bool false)), (.val (.int .i64 0)), (.val (.bool false)), (.val (.bool false)), (.val (.int .i64 0)), (.val (.bool false)), (.val (.bool false)), (.val (.int .i64 0)), (.val (.bool false)), (.val (.bool false)), (.val (.int .i64 0)), (.val (.bool false)), (.val (.bool false)), (.val (.int .i64 0)), (.val (.bool false)), (.val (.bool false)), (.val (.int .i64 0)), (.val (.bool false)), (.val (.bool false)), (.val (.int .i64 0)), (.val (.bool false)), (.val (.bool false)), (.val (.int .i64 0)), (.val (.bool false)), (.val (.bool false)), (.val (.int .i64 0)), (.val (.bool false)), (.val (.bool false)), (.val (.int .i64 0)), (.val (.bool false)), (.val (.bool false)), (.val (.int .i64 0)), (.val (.bool false)), (.val (.bool false)), (.val (.int .i64 0)), (.val (.bool false)), (.val (.bool false)), (.val (.int .i64 0)), (.val (.bool false)), (.val (.bool false)), (.val (.int .i64 0)), (.val (.bool false)), (.val (.bool false)), (.val (.int .i64 0)), (.val (.bool false)), (.val (.bool false)), (.val (.int .i64 0)), (.val (.bool false)), (.val (.bool false)), (.val (.int .i64 0)), (.val (.bool false)), (.val (.bool false)), (.val (.int .i64 0)), (.val (.bool false)), (.val (.bool false)), (.val (.int .i64 0)), (.val (.bool false)), (.val (.bool false)), (.val (.int .i64 0)), (.val (.bool false)), (.val (.bool false)), (.val (.int .i64 0)), (.val (.bool false)), (.val (.bool false)), (.val (.int .i64 0)), (.val (.bool false)), (.val (.bool false)), (.val (.int .i64 0)), (.val (.bool false)), (.val (.bool false)), (.val (.int .i64 0)), (.val (.bool false)), (.val (.bool false)), (.val (.int .i64 0)), (.val (.bool false)), (.val (.bool false)), (.val (.int .i64 0)), (.val (.bool false)), (.val (.bool false)), (.val (.int .i64 0)), (.val (.bool false)), (.val (.bool false)), (.val (.int .i64 0)), (.val (.bool false)), (.val (.bool false)), (.val (.int .i64 0)), (.val (.bool false)), (.val (.bool false)), (.val (.int .i64 0)), (.val (.bool false)), (.val (.bool false)), (.val (.int .i64 0)), (.val (.bool false)), (.val (.bool false)), (.val (.int .i64 0)), (.val (.bool false)), (.val (.bool false)), (.val (.int .i64 0)), (.val (.bool false)), (.val (.bool false)), (.val (.int .i64 0)), (.val (.bool false)), (.val (.bool false)), (.val (.int .i64 0)), (.val (.bool false)), (.val (.bool false)), (.val (.int .i64 0)), (.val (.bool false)), (.val (.bool false)), (.val (.int .i64 0)), (.val (.bool false)), (.val (.bool false)), (.val (.int .i64 0)), (.val (.bool false)), (.val (.bool false)), (.val (.int .i64 0)), (.val (.bool false)), (.val (.bool false)), (.val (.int .i64 0)), (.val (.bool false)), (.val (.bool false)), (.val (.int .i64 0)), (.val (.bool false)), (.val (.bool false)), (.val (.int .i64 0)), (.val (.bool false)), (.val (.bool false)), (.val (.int .i64 0)), (.val (.bool false)), (.val (.bool false)), (.val (.int .i64 0)), (.val (.bool false)), (.val (.bool false)), (.val (.int .i64 0)), (.val (.bool false)), (.val (.bool false)), (.val (.int .i64 0)), (.val (.bool false)), (.val (.bool false)), (.val (.int .i64 0)), (.val (.bool false)), (.val (.bool false)), (.val (.int .i64 0)), (.val (.bool false)), (.val (.bool false)), (.val (.int .i64 0)), (.val (.bool false)), (.val (.bool false)), (.val (.int .i64 0)), (.val (.bool false)), (.val (.bool false)), (.val (.int .i64 0)), (.val (.bool false)), (.val (.bool false)), (.val (.int .i64 0)), (.val (.bool false)), (.val (.bool false)), (.val (.int .i64 0)), (.val (.bool false)), (.val (.bool false)), (.val (.int .i64 0)), (.val (.bool false)), (.val (.bool false)), (.val (.int .i64 0)), (.val (.bool false)), (.val (.bool false)), (.val (.int .i64 0)), (.val (.bool false)), (.val (.bool false)), (.val (.int .i64 0)), (.val (.bool false)), (.val (.bool false)), (.val (.int .i64 0)), (.val (.bool false)), (.val (.bool false)), (.val (.int .i64 0)), (.val (.bool false)), (.val (.bool false)), (.val (.int .i64 0)), (.val (.bool false)), (.val (.bool false)), (.val (.int .i64 0)), (.val (.bool false)), (.val (.bool false)), (.val (.int .i64 0)), (.val (.bool false)), (.val (.bool false)), (.val (.int .i64 0)), (.val (.bool false)), (.val (.bool false)), (.val (.int .i64 0)), (.val (.bool false)), (.val (.bool false)), (.val (.int .i64 0)), (.val (.bool false)), (.val (.bool false)), (.val (.int .i64 0)), (.val (.bool false)), (.val (.bool false)), (.val (.int .i64 0)), (.val (.bool false)), (.val (.bool false)), (.val (.int .i64 0)), (.val (.bool false)), (.val (.bool false)), (.val (.int .i64 0)), (.val (.bool false)), (.val (.bool false)), (.val (.int .i64 0)), (.val (.bool false)), (.val (.bool false)), (.val (.int .i64 0)), (.val (.bool false)), (.val (.bool false)), (.val (.int .i64 0)), (.val (.bool false)), (.val (.bool false)), (.val (.int .i64 0)), (.val (.bool false)), (.val (.bool false)), (.val (.int .i64 0)), (.val (.bool false)), (.val (.bool false)), (.val (.int .i64 0)), (.val (.bool false)), (.val (.bool false)), (.val (.int .i64 0)), (.val (.bool false)), (.val (.bool false)), (.val (.int .i64 0)), (.val (.bool false)), (.val (.bool false)), (.val (.int .i64 0)), (.val (.bool false)), (.val (.bool false)), (.val (.int .i64 0)), (.val (.bool false)), (.val (.bool false)), (.val (.int .i64 0)), (.val (.bool false)), (.val (.bool false)), (.val (.int .i64 0)), (.val (.bool false)), (.val (.bool false)), (.val (.int .i64 0)), (.val (.bool false)), (.val (.bool false)), (.val (.int .i64 0)), (.val (.bool false)), (.val (.bool false)), (.val (.int .i64 0)), (.val (.bool false)), (.val (.bool false)), (.val (.int .i64 0)), (.val (.bool false)), (.val (.bool false)), (.val (.int .i64 0)), (.val (.bool false)), (.val (.bool false)), (.val (.int .i64 0)), (.val (.bool false)), (.val (.bool false)), (.val (.int .i64 0)), (.val (.bool false)), (.val (.bool false)), (.val (.int .i64 0)), (.val (.bool false)), (.val (.bool false)), (.val (.int .i64 0)), (.val (.bool false)), (.val (.bool false)), (.val (.int .i64 0)), (.val (.bool false)), (.val (.bool false)), (.val (.int .i64 0)), (.val (.bool false)), (.val (.bool false)), (.val (.int .i64 0)), (.val (.bool false)), (.val (.bool false)), (.val (.int .i64 0)), (.val (.bool false)), (.val (.bool false)), (.val (.int .i64 0)), (.val (.bool false)), (.val (.bool false)), (.val (.int .i64 0)), (.val (.bool false)), (.val (.bool false)), (.val (.int .i64 0)), (.val (.bool false)), (.val (.bool false)), (.val (.int .i64 0)), (.val (.bool false)), (.val (.bool false)), (.val (.int .i64 0)), (.val (.bool false)), (.val (.bool false)), (.val (.int .i64 0)), (.val (.bool false)), (.val (.bool false)), (.val (.int .i64 0)), (.val (.bool false)), (.val (.bool false)), (.val (.int .i64 0)), (.val (.bool false)), (.val (.bool false)), (.val (.int .i64 0)), (.val (.bool false)), (.val (.bool false)), (.val (.int .i64 0)), (.val (.bool false)), (.val (.bool false)), (.val (.int .i64 0)), (.val (.bool false)), (.val (.bool false)), (.val (.int .i64 0)), (.val (.bool false)), (.val (.bool false)), (.val (.int .i64 0)), (.val (.bool false)), (.val (.bool false)), (.val (.int .i64 0)), (.val (.bool false)), (.val (.bool false)), (.val (.int .i64 0)), (.val (.bool false)), (.val (.bool false)), (.val (.int .i64 0)), (.val (.bool false)), (.val (.bool false)), (.val (.int .i64 0)), (.val (.bool false)), (.val (.bool false)), (.val (.int .i64 0)), (.val (.bool false)), (.val (.bool false)), (.val (.int .i64 0)), (.val (.bool false)), (.val (.bool false)), (.val (.int .i64 0)), (.val (.bool false)), (.val (.bool false)), (.val (.int .i64 0)), (.val (.bool false)), (.val (.bool false)), (.val (.int .i64 0)), (.val (.bool false)), (.val (.bool false)), (.val (.int .i64 0)), (.val (.bool false)), (.val (.bool false)), (.val (.int .i64 0)), (.val (.bool false)), (.val (.bool false)), (.val (.int .i64 0)), (.val (.bool false)), (.val (.bool false)), (.val (.int .i64 0)), (.val (.bool false)), (.val (.bool false)), (.val (.int .i64 0)), (.val (.bool false)), (.val (.bool false)), (.val (.int .i64 0)), (.val (.bool false)), (.val (.bool false)), (.val (.int .i64 0)), (.val (.bool false)), (.val (.bool false)), (.val (.int .i64 0)), (.val (.bool false)), (.val (.bool false)), (.val (.int .i64 0)), (.val (.bool false)), (.val (.bool false)), (.val (.int .i64 0)), (.val (.bool false)), (.val (.bool false)), (.val (.int .i64 0)), (.val (.bool false)), (.val (.bool false)), (.val (.int .i64 0)), (.val (.bool false)), (.val (.bool false)), (.val (.int .i64 0)), (.val (.bool false)), (.val (.bool false)), (.val (.int .i64 0)), (.val (.bool false)), (.val (.bool false)), (.val (.int .i64 0)), (.val (.bool false)), (.val (.bool false)), (.val (.int .i64 0)), (.val (.bool false)), (.val (.bool false)), (.val (.int .i64 0)), (.val (.bool false)), (.val (.bool false)), (.val (.int .i64 0)), (.val (.bool false)), (.val (.bool false)), (.val (.int .i64 0)), (.val (.bool false)), (.val (.bool false)), (.val (.int .i64 0)), (.val (.bool false)), (.val (.bool false)), (.val (.int .i64 0)), (.val (.bool false)), (.val (.bool false)), (.val (.int .i64 0)), (.val (.bool false)), (.val (.bool false)), (.val (.int .i64 0)), (.val (.bool false)), (.val (.bool false)), (.val (.int .i64 0)), (.val (.bool false)), (.val (.bool false)), (.val (.int .i64 0)), (.val (.bool false)), (.val (.bool false)), (.val (.int .i64 0)), (.val (.bool false)), (.val (.bool false)), (.val (.int .i64 0)), (.val (.bool false)), (.val (.bool false)), (.val (.int .i64 0)), (.val (.bool false)), (.val (.bool false)), (.val (.int .i64 0)), (.val (.bool false)), (.val (.bool false)), (.val (.int .i64 0)), (.val (.bool false)), (.val (.bool false)), (.val (.int .i64 0)), (.val (.bool false)), (.val (.bool false)), (.val (.int .i64 0)), (.val (.bool false)), (.val (.bool false)), (.val (.int .i64 0)), (.val (.bool false)), (.val (.bool false)), (.val (.int .i64 0)), (.val (.bool false)), (.val (.bool false)), (.val (.int .i64 0)), (.val (.bool false)), (.val (.bool false)), (.val (.int .i64 0)), (.val (.bool false)), (.val (.bool false)), (.val (.int .i64 0)), (.val (.bool false)), (.val (.bool false)), (.val (.int .i64 0)), (.val (.bool false)), (.val (.bool false)), (.val (.int .i64 0)), (.val (.bool false)), (.val (.bool false)), (.val (.int .i64 0)), (.val (.bool false)), (.val (.bool false)), (.val (.int .i64 0)), (.val (.bool false)), (.val (.bool false)), (.val (.int .i64 0)), (.val (.bool false)), (.val (.bool false)), (.val (.int .i64 0)), (.val (.bool false)), (.val (.bool false)), (.val (.int .i64 0)), (.val (.bool false)), (.val (.bool false)), (.val (.int .i64 0)), (.val (.bool false)), (.val (.bool false)), (.val (.int .i64 0)), (.val (.bool false)), (.val (.bool false)), (.val (.int .i64 0)), (.val (.bool false)), (.val (.bool false)), (.val (.int .i64 0)), (.val (.bool false)), (.val (.bool false)), (.val (.int .i64 0)), (.val (.bool false)), (.val (.bool false)), (.val (.int .i64 0)), (.val (.bool false)), (.val (.bool false)), (.val (.int .i64 0)), (.val (.bool false)), (.val (.bool false)), (.val (.int .i64 0)), (.val (.bool false)), (.val (.bool false)), (.val (.int .i64 0)), (.val (.bool false)), (.val (.bool false)), (.val (.int .i64 0)), (.val (.bool false)), (.val (.bool false)), (.val (.int .i64 0)), (.val (.bool false)), (.val (.bool false)), (.val (.int .i64 0)), (.val (.bool false)), (.val (.bool false)), (.val (.int .i64 0)), (.val (.bool false)), (.val (.bool false)), (.val (.int .i64 0)), (.val (.bool false)), (.val (.bool false)), (.val (.int .i64 0)), (.val (.bool false)), (.val (.bool false)), (.val (.int .i64 0)), (.val (.bool false)), (.val (.bool false)), (.val (.int .i64 0)), (.val (.bool false)), (.val (.bool false)), (.val (.int .i64 0)), (.val (.bool false)), (.val (.bool false)), (.val (.int .i64 0)), (.val (.bool false)), (.val (.bool false)), (.val (.int .i64 0)), (.val (.bool false)), (.val (.bool false)), (.val (.int .i64 0)), (.val (.bool false)), (.val (.bool false)), (.val (.int .i64 0)), (.val (.bool false)), (.val (.bool false)), (.val (.int .i64 0))] := ⟨by kernel_rfl⟩
instance : AggT Try.prog 42 773 := ⟨by kernel_rfl⟩
instance : FieldT Try.prog 42 0 0 0 := ⟨by kernel_rfl⟩
instance : FieldT Try.prog 42 1 1 770 := ⟨by kernel_rfl⟩
instance : FieldT Try.prog 42 2 772 0 := ⟨by kernel_rfl⟩
instance : StructT Try.prog 42 [(.int .i64 0), (.int .i64 0), (.bool false), (.bool false), (.int .i64 0), (.bool false), (.bool false), (.int .i64 0), (.bool false), (.bool false), (.int .i64 0), (.bool false), (.bool false), (.int .i64 0), (.bool false), (.bool false), (.int .i64 0), (.bool false), (.bool false), (.int .i64 0), (.bool false), (.bool false), (.int .i64 0), (.bool false), (.bool false), (.int .i64 0), (.bool false), (.bool false), (.int .i64 0), (.bool false), (.bool false), (.int .i64 0), (.bool false), (.bool false), (.int .i64 0), (.bool false), (.bool false), (.int .i64 0), (.bool false), (.bool false), (.int .i64 0), (.bool false), (.bool false), (.int .i64 0), (.bool false), (.bool false), (.int .i64 0), (.bool false), (.bool false), (.int .i64 0), (.bool false), (.bool false), (.int .i64 0), (.bool false), (.bool false), (.int .i64 0), (.bool false), (.bool false), (.int .i64 0), (.bool false), (.bool false), (.int .i64 0), (.bool false), (.bool false), (.int .i64 0), (.bool false), (.bool false), (.int .i64 0), (.bool false), (.bool false), (.int .i64 0), (.bool false), (.bool false), (.int .i64 0), (.bool false), (.bool false), (.int .i64 0), (.bool false), (.bool false), (.int .i64 0), (.bool false), (.bool false), (.int .i64 0), (.bool false), (.bool false), (.int .i64 0), (.bool false), (.bool false), (.int .i64 0), (.bool false), (.bool false), (.int .i64 0), (.bool false), (.bool false), (.int .i64 0), (.bool false), (.bool false), (.int .i64 0), (.bool false), (.bool false), (.int .i64 0), (.bool false), (.bool false), (.int .i64 0), (.bool false), (.bool false), (.int .i64 0), (.bool false), (.bool false), (.int .i64 0), (.bool false), (.bool false), (.int .i64 0), (.bool false), (.bool false), (.int .i64 0), (.bool false), (.bool false), (.int .i64 0), (.bool false), (.bool false), (.int .i64 0), (.bool false), (.bool false), (.int .i64 0), (.bool false), (.bool false), (.int .i64 0), (.bool false), (.bool false), (.int .i64 0), (.bool false), (.bool false), (.int .i64 0), (.bool false), (.bool false), (.int .i64 0), (.bool false), (.bool false), (.int .i64 0), (.bool false), (.bool false), (.int .i64 0), (.bool false), (.bool false), (.int .i64 0), (.bool false), (.bool false), (.int .i64 0), (.bool false), (.bool false), (.int .i64 0), (.bool false), (.bool false), (.int .i64 0), (.bool false), (.bool false), (.int .i64 0), (.bool false), (.bool false), (.int .i64 0), (.bool false), (.bool false), (.int .i64 0), (.bool false), (.bool false), (.int .i64 0), (.bool false), (.bool false), (.int .i64 0), (.bool false), (.bool false), (.int .i64 0), (.bool false), (.bool false), (.int .i64 0), (.bool false), (.bool false), (.int .i64 0), (.bool false), (.bool false), (.int .i64 0), (.bool false), (.bool false), (.int .i64 0), (.bool false), (.bool false), (.int .i64 0), (.bool false), (.bool false), (.int .i64 0), (.bool false), (.bool false), (.int .i64 0), (.bool false), (.bool false), (.int .i64 0), (.bool false), (.bool false), (.int .i64 0), (.bool false), (.bool false), (.int .i64 0), (.bool false), (.bool false), (.int .i64 0), (.bool false), (.bool false), (.int .i64 0), (.bool false), (.bool false), (.int .i64 0), (.bool false), (.bool false), (.int .i64 0), (.bool false), (.bool false), (.int .i64 0), (.bool false), (.bool false), (.int .i64 0), (.bool false), (.bool false), (.int .i64 0), (.bool false), (.bool false), (.int .i64 0), (.bool false), (.bool false), (.int .i64 0), (.bool false), (.bool false), (.int .i64 0), (.bool false), (.bool false), (.int .i64 0), (.bool false), (.bool false), (.int .i64 0), (.bool false), (.bool false), (.int .i64 0), (.bool false), (.bool false), (.int .i64 0), (.bool false), (.bool false), (.int .i64 0), (.bool false), (.bool false), (.int .i64 0), (.bool false), (.bool false), (.int .i64 0), (.bool false), (.bool false), (.int .i64 0), (.bool false), (.bool false), (.int .i64 0), (.bool false), (.bool false), (.int .i64 0), (.bool false), (.bool false), (.int .i64 0), (.bool false), (.bool false), (.int .i64 0), (.bool false), (.bool false), (.int .i64 0), (.bool false), (.bool false), (.int .i64 0), (.bool false), (.bool false), (.int .i64 0), (.bool false), (.bool false), (.int .i64 0), (.bool false), (.bool false), (.int .i64 0), (.bool false), (.bool false), (.int .i64 0), (.bool false), (.bool false), (.int .i64 0), (.bool false), (.bool false), (.int .i64 0), (.bool false), (.bool false), (.int .i64 0), (.bool false), (.bool false), (.int .i64 0), (.bool false), (.bool false), (.int .i64 0), (.bool false), (.bool false), (.int .i64 0), (.bool false), (.bool false), (.int .i64 0), (.bool false), (.bool false), (.int .i64 0), (.bool false), (.bool false), (.int .i64 0), (.bool false), (.bool false), (.int .i64 0), (.bool false), (.bool false), (.int .i64 0), (.bool false), (.bool false), (.int .i64 0), (.bool false), (.bool false), (.int .i64 0), (.bool false), (.bool false), (.int .i64 0), (.bool false), (.bool false), (.int .i64 0), (.bool false), (.bool false), (.int .i64 0), (.bool false), (.bool false), (.int .i64 0), (.bool false), (.bool false), (.int .i64 0), (.bool false), (.bool false), (.int .i64 0), (.bool false), (.bool false), (.int .i64 0), (.bool false), (.bool false), (.int .i64 0), (.bool false), (.bool false), (.int .i64 0), (.bool false), (.bool false), (.int .i64 0), (.bool false), (.bool false), (.int .i64 0), (.bool false), (.bool false), (.int .i64 0), (.bool false), (.bool false), (.int .i64 0), (.bool false), (.bool false), (.int .i64 0), (.bool false), (.bool false), (.int .i64 0), (.bool false), (.bool false), (.int .i64 0), (.bool false), (.bool false), (.int .i64 0), (.bool false), (.bool false), (.int .i64 0), (.bool false), (.bool false), (.int .i64 0), (.bool false), (.bool false), (.int .i64 0), (.bool false), (.bool false), (.int .i64 0), (.bool false), (.bool false), (.int .i64 0), (.bool false), (.bool false), (.int .i64 0), (.bool false), (.bool false), (.int .i64 0), (.bool false), (.bool false), (.int .i64 0), (.bool false), (.bool false), (.int .i64 0), (.bool false), (.bool false), (.int .i64 0), (.bool false), (.bool false), (.int .i64 0), (.bool false), (.bool false), (.int .i64 0), (.bool false), (.bool false), (.int .i64 0), (.bool false), (.bool false), (.int .i64 0), (.bool false), (.bool false), (.int .i64 0), (.bool false), (.bool false), (.int .i64 0), (.bool false), (.bool false), (.int .i64 0), (.bool false), (.bool false), (.int .i64 0), (.bool false), (.bool false), (.int .i64 0), (.bool false), (.bool false), (.int .i64 0), (.bool false), (.bool false), (.int .i64 0), (.bool false), (.bool false), (.int .i64 0), (.bool false), (.bool false), (.int .i64 0), (.bool false), (.bool false), (.int .i64 0), (.bool false), (.bool false), (.int .i64 0), (.bool false), (.bool false), (.int .i64 0), (.bool false), (.bool false), (.int .i64 0), (.bool false), (.bool false), (.int .i64 0), (.bool false), (.bool false), (.int .i64 0), (.bool false), (.bool false), (.int .i64 0), (.bool false), (.bool false), (.int .i64 0), (.bool false), (.bool false), (.int .i64 0), (.bool false), (.bool false), (.int .i64 0), (.bool false), (.bool false), (.int .i64 0), (.bool false), (.bool false), (.int .i64 0), (.bool false), (.bool false), (.int .i64 0), (.bool false), (.bool false), (.int .i64 0), (.bool false), (.bool false), (.int .i64 0), (.bool false), (.bool false), (.int .i64 0), (.bool false), (.bool false), (.int .i64 0), (.bool false), (.bool false), (.int .i64 0), (.bool false), (.bool false), (.int .i64 0), (.bool false), (.bool false), (.int .i64 0), (.bool false), (.bool false), (.int .i64 0), (.bool false), (.bool false), (.int .i64 0), (.bool false), (.bool false), (.int .i64 0), (.bool false), (.bool false), (.int .i64 0), (.bool false), (.bool false), (.int .i64 0), (.bool false), (.bool false), (.int .i64 0), (.bool false), (.bool false), (.int .i64 0), (.bool false), (.bool false), (.int .i64 0), (.bool false), (.bool false), (.int .i64 0), (.bool false), (.bool false), (.int .i64 0), (.bool false), (.bool false), (.int .i64 0), (.bool false), (.bool false), (.int .i64 0), (.bool false), (.bool false), (.int .i64 0), (.bool false), (.bool false), (.int .i64 0), (.bool false), (.bool false), (.int .i64 0), (.bool false), (.bool false), (.int .i64 0), (.bool false), (.bool false), (.int .i64 0), (.bool false), (.bool false), (.int .i64 0), (.bool false), (.bool false), (.int .i64 0), (.bool false), (.bool false), (.int .i64 0), (.bool false), (.bool false), (.int .i64 0), (.bool false), (.bool false), (.int .i64 0), (.bool false), (.bool false), (.int .i64 0), (.bool false), (.bool false), (.int .i64 0), (.bool false), (.bool false), (.int .i64 0), (.bool false), (.bool false), (.int .i64 0), (.bool false), (.bool false), (.int .i64 0), (.bool false), (.bool false), (.int .i64 0), (.bool false), (.bool false), (.int .i64 0), (.bool false), (.bool false), (.int .i64 0), (.bool false), (.bool false), (.int .i64 0), (.bool false), (.bool false), (.int .i64 0), (.bool false), (.bool false), (.int .i64 0), (.bool false), (.bool false), (.int .i64 0), (.bool false), (.bool false), (.int .i64 0), (.bool false), (.bool false), (.int .i64 0), (.bool false), (.bool false), (.int .i64 0), (.bool false), (.bool false), (.int .i64 0), (.bool false), (.bool false), (.int .i64 0), (.bool false), (.bool false), (.int .i64 0), (.bool false), (.bool false), (.int .i64 0), (.bool false), (.bool false), (.int .i64 0), (.bool false), (.bool false), (.int .i64 0), (.bool false), (.bool false), (.int .i64 0), (.bool false), (.bool false), (.int .i64 0), (.bool false), (.bool false), (.int .i64 0), (.bool false), (.bool false), (.int .i64 0), (.bool false), (.bool false), (.int .i64 0), (.bool false), (.bool false), (.int .i64 0), (.bool false), (.bool false), (.int .i64 0), (.bool false), (.bool false), (.int .i64 0), (.bool false), (.bool false), (.int .i64 0), (.bool false), (.bool false), (.int .i64 0), (.bool false), (.bool false), (.int .i64 0), (.bool false), (.bool false), (.int .i64 0), (.bool false), (.bool false), (.int .i64 0), (.bool false), (.bool false), (.int .i64 0), (.bool false), (.bool false), (.int .i64 0), (.bool false), (.bool false), (.int .i64 0), (.bool false), (.bool false), (.int .i64 0), (.bool false), (.bool false), (.int .i64 0), (.bool false), (.bool false), (.int .i64 0), (.bool false), (.bool false), (.int .i64 0), (.bool false), (.bool false), (.int .i64 0), (.bool false), (.bool false), (.int .i64 0), (.bool false), (.bool false), (.int .i64 0), (.bool false), (.bool false), (.int .i64 0), (.bool false), (.bool false), (.int .i64 0), (.bool false), (.bool false), (.int .i64 0), (.bool false), (.bool false), (.int .i64 0), (.bool false), (.bool false), (.int .i64 0), (.bool false), (.bool false), (.int .i64 0), (.bool false), (.bool false), (.int .i64 0), (.bool false), (.bool false), (.int .i64 0), (.bool false), (.bool false), (.int .i64 0), (.bool false), (.bool false), (.int .i64 0), (.bool false), (.bool false), (.int .i64 0), (.bool false), (.bool false), (.int .i64 0), (.bool false), (.bool false), (.int .i64 0), (.bool false), (.bool false), (.int .i64 0), (.bool false), (.bool false), (.int .i64 0), (.bool false), (.bool false), (.int .i64 0), (.bool false), (.bool false), (.int .i64 0), (.bool false), (.bool false), (.int .i64 0), (.bool false), (.bool false), (.int .i64 0), (.bool false), (.bool false), (.int .i64 0), (.bool false), (.bool false), (.int .i64 0), (.bool false), (.bool false), (.int .i64 0), (.bool false), (.bool false), (.int .i64 0)] [(0, 1), (1, 771), (772, 1)] := ⟨by kernel_rfl⟩
instance : ZeroT Try.prog 43 [(.val (.int .i64 0)), (.val (.int .i64 0)), (.val (.bool false)), (.val (.bool false)), (.val (.int .i64 0)), (.val (.bool false)), (.val (.bool false)), (.val (.int .i64 0)), (.val (.bool false)), (.val (.bool false)), (.val (.int .i64 0)), (.val (.bool false)), (.val (.bool false)), (.val (.int .i64 0)), (.val (.bool false)), (.val (.bool false)), (.val (.int .i64 0)), (.val (.bool false)), (.val (.bool false)), (.val (.int .i64 0)), (.val (.bool false)), (.val (.bool false)), (.val (.int .i64 0)), (.val (.bool false)), (.val (.bool false)), (.val (.int .i64 0)), (.val (.bool false)), (.val (.bool false)), (.val (.int .i64 0)), (.val (.bool false)), (.val (.bool false)), (.val (.int .i64 0)), (.val (.bool false)), (.val (.bool false)), (.val (.int .i64 0)), (.val (.bool false)), (.val (.bool false)), (.val (.int .i64 0)), (.val (.bool false)), (.val (.bool false)), (.val (.int .i64 0)), (.val (.bool false)), (.val (.bool false)), (.val (.int .i64 0)), (.val (.bool false)), (.val (.bool false)), (.val (.int .i64 0)), (.val (.bool false)), (.val (.bool false)), (.val (.int .i64 0)), (.val (.bool false)), (.val (.bool false)), (.val (.int .i64 0)), (.val (.bool false)), (.val (.bool false)), (.val (.int .i64 0)), (.val (.bool false)), (.val (.bool false)), (.val (.int .i64 0)), (.val (.bool false)), (.val (.bool false)), (.val (.int .i64 0)), (.val (.bool false)), (.val (.bool false)), (.val (.int .i64 0)), (.val (.bool false)), (.val (.bool false)), (.val (.int .i64 0)), (.val (.bool false)), (.val (.bool false)), (.val (.int .i64 0)), (.val (.bool false)), (.val (.bool false)), (.val (.int .i64 0)), (.val (.bool false)), (.val (.bool false)), (.val (.int .i64 0)), (.val (.bool false)), (.val (.bool false)), (.val (.int .i64 0)), (.val (.bool false)), (.val (.bool false)), (.val (.int .i64 0)), (.val (.bool false)), (.val (.bool false)), (.val (.int .i64 0)), (.val (.bool false)), (.val (.bool false)), (.val (.int .i64 0)), (.val (.bool false)), (.val (.bool false)), (.val (.int .i64 0)), (.val (.bool false)), (.val (.bool false)), (.val (.int .i64 0)), (.val (.bool false)), (.val (.bool false)), (.val (.int .i64 0)), (.val (.bool false)), (.val (.bool false)), (.val (.int .i64 0)), (.val (.bool false)), (.val (.bool false)), (.val (.int .i64 0)), (.val (.bool false)), (.val (.bool false)), (.val (.int .i64 0)), (.val (.bool false)), (.val (.bool false)), (.val (.int .i64 0)), (.val (.bool false)), (.val (.bool false)), (.val (.int .i64 0)), (.val (.bool false)), (.val (.bool false)), (.val (.int .i64 0)), (.val (.bool false)), (.val (.bool false)), (.val (.int .i64 0)), (.val (.bool false)), (.val (.bool false)), (.val (.int .i64 0)), (.val (.bool false)), (.val (.bool false)), (.val (.int .i64 0)), (.val (.bool false)), (.val (.bool false)), (.val (.int .i64 0)), (.val (.bool false)), (.val (.bool false)), (.val (.int .i64 0)), (.val (.bool false)), (.val (.bool false)), (.val (.int .i64 0)), (.val (.bool false)), (.val (.bool false)), (.val (.int .i64 0)), (.val (.bool false)), (.val (.bool false)), (.val (.int .i64 0)), (.val (.bool false)), (.val (.bool false)), (.val (.int .i64 0)), (.val (.bool false)), (.val (.bool false)), (.val (.int .i64 0)), (.val (.bool false)), (.val (.bool false)), (.val (.int .i64 0)), (.val (.bool false)), (.val (.bool false)), (.val (.int .i64 0)), (.val (.bool false)), (.val (.bool false)), (.val (.int .i64 0)), (.val (.bool false)), (.val (.bool false)), (.val (.int .i64 0)), (.val (.bool false)), (.val (.bool false)), (.val (.int .i64 0)), (.val (.bool false)), (.val (.bool false)), (.val (.int .i64 0)), (.val (.bool false)), (.val (.bool false)), (.val (.int .i64 0)), (.val (.bool false)), (.val (.bool false)), (.val (.int .i64 0)), (.val (.bool false)), (.val (.bool false)), (.val (.int .i64 0)), (.val (.bool false)), (.val (.bool false)), (.val (.int .i64 0)), (.val (.bool false)), (.val (.bool false)), (.val (.int .i64 0)), (.val (.bool false)), (.val (.bool false)), (.val (.int .i64 0)), (.val (.bool false)), (.val (.bool false)), (.val (.int .i64 0)), (.val (.bool false)), (.val (.bool false)), (.val (.int .i64 0)), (.val (.bool false)), (.val (.bool false)), (.val (.int .i64 0)), (.val (.bool false)), (.val (.bool false)), (.val (.int .i64 0)), (.val (.bool false)), (.val (.bool false)), (.val (.int .i64 0)), (.val (.bool false)), (.val (.bool false)), (.val (.int .i64 0)), (.val (.bool false)), (.val (.bool false)), (.val (.int .i64 0)), (.val (.bool false)), (.val (.bool false)), (.val (.int .i64 0)), (.val (.bool false)), (.val (.bool false)), (.val (.int .i64 0)), (.val (.bool false)), (.val (.bool false)), (.val (.int .i64 0)), (.val (.bool false)), (.val (.bool false)), (.val (.int .i64 0)), (.val (.bool false)), (.val (.bool false)), (.val (.int .i64 0)), (.val (.bool false)), (.val (.bool false)), (.val (.int .i64 0)), (.val (.bool false)), (.val (.bool false)), (.val (.int .i64 0)), (.val (.bool false)), (.val (.bool false)), (.val (.int .i64 0)), (.val (.bool false)), (.val (.bool false)), (.val (.int .i64 0)), (.val (.bool false)), (.val (.bool false)), (.val (.int .i64 0)), (.val (.bool false)), (.val (.bool false)), (.val (.int .i64 0)), (.val (.bool false)), (.val (.bool false)), (.val (.int .i64 0)), (.val (.bool false)), (.val (.bool false)), (.val (.int .i64 0)), (.val (.bool false)), (.val (.bool false)), (.val (.int .i64 0)), (.val (.bool false)), (.val (.bool false)), (.val (.int .i64 0)), (.val (.bool false)), (.val (.bool false)), (.val (.int .i64 0)), (.val (.bool false)), (.val (.bool false)), (.val (.int .i64 0)), (.val (.bool false)), (.val (.bool false)), (.val (.int .i64 0)), (.val (.bool false)), (.val (.bool false)), (.val (.int .i64 0)), (.val (.bool false)), (.val (.bool false)), (.val (.int .i64 0)), (.val (.bool false)), (.val (.bool false)), (.val (.int .i64 0)), (.val (.bool false)), (.val (.bool false)), (.val (.int .i64 0)), (.val (.bool false)), (.val (.bool false)), (.val (.int .i64 0)), (.val (.bool false)), (.val (.bool false)), (.val (.int .i64 0)), (.val (.bool false)), (.val (.bool false)), (.val (.int .i64 0)), (.val (.bool false)), (.val (.bool false)), (.val (.int .i64 0)), (.val (.bool false)), (.val (.bool false)), (.val (.int .i64 0)), (.val (.bool false)), (.val (.bool false)), (.val (.int .i64 0)), (.val (.bool false)), (.val (.bool false)), (.val (.int .i64 0)), (.val (.bool false)), (.val (.bool false)), (.val (.int .i64 0)), (.val (.bool false)), (.val (.bool false)), (.val (.int .i64 0)), (.val (.bool false)), (.val (.bool false)), (.val (.int .i64 0)), (.val (.bool false)), (.val (.bool false)), (.val (.int .i64 0)), (.val (.bool false)), (.val (.bool false)), (.val (.int .i64 0)), (.val (.bool false)), (.val (.bool false)), (.val (.int .i64 0)), (.val (.bool false)), (.val (.bool false)), (.val (.int .i64 0)), (.val (.bool false)), (.val (.bool false)), (.val (.int .i64 0)), (.val (.bool false)), (.val (.bool false)), (.val (.int .i64 0)), (.val (.bool false)), (.val (.bool false)), (.val (.int .i64 0)), (.val (.bool false)), (.val (.bool false)), (.val (.int .i64 0)), (.val (.bool false)), (.val (.bool false)), (.val (.int .i64 0)), (.val (.bool false)), (.val (.bool false)), (.val (.int .i64 0)), (.val (.bool false)), (.val (.bool false)), (.val (.int .i64 0)), (.val (.bool false)), (.val (.bool false)), (.val (.int .i64 0)), (.val (.bool false)), (.val (.bool false)), (.val (.int .i64 0)), (.val (.bool false)), (.val (.bool false)), (.val (.int .i64 0)), (.val (.bool false)), (.val (.bool false)), (.val (.int .i64 0)), (.val (.bool false)), (.val (.bool false)), (.val (.int .i64 0)), (.val (.bool false)), (.val (.bool false)), (.val (.int .i64 0)), (.val (.bool false)), (.val (.bool false)), (.val (.int .i64 0)), (.val (.bool false)), (.val (.bool false)), (.val (.int .i64 0)), (.val (.bool false)), (.val (.bool false)), (.val (.int .i64 0)), (.val (.bool false)), (.val (.bool false)), (.val (.int .i64 0)), (.val (.bool false)), (.val (.bool false)), (.val (.int .i64 0)), (.val (.bool false)), (.val (.bool false)), (.val (.int .i64 0)), (.val (.bool false)), (.val (.bool false)), (.val (.int .i64 0)), (.val (.bool false)), (.val (.bool false)), (.val (.int .i64 0)), (.val (.bool false)), (.val (.bool false)), (.val (.int .i64 0)), (.val (.bool false)), (.val (.bool false)), (.val (.int .i64 0)), (.val (.bool false)), (.val (.bool false)), (.val (.int .i64 0)), (.val (.bool false)), (.val (.bool false)), (.val (.int .i64 0)), (.val (.bool false)), (.val (.bool false)), (.val (.int .i64 0)), (.val (.bool false)), (.val (.bool false)), (.val (.int .i64 0)), (.val (.bool false)), (.val (.bool false)), (.val (.int .i64 0)), (.val (.bool false)), (.val (.bool false)), (.val (.int .i64 0)), (.val (.bool false)), (.val (.bool false)), (.val (.int .i64 0)), (.val (.bool false)), (.val (.bool false)), (.val (.int .i64 0)), (.val (.bool false)), (.val (.bool false)), (.val (.int .i64 0)), (.val (.bool false)), (.val (.bool false)), (.val (.int .i64 0)), (.val (.bool false)), (.val (.bool false)), (.val (.int .i64 0)), (.val (.bool false)), (.val (.bool false)), (.val (.int .i64 0)), (.val (.bool false)), (.val (.bool false)), (.val (.int .i64 0)), (.val (.bool false)), (.val (.bool false)), (.val (.int .i64 0)), (.val (.bool false)), (.val (.bool false)), (.val (.int .i64 0)), (.val (.bool false)), (.val (.bool false)), (.val (.int .i64 0)), (.val (.bool false)), (.val (.bool false)), (.val (.int .i64 0)), (.val (.bool false)), (.val (.bool false)), (.val (.int .i64 0)), (.val (.bool false)), (.val (.bool false)), (.val (.int .i64 0)), (.val (.bool false)), (.val (.bool false)), (.val (.int .i64 0)), (.val (.bool false)), (.val (.bool false)), (.val (.int .i64 0)), (.val (.bool false)), (.val (.bool false)), (.val (.int .i64 0)), (.val (.bool false)), (.val (.bool false)), (.val (.int .i64 0)), (.val (.bool false)), (.val (.bool false)), (.val (.int .i64 0)), (.val (.bool false)), (.val (.bool false)), (.val (.int .i64 0)), (.val (.bool false)), (.val (.bool false)), (.val (.int .i64 0)), (.val (.bool false)), (.val (.bool false)), (.val (.int .i64 0)), (.val (.bool false)), (.val (.bool false)), (.val (.int .i64 0)), (.val (.bool false)), (.val (.bool false)), (.val (.int .i64 0)), (.val (.bool false)), (.val (.bool false)), (.val (.int .i64 0)), (.val (.bool false)), (.val (.bool false)), (.val (.int .i64 0)), (.val (.bool false)), (.val (.bool false)), (.val (.int .i64 0)), (.val (.bool false)), (.val (.bool false)), (.val (.int .i64 0)), (.val (.bool false)), (.val (.bool false)), (.val (.int .i64 0)), (.val (.bool false)), (.val (.bool false)), (.val (.int .i64 0)), (.val (.bool false)), (.val (.bool false)), (.val (.int .i64 0)), (.val (.bool false)), (.val (.bool false)), (.val (.int .i64 0)), (.val (.bool false)), (.val (.bool false)), (.val (.int .i64 0)), (.val (.bool false)), (.val (.bool false)), (.val (.int .i64 0)), (.val (.bool false)), (.val (.bool false)), (.val (.int .i64 0)), (.val (.bool false)), (.val (.bool false)), (.val (.int .i64 0)), (.val (.bool false)), (.val (.bool false)), (.val (.int .i64 0)), (.val (.bool false)), (.val (.bool false)), (.val (.int .i64 0)), (.val (.bool false)), (.val (.bool false)), (.val (.int .i64 0)), (.val (.bool false)), (.val (.bool false)), (.val (.int .i64 0)), (.val (.bool false)), (.val (.bool false)), (.val (.int .i64 0)), (.val (.bool false)), (.val (.bool false)), (.val (.int .i64 0)), (.val (.bool false)), (.val (.bool false)), (.val (.int .i64 0)), (.val (.bool false)), (.val (.bool false)), (.val (.int .i64 0)), (.val (.bool false)), (.val (.bool false)), (.val (.int .i64 0)), (.val (.bool false)), (.val (.bool false)), (.val (.int .i64 0)), (.val (.bool false)), (.val (.bool false)), (.val (.int .i64 0)), (.val (.bool false)), (.val (.bool false)), (.val (.int .i64 0)), (.val (.bool false)), (.val (.bool false)), (.val (.int .i64 0)), (.val (.bool false)), (.val (.bool false)), (.val (.int .i64 0)), (.val (.bool false)), (.val (.bool false)), (.val (.int .i64 0)), (.val (.bool false)), (.val (.bool false)), (.val (.int .i64 0)), (.val (.bool false)), (.val (.bool false)), (.val (.int .i64 0)), (.val (.bool false)), (.val (.bool false)), (.val (.int .i64 0)), (.val (.bool false)), (.val (.bool false)), (.val (.int .i64 0)), (.val (.bool false)), (.val (.bool false)), (.val (.int .i64 0)), (.val (.bool false)), (.val (.bool false)), (.val (.int .i64 0)), (.val (.bool false)), (.val (.bool false)), (.val (.int .i64 0)), (.val (.bool false)), (.val (.bool false)), (.val (.int .i64 0)), (.val (.bool false)), (.val (.bool false)), (.val (.int .i64 0)), (.val (.bool false)), (.val (.bool false)), (.val (.int .i64 0)), (.val (.bool false)), (.val (.bool false)), (.val (.int .i64 0)), (.val (.bool false)), (.val (.bool false)), (.val (.int .i64 0)), (.val (.bool false)), (.val (.bool false)), (.val (.int .i64 0)), (.val (.bool false)), (.val (.bool false)), (.val (.int .i64 0)), (.val (.bool false)), (.val (.bool false)), (.val (.int .i64 0)), (.val (.bool false)), (.val (.bool false)), (.val (.int .i64 0)), (.val (.bool false)), (.val (.bool false)), (.val (.int .i64 0)), (.val (.bool false)), (.val (.bool false)), (.val (.int .i64 0)), (.val (.bool false)), (.val (.bool false)), (.val (.int .i64 0)), (.val (.bool false)), (.val (.bool false)), (.val (.int .i64 0)), (.val (.bool false)), (.val (.bool false)), (.val (.int .i64 0)), (.val (.bool false)), (.val (.bool false)), (.val (.int .i64 0)), (.val (.bool false)), (.val (.bool false)), (.val (.int .i64 0)), (.val (.bool false)), (.val (.bool false)), (.val (.int .i64 0)), (.val (.bool false)), (.val (.bool false)), (.val (.int .i64 0)), (.val (.bool false)), (.val (.bool false)), (.val (.int .i64 0)), (.val (.bool false)), (.val (.bool false)), (.val (.int .i64 0)), (.val (.bool false)), (.val (.bool false)), (.val (.int .i64 0)), (.val (.bool false)), (.val (.bool false)), (.val (.int .i64 0)), (.val (.bool false)), (.val (.bool false)), (.val (.int .i64 0)), (.val (.bool false)), (.val (.bool false)), (.val (.int .i64 0)), (.val (.bool false)), (.val (.bool false)), (.val (.int .i64 0)), (.val (.bool false)), (.val (.bool false)), (.val (.int .i64 0)), (.val (.bool false)), (.val (.bool false)), (.val (.int .i64 0)), (.val (.bool false)), (.val (.bool false)), (.val (.int .i64 0)), (.val (.bool false)), (.val (.bool false)), (.val (.int .i64 0)), (.val (.bool false)), (.val (.bool false)), (.val (.int .i64 0)), (.val (.bool false)), (.val (.bool false)), (.val (.int .i64 0)), (.val (.bool false)), (.val (.bool false)), (.val (.int .i64 0)), (.val (.bool false)), (.val (.bool false)), (.val (.int .i64 0)), (.val (.bool false)), (.val (.bool false)), (.val (.int .i64 0)), (.val (.bool false)), (.val (.bool false)), (.val (.int .i64 0)), (.val (.bool false)), (.val (.bool false)), (.val (.int .i64 0)), (.val (.bool false)), (.val (.bool false)), (.val (.int .i64 0)), (.val (.bool false)), (.val (.bool false)), (.val (.int .i64 0)), (.val (.bool false)), (.val (.bool false)), (.val (.int .i64 0)), (.val (.bool false)), (.val (.bool false)), (.val (.int .i64 0)), (.val (.bool false)), (.val (.bool false)), (.val (.int .i64 0)), (.val (.bool false)), (.val (.bool false)), (.val (.int .i64 0)), (.val (.bool false)), (.val (.bool false)), (.val (.int .i64 0)), (.val (.bool false)), (.val (.bool false)), (.val (.int .i64 0)), (.val (.bool false)), (.val (.bool false)), (.val (.int .i64 0)), (.val (.bool false)), (.val (.bool false)), (.val (.int .i64 0)), (.val (.bool false)), (.val (.bool false)), (.val (.int .i64 0)), (.val (.bool false)), (.val (.bool false)), (.val (.int .i64 0)), (.val (.bool false)), (.val (.bool false)), (.val (.int .i64 0)), (.val (.bool false)), (.val (.bool false)), (.val (.int .i64 0)), (.val (.bool false)), (.val (.bool false)), (.val (.int .i64 0)), (.val (.bool false)), (.val (.bool false)), (.val (.int .i64 0)), (.val (.bool false)), (.val (.bool false)), (.val (.int .i64 0)), (.val (.bool false)), (.val (.bool false)), (.val (.int .i64 0)), (.val (.bool false)), (.val (.bool false)), (.val (.int .i64 0)), (.val (.bool false)), (.val (.bool false)), (.val (.int .i64 0)), (.val (.bool false)), (.val (.bool false)), (.val (.int .i64 0)), (.val (.bool false)), (.val (.bool false)), (.val (.int .i64 0)), (.val (.bool false)), (.val (.bool false)), (.val (.int .i64 0)), (.val (.bool false)), (.val (.bool false)), (.val (.int .i64 0)), (.val (.bool false)), (.val (.bool false)), (.val (.int .i64 0)), (.val (.bool false)), (.val (.bool false)), (.val (.int .i64 0)), (.val (.bool false)), (.val (.bool false)), (.val (.int .i64 0)), (.val (.bool false)), (.val (.bool false)), (.val (.int .i64 0)), (.val (.bool false)), (.val (.bool false)), (.val (.int .i64 0)), (.val (.bool false)), (.val (.bool false)), (.val (.int .i64 0)), (.val (.bool false)), (.val (.bool false)), (.val (.int .i64 0)), (.val (.bool false)), (.val (.bool false)), (.val (.int .i64 0))] := ⟨by kernel_rfl⟩
instance : AggT Try.prog 43 773 := ⟨by kernel_rfl⟩
instance : FieldT Try.prog 43 0 0 0 := ⟨by kernel_rfl⟩
instance : FieldT Try.prog 43 1 1 770 := ⟨by kernel_rfl⟩
instance : FieldT Try.prog 43 2 772 0 := ⟨by kernel_rfl⟩
instance : StructT Try.prog 43 [(.int .i64 0), (.int .i64 0), (.bool false), (.bool false), (.int .i64 0), (.bool false), (.bool false), (.int .i64 0), (.bool false), (.bool false), (.int .i64 0), (.bool false), (.bool false), (.int .i64 0), (.bool false), (.bool false), (.int .i64 0), (.bool false), (.bool false), (.int .i64 0), (.bool false), (.bool false), (.int .i64 0), (.bool false), (.bool false), (.int .i64 0), (.bool false), (.bool false), (.int .i64 0), (.bool false), (.bool false), (.int .i64 0), (.bool false), (.bool false), (.int .i64 0), (.bool false), (.bool false), (.int .i64 0), (.bool false), (.bool false), (.int .i64 0), (.bool false), (.bool false), (.int .i64 0), (.bool false), (.bool false), (.int .i64 0), (.bool false), (.bool false), (.int .i64 0), (.bool false), (.bool false), (.int .i64 0), (.bool false), (.bool false), (.int .i64 0), (.bool false), (.bool false), (.int .i64 0), (.bool false), (.bool false), (.int .i64 0), (.bool false), (.bool false), (.int .i64 0), (.bool false), (.bool false), (.int .i64 0), (.bool false), (.bool false), (.int .i64 0), (.bool false), (.bool false), (.int .i64 0), (.bool false), (.bool false), (.int .i64 0), (.bool false), (.bool false), (.int .i64 0), (.bool false), (.bool false), (.int .i64 0), (.bool false), (.bool false), (.int .i64 0), (.bool false), (.bool false), (.int .i64 0), (.bool false), (.bool false), (.int .i64 0), (.bool false), (.bool false), (.int .i64 0), (.bool false), (.bool false), (.int .i64 0), (.bool false), (.bool false), (.int .i64 0), (.bool false), (.bool false), (.int .i64 0), (.bool false), (.bool false), (.int .i64 0), (.bool false), (.bool false), (.int .i64 0), (.bool false), (.bool false), (.int .i64 0), (.bool false), (.bool false), (.int .i64 0), (.bool false), (.bool false), (.int .i64 0), (.bool false), (.bool false), (.int .i64 0), (.bool false), (.bool false), (.int .i64 0), (.bool false), (.bool false), (.int .i64 0), (.bool false), (.bool false), (.int .i64 0), (.bool false), (.bool false), (.int .i64 0), (.bool false), (.bool false), (.int .i64 0), (.bool false), (.bool false), (.int .i64 0), (.bool false), (.bool false), (.int .i64 0), (.bool false), (.bool false), (.int .i64 0), (.bool false), (.bool false), (.int .i64 0), (.bool false), (.bool false), (.int .i64 0), (.bool false), (.bool false), (.int .i64 0), (.bool false), (.bool false), (.int .i64 0), (.bool false), (.bool false), (.int .i64 0), (.bool false), (.bool false), (.int .i64 0), (.bool false), (.bool false), (.int .i64 0), (.bool false), (.bool false), (.int .i64 0), (.bool false), (.bool false), (.int .i64 0), (.bool false), (.bool false), (.int .i64 0), (.bool false), (.bool false), (.int .i64 0), (.bool false), (.bool false), (.int .i64 0), (.bool false), (.bool false), (.int .i64 0), (.bool false), (.bool false), (.int .i64 0), (.bool false), (.bool false), (.int .i64 0), (.bool false), (.bool false), (.int .i64 0), (.bool false), (.bool false), (.int .i64 0), (.bool false), (.bool false), (.int .i64 0), (.bool false), (.bool false), (.int .i64 0), (.bool false), (.bool false), (.int .i64 0), (.bool false), (.bool false), (.int .i64 0), (.bool false), (.bool false), (.int .i64 0), (.bool false), (.bool false), (.int .i64 0), (.bool false), (.bool false), (.int .i64 0), (.bool false), (.bool false), (.int .i64 0), (.bool false), (.bool false), (.int .i64 0), (.bool false), (.bool false), (.int .i64 0), (.bool false), (.bool false), (.int .i64 0), (.bool false), (.bool false), (.int .i64 0), (.bool false), (.bool false), (.int .i64 0), (.bool false), (.bool false), (.int .i64 0), (.bool false), (.bool false), (.int .i64 0), (.bool false), (.bool false), (.int .i64 0), (.bool false), (.bool false), (.int .i64 0), (.bool false), (.bool false), (.int .i64 0), (.bool false), (.bool false), (.int .i64 0), (.bool false), (.bool false), (.int .i64 0), (.bool false), (.bool false), (.int .i64 0), (.bool false), (.bool false), (.int .i64 0), (.bool false), (.bool false), (.int .i64 0), (.bool false), (.bool false), (.int .i64 0), (.bool false), (.bool false), (.int .i64 0), (.bool false), (.bool false), (.int .i64 0), (.bool false), (.bool false), (.int .i64 0), (.bool false), (.bool false), (.int .i64 0), (.bool false), (.bool false), (.int .i64 0), (.bool false), (.bool false), (.int .i64 0), (.bool false), (.bool false), (.int .i64 0), (.bool false), (.bool false), (.int .i64 0), (.bool false), (.bool false), (.int .i64 0), (.bool false), (.bool false), (.int .i64 0), (.bool false), (.bool false), (.int .i64 0), (.bool false), (.bool false), (.int .i64 0), (.bool false), (.bool false), (.int .i64 0), (.bool false), (.bool false), (.int .i64 0), (.bool false), (.bool false), (.int .i64 0), (.bool false), (.bool false), (.int .i64 0), (.bool false), (.bool false), (.int .i64 0), (.bool false), (.bool false), (.int .i64 0), (.bool false), (.bool false), (.int .i64 0), (.bool false), (.bool false), (.int .i64 0), (.bool false), (.bool false), (.int .i64 0), (.bool false), (.bool false), (.int .i64 0), (.bool false), (.bool false), (.int .i64 0), (.bool false), (.bool false), (.int .i64 0), (.bool false), (.bool false), (.int .i64 0), (.bool false), (.bool false), (.int .i64 0), (.bool false), (.bool false), (.int .i64 0), (.bool false), (.bool false), (.int .i64 0), (.bool false), (.bool false), (.int .i64 0), (.bool false), (.bool false), (.int .i64 0), (.bool false), (.bool false), (.int .i64 0), (.bool false), (.bool false), (.int .i64 0), (.bool false), (.bool false), (.int .i64 0), (.bool false), (.bool false), (.int .i64 0), (.bool false), (.bool false), (.int .i64 0), (.bool false), (.bool false), (.int .i64 0), (.bool false), (.bool false), (.int .i64 0), (.bool false), (.bool false), (.int .i64 0), (.bool false), (.bool false), (.int .i64 0), (.bool false), (.bool false), (.int .i64 0), (.bool false), (.bool false), (.int .i64 0), (.bool false), (.bool false), (.int .i64 0), (.bool false), (.bool false), (.int .i64 0), (.bool false), (.bool false), (.int .i64 0), (.bool false), (.bool false), (.int .i64 0), (.bool false), (.bool false), (.int .i64 0), (.bool false), (.bool false), (.int .i64 0), (.bool false), (.bool false), (.int .i64 0), (.bool false), (.bool false), (.int .i64 0), (.bool false), (.bool false), (.int .i64 0), (.bool false), (.bool false), (.int .i64 0), (.bool false), (.bool false), (.int .i64 0), (.bool false), (.bool false), (.int .i64 0), (.bool false), (.bool false), (.int .i64 0), (.bool false), (.bool false), (.int .i64 0), (.bool false), (.bool false), (.int .i64 0), (.bool false), (.bool false), (.int .i64 0), (.bool false), (.bool false), (.int .i64 0), (.bool false), (.bool false), (.int .i64 0), (.bool false), (.bool false), (.int .i64 0), (.bool false), (.bool false), (.int .i64 0), (.bool false), (.bool false), (.int .i64 0), (.bool false), (.bool false), (.int .i64 0), (.bool false), (.bool false), (.int .i64 0), (.bool false), (.bool false), (.int .i64 0), (.bool false), (.bool false), (.int .i64 0), (.bool false), (.bool false), (.int .i64 0), (.bool false), (.bool false), (.int .i64 0), (.bool false), (.bool false), (.int .i64 0), (.bool false), (.bool false), (.int .i64 0), (.bool false), (.bool false), (.int .i64 0), (.bool false), (.bool false), (.int .i64 0), (.bool false), (.bool false), (.int .i64 0), (.bool false), (.bool false), (.int .i64 0), (.bool false), (.bool false), (.int .i64 0), (.bool false), (.bool false), (.int .i64 0), (.bool false), (.bool false), (.int .i64 0), (.bool false), (.bool false), (.int .i64 0), (.bool false), (.bool false), (.int .i64 0), (.bool false), (.bool false), (.int .i64 0), (.bool false), (.bool false), (.int .i64 0), (.bool false), (.bool false), (.int .i64 0), (.bool false), (.bool false), (.int .i64 0), (.bool false), (.bool false), (.int .i64 0), (.bool false), (.bool false), (.int .i64 0), (.bool false), (.bool false), (.int .i64 0), (.bool false), (.bool false), (.int .i64 0), (.bool false), (.bool false), (.int .i64 0), (.bool false), (.bool false), (.int .i64 0), (.bool false), (.bool false), (.int .i64 0), (.bool false), (.bool false), (.int .i64 0), (.bool false), (.bool false), (.int .i64 0), (.bool false), (.bool false), (.int .i64 0), (.bool false), (.bool false), (.int .i64 0), (.bool false), (.bool false), (.int .i64 0), (.bool false), (.bool false), (.int .i64 0), (.bool false), (.bool false), (.int .i64 0), (.bool false), (.bool false), (.int .i64 0), (.bool false), (.bool false), (.int .i64 0), (.bool false), (.bool false), (.int .i64 0), (.bool false), (.bool false), (.int .i64 0), (.bool false), (.bool false), (.int .i64 0), (.bool false), (.bool false), (.int .i64 0), (.bool false), (.bool false), (.int .i64 0), (.bool false), (.bool false), (.int .i64 0), (.bool false), (.bool false), (.int .i64 0), (.bool false), (.bool false), (.int .i64 0), (.bool false), (.bool false), (.int .i64 0), (.bool false), (.bool false), (.int .i64 0), (.bool false), (.bool false), (.int .i64 0), (.bool false), (.bool false), (.int .i64 0), (.bool false), (.bool false), (.int .i64 0), (.bool false), (.bool false), (.int .i64 0), (.bool false), (.bool false), (.int .i64 0), (.bool false), (.bool false), (.int .i64 0), (.bool false), (.bool false), (.int .i64 0), (.bool false), (.bool false), (.int .i64 0), (.bool false), (.bool false), (.int .i64 0), (.bool false), (.bool false), (.int .i64 0), (.bool false), (.bool false), (.int .i64 0), (.bool false), (.bool false), (.int .i64 0), (.bool false), (.bool false), (.int .i64 0), (.bool false), (.bool false), (.int .i64 0), (.bool false), (.bool false), (.int .i64 0), (.bool false), (.bool false), (.int .i64 0), (.bool false), (.bool false), (.int .i64 0), (.bool false), (.bool false), (.int .i64 0), (.bool false), (.bool false), (.int .i64 0), (.bool false), (.bool false), (.int .i64 0), (.bool false), (.bool false), (.int .i64 0), (.bool false), (.bool false), (.int .i64 0), (.bool false), (.bool false), (.int .i64 0), (.bool false), (.bool false), (.int .i64 0), (.bool false), (.bool false), (.int .i64 0), (.bool false), (.bool false), (.int .i64 0), (.bool false), (.bool false), (.int .i64 0), (.bool false), (.bool false), (.int .i64 0), (.bool false), (.bool false), (.int .i64 0), (.bool false), (.bool false), (.int .i64 0), (.bool false), (.bool false), (.int .i64 0), (.bool false), (.bool false), (.int .i64 0), (.bool false), (.bool false), (.int .i64 0), (.bool false), (.bool false), (.int .i64 0), (.bool false), (.bool false), (.int .i64 0), (.bool false), (.bool false), (.int .i64 0), (.bool false), (.bool false), (.int .i64 0), (.bool false), (.bool false), (.int .i64 0), (.bool false), (.bool false), (.int .i64 0), (.bool false), (.bool false), (.int .i64 0), (.bool false), (.bool false), (.int .i64 0), (.bool false), (.bool false), (.int .i64 0), (.bool false), (.bool false), (.int .i64 0), (.bool false), (.bool false), (.int .i64 0), (.bool false), (.bool false), (.int .i64 0), (.bool false), (.bool false), (.int .i64 0), (.bool false), (.bool false), (.int .i64 0), (.bool false), (.bool false), (.int .i64 0), (.bool false), (.bool false), (.int .i64 0), (.bool false), (.bool false), (.int .i64 0), (.bool false), (.bool false), (.int .i64 0), (.bool false), (.bool false), (.int .i64 0), (.bool false), (.bool false), (.int .i64 0), (.bool false), (.bool false), (.int .i64 0), (.bool false), (.bool false), (.int .i64 0), (.bool false), (.bool false), (.int .i64 0), (.bool false), (.bool false), (.int .i64 0), (.bool false), (.bool false), (.int .i64 0), (.bool false), (.bool false), (.int .i64 0)] [(0, 1), (1, 771), (772, 1)] := ⟨by kernel_rfl⟩
instance : ZeroT Try.prog 44 [(.val (.nilFunc))] := ⟨by kernel_rfl⟩
instance : OneT Try.prog 44 := ⟨by kernel_rfl⟩
instance : ZeroT Try.prog 45 [(.val (.slice none 0 0))] := ⟨by kernel_rfl⟩
instance : OneT Try.prog 45 := ⟨by kernel_rfl⟩
instance : SliceT Try.prog 45 1 := ⟨by kernel_rfl⟩
instance : ZeroT Try.prog 46 [(.val (.int .i64 0)), (.val (.int .i64 0)), (.val (.int .u64 0))] := ⟨by kernel_rfl⟩
instance : AggT Try.prog 46 3 := ⟨by kernel_rfl⟩
instance : FieldT Try.prog 46 0 0 0 := ⟨by kernel_rfl⟩
instance : FieldT Try.prog 46 1 1 0 := ⟨by kernel_rfl⟩
instance : FieldT Try.prog 46 2 2 0 := ⟨by kernel_rfl⟩
instance : StructT Try.prog 46 [(.int .i64 0), (.int .i64 0), (.int .u64 0)] [(0, 1), (1, 1), (2, 1)] := ⟨by kernel_rfl⟩
instance : ZeroT Try.prog 47 [(.val (.int .i64 0)), (.val (.int .i64 0)), (.val (.int .u64 0))] := ⟨by kernel_rfl⟩
instance : AggT Try.prog 47 3 := ⟨by kernel_rfl⟩
instance : FieldT Try.prog 47 0 0 0 := ⟨by kernel_rfl⟩
instance : FieldT Try.prog 47 1 1 0 := ⟨by kernel_rfl⟩
instance : FieldT Try.prog 47 2 2 0 := ⟨by kernel_rfl⟩
instance : StructT Try.prog 47 [(.int .i64 0), (.int .i64 0), (.int .u64 0)] [(0, 1), (1, 1), (2, 1)] := ⟨by kernel_rfl⟩
instance : ZeroT Try.prog 48 [(.val (.int .u64 0))] := ⟨by kernel_rfl⟩
instance : OneT Try.prog 48 := ⟨by kernel_rfl⟩
instance : IntT Try.prog 48 .u64 := ⟨by kernel_rfl⟩
instance : ZeroT Try.prog 50 [(.val (.nilFunc))] := ⟨by kernel_rfl⟩
instance : OneT Try.prog 50 := ⟨by kernel_rfl⟩
instance : ZeroT Try.prog 52 [(.val (.nilFunc))] := ⟨by kernel_rfl⟩
instance : OneT Try.prog 52 := ⟨by kernel_rfl⟩
instance : ZeroT Try.prog 53 [(.val (.nilFunc))] := ⟨by kernel_rfl⟩
instance : OneT Try.prog 53 := ⟨by kernel_rfl⟩
instance : ZeroT Try.prog 54 [(.val (.nilFunc))] := ⟨by kernel_rfl⟩
instance : OneT Try.prog 54 := ⟨by kernel_rfl⟩
instance : ZeroT Try.prog 55 [(.val (.nilFunc))] := ⟨by kernel_rfl⟩
instance : OneT Try.prog 55 := ⟨by kernel_rfl⟩
instance : ZeroT Try.prog 56 [(.val (.nilFunc))] := ⟨by kernel_rfl⟩
instance : OneT Try.prog 56 := ⟨by kernel_rfl⟩
instance : ZeroT Try.prog 57 [(.val (.nilFunc))] := ⟨by kernel_rfl⟩
instance : OneT Try.prog 57 := ⟨by kernel_rfl⟩
instance : ZeroT Try.prog 58 [(.val (.nilFunc))] := ⟨by kernel_rfl⟩
instance : OneT Try.prog 58 := ⟨by kernel_rfl⟩
instance : ZeroT Try.prog 59 [(.val (.nilFunc))] := ⟨by kernel_rfl⟩
instance : OneT Try.prog 59 := ⟨by kernel_rfl⟩
instance : ZeroT Try.prog 60 [(.val (.nilFunc))] := ⟨by kernel_rfl⟩
instance : OneT Try.prog 60 := ⟨by kernel_rfl⟩
instance : ZeroT Try.prog 61 [(.val (.slice none 0 0))] := ⟨by kernel_rfl⟩
instance : OneT Try.prog 61 := ⟨by kernel_rfl⟩
instance : SliceT Try.prog 61 1 := ⟨by kernel_rfl⟩
instance : ZeroT Try.prog 62 [(.val (.map none))] := ⟨by kernel_rfl⟩
instance : OneT Try.prog 62 := ⟨by kernel_rfl⟩
instance : ZeroT Try.prog 63 [(.val (.nilFunc))] := ⟨by kernel_rfl⟩
instance : OneT Try.prog 63 := ⟨by kernel_rfl⟩
instance : ZeroT Try.prog 64 [(.val (.int .i64 0)), (.val (.int .i64 0)), (.val (.int .i64 0)), (.val (.int .i64 0)), (.val (.int .i64 0)), (.val (.int .i64 0)), (.val (.int .i64 0)), (.val (.int .i64 0)), (.val (.int .i64 0)), (.val (.int .i64 0))] := ⟨by kernel_rfl⟩
instance : AggT Try.prog 64 10 := ⟨by kernel_rfl⟩
instance : ArrT Try.prog 64 10 1 := ⟨by kernel_rfl⟩
instance : ZeroT Try.prog 65 [(.val (.slice none 0 0))] := ⟨by kernel_rfl⟩
instance : OneT Try.prog 65 := ⟨by kernel_rfl⟩
instance : SliceT Try.prog 65 2 := ⟨by kernel_rfl⟩
instance : ZeroT Try.prog 66 [(.val (.slice none 0 0))] := ⟨by kernel_rfl⟩
instance : OneT Try.prog 66 := ⟨by kernel_rfl⟩
instance : SliceT Try.prog 66 1 := ⟨by kernel_rfl⟩
instance : ZeroT Try.prog 67 [(.val (.int .i64 0)), (.val (.slice none 0 0)), (.val (.slice none 0 0))] := ⟨by kernel_rfl⟩
instance : AggT Try.prog 67 3 := ⟨by kernel_rfl⟩
instance : FieldT Try.prog 67 0 0 0 := ⟨by kernel_rfl⟩
instance : FieldT Try.prog 67 1 1 0 := ⟨by kernel_rfl⟩
instance : FieldT Try.prog 67 2 2 0 := ⟨by kernel_rfl⟩
instance : StructT Try.prog 67 [(.int .i64 0), (.slice none 0 0), (.slice none 0 0)] [(0, 1), (1, 1), (2, 1)] := ⟨by kernel_rfl⟩
instance : ZeroT Try.prog 68 [(.val (.int .i64 0)), (.val (.slice none 0 0)), (.val (.slice none 0 0))] := ⟨by kernel_rfl⟩
instance : AggT Try.prog 68 3 := ⟨by kernel_rfl⟩
instance : FieldT Try.prog 68 0 0 0 := ⟨by kernel_rfl⟩
instance : FieldT Try.prog 68 1 1 0 := ⟨by kernel_rfl⟩
instance : FieldT Try.prog 68 2 2 0 := ⟨by kernel_rfl⟩
instance : StructT Try.prog 68 [(.int .i64 0), (.slice none 0 0), (.slice none 0 0)] [(0, 1), (1, 1), (2, 1)] := ⟨by kernel_rfl⟩
instance : ZeroT Try.prog 69 [(.val (.int .i64 0)), (.val (.bool false))] := ⟨by kernel_rfl⟩
instance : AggT Try.prog 69 2 := ⟨by kernel_rfl⟩
instance : FieldT Try.prog 69 0 0 0 := ⟨by kernel_rfl⟩
instance : FieldT Try.prog 69 1 1 0 := ⟨by kernel_rfl⟩
instance : StructT Try.prog 69 [(.int .i64 0), (.bool false)] [(0, 1), (1, 1)] := ⟨by kernel_rfl⟩
instance : ZeroT Try.prog 70 [(.val (.int .i64 0)), (.val (.bool false))] := ⟨by kernel_rfl⟩
instance : AggT Try.prog 70 2 := ⟨by kernel_rfl⟩
instance : FieldT Try.prog 70 0 0 0 := ⟨by kernel_rfl⟩
instance : FieldT Try.prog 70 1 1 0 := ⟨by kernel_rfl⟩
instance : StructT Try.prog 70 [(.int .i64 0), (.bool false)] [(0, 1), (1, 1)] := ⟨by kernel_rfl⟩
instance : ZeroT Try.prog 71 [(.val (.nilFunc))] := ⟨by kernel_rfl⟩
instance : OneT Try.prog 71 := ⟨by kernel_rfl⟩
instance : ZeroT Try.prog 72 [(.val (.pointer none))] := ⟨by kernel_rfl⟩
instance : OneT Try.prog 72 := ⟨by kernel_rfl⟩
instance : ZeroT Try.prog 73 [(.val (.nilFunc))] := ⟨by kernel_rfl⟩
instance : OneT Try.prog 73 := ⟨by kernel_rfl⟩
instance : ZeroT Try.prog 74 [(.val (.nilFunc))] := ⟨by kernel_rfl⟩
instance : OneT Try.prog 74 := ⟨by kernel_rfl⟩
instance : ZeroT Try.prog 75 [(.val (.nilFunc))] := ⟨by kernel_rfl⟩
instance : OneT Try.prog 75 := ⟨by kernel_rfl⟩
instance : ZeroT Try.prog 76 [(.val (.nilFunc))] := ⟨by kernel_rfl⟩
instance : OneT Try.prog 76 := ⟨by kernel_rfl⟩
instance : ZeroT Try.prog 77 [(.val (.nilFunc))] := ⟨by kernel_rfl⟩
instance : OneT Try.prog 77 := ⟨by kernel_rfl⟩
instance : ZeroT Try.prog 78 [(.val (.nilIface))] := ⟨by kernel_rfl⟩
instance : OneT Try.prog 78 := ⟨by kernel_rfl⟩
instance : ZeroT Try.prog 79 [(.val (.nilIface))] := ⟨by kernel_rfl⟩
instance : OneT Try.prog 79 := ⟨by kernel_rfl⟩
instance : ZeroT Try.prog 80 [(.val (.nilFunc))] := ⟨by kernel_rfl⟩
instance : OneT Try.prog 80 := ⟨by kernel_rfl⟩
instance : ZeroT Try.prog 81 [(.val (.nilFunc))] := ⟨by kernel_rfl⟩
instance : OneT Try.prog 81 := ⟨by kernel_rfl⟩
instance : ZeroT Try.prog 82 [(.val (.nilFunc))] := ⟨by kernel_rfl⟩
instance : OneT Try.prog 82 := ⟨by kernel_rfl⟩
instance : ZeroT Try.prog 83 [(.val (.nilFunc))] := ⟨by kernel_rfl⟩
instance : OneT Try.prog 83 := ⟨by kernel_rfl⟩
instance : ZeroT Try.prog 84 [(.val (.nilFunc))] := ⟨by kernel_rfl⟩
instance : OneT Try.prog 84 := ⟨by kernel_rfl⟩
instance : ZeroT Try.prog 85 [(.val (.nilFunc))] := ⟨by kernel_rfl⟩
instance : OneT Try.prog 85 := ⟨by kernel_rfl⟩
instance : ZeroT Try.prog 86 [(.val (.nilFunc))] := ⟨by kernel_rfl⟩
instance : OneT Try.prog 86 := ⟨by kernel_rfl⟩
instance : ZeroT Try.prog 87 [(.val (.pointer none)), (.val (.pointer none)), (.val (.pointer none)), (.val (.string ⟨#[]⟩))] := ⟨by kernel_rfl⟩
instance : AggT Try.prog 87 4 := ⟨by kernel_rfl⟩
instance : FieldT Try.prog 87 0 0 0 := ⟨by kernel_rfl⟩
instance : FieldT Try.prog 87 1 1 0 := ⟨by kernel_rfl⟩
instance : FieldT Try.prog 87 2 2 0 := ⟨by kernel_rfl⟩
instance : FieldT Try.prog 87 3 3 0 := ⟨by kernel_rfl⟩
instance : StructT Try.prog 87 [(.pointer none), (.pointer none), (.pointer none), (.string ⟨#[]⟩)] [(0, 1), (1, 1), (2, 1), (3, 1)] := ⟨by kernel_rfl⟩
instance : ZeroT Try.prog 88 [(.val (.pointer none)), (.val (.pointer none)), (.val (.pointer none)), (.val (.string ⟨#[]⟩))] := ⟨by kernel_rfl⟩
instance : AggT Try.prog 88 4 := ⟨by kernel_rfl⟩
instance : FieldT Try.prog 88 0 0 0 := ⟨by kernel_rfl⟩
instance : FieldT Try.prog 88 1 1 0 := ⟨by kernel_rfl⟩
instance : FieldT Try.prog 88 2 2 0 := ⟨by kernel_rfl⟩
instance : FieldT Try.prog 88 3 3 0 := ⟨by kernel_rfl⟩
instance : StructT Try.prog 88 [(.pointer none), (.pointer none), (.pointer none), (.string ⟨#[]⟩)] [(0, 1), (1, 1), (2, 1), (3, 1)] := ⟨by kernel_rfl⟩
instance : ZeroT Try.prog 89 [] := ⟨by kernel_rfl⟩
instance : AggT Try.prog 89 0 := ⟨by kernel_rfl⟩
instance : ArrT Try.prog 89 0 1 := ⟨by kernel_rfl⟩
instance : ZeroT Try.prog 90 [] := ⟨by kernel_rfl⟩
instance : AggT Try.prog 90 0 := ⟨by kernel_rfl⟩
instance : StructT Try.prog 90 [] [(0, 0)] := ⟨by kernel_rfl⟩
instance : ZeroT Try.prog 91 [] := ⟨by kernel_rfl⟩
instance : AggT Try.prog 91 0 := ⟨by kernel_rfl⟩
instance : StructT Try.prog 91 [] [(0, 0)] := ⟨by kernel_rfl⟩
instance : ZeroT Try.prog 92 [(.val (.int .u32 0))] := ⟨by kernel_rfl⟩
instance : OneT Try.prog 92 := ⟨by kernel_rfl⟩
instance : IntT Try.prog 92 .u32 := ⟨by kernel_rfl⟩
instance : ZeroT Try.prog 93 [(.val (.int .u8 0))] := ⟨by kernel_rfl⟩
instance : OneT Try.prog 93 := ⟨by kernel_rfl⟩
instance : IntT Try.prog 93 .u8 := ⟨by kernel_rfl⟩
instance : ZeroT Try.prog 94 [(.val (.int .u8 0))] := ⟨by kernel_rfl⟩
instance : OneT Try.prog 94 := ⟨by kernel_rfl⟩
instance : IntT Try.prog 94 .u8 := ⟨by kernel_rfl⟩
instance : ZeroT Try.prog 95 [(.val (.nilFunc))] := ⟨by kernel_rfl⟩
instance : OneT Try.prog 95 := ⟨by kernel_rfl⟩
instance : ZeroT Try.prog 96 [(.val (.pointer none))] := ⟨by kernel_rfl⟩
instance : OneT Try.prog 96 := ⟨by kernel_rfl⟩
instance : ZeroT Try.prog 97 [(.val (.int .i32 0))] := ⟨by kernel_rfl⟩
instance : OneT Try.prog 97 := ⟨by kernel_rfl⟩
instance : IntT Try.prog 97 .i32 := ⟨by kernel_rfl⟩
instance : ZeroT Try.prog 98 [(.val (.int .i32 0))] := ⟨by kernel_rfl⟩
instance : OneT Try.prog 98 := ⟨by kernel_rfl⟩
instance : IntT Try.prog 98 .i32 := ⟨by kernel_rfl⟩
instance : ZeroT Try.prog 99 [(.val (.int .u64 0)), (.val (.int .u64 0)), (.val (.int .u32 0)), (.val (.int .u8 0)), (.val (.int .u8 0)), (.val (.int .u8 0)), (.val (.int .u8 0)), (.val (.nilFunc)), (.val (.pointer none)), (.val (.int .i32 0)), (.val (.int .i32 0))] := ⟨by kernel_rfl⟩
instance : AggT Try.prog 99 11 := ⟨by kernel_rfl⟩
instance : FieldT Try.prog 99 0 0 0 := ⟨by kernel_rfl⟩
instance : FieldT Try.prog 99 1 1 0 := ⟨by kernel_rfl⟩
instance : FieldT Try.prog 99 2 2 0 := ⟨by kernel_rfl⟩
instance : FieldT Try.prog 99 3 3 0 := ⟨by kernel_rfl⟩
instance : FieldT Try.prog 99 4 4 0 := ⟨by kernel_rfl⟩
instance : FieldT Try.prog 99 5 5 0 := ⟨by kernel_rfl⟩
instance : FieldT Try.prog 99 6 6 0 := ⟨by kernel_rfl⟩
instance : FieldT Try.prog 99 7 7 0 := ⟨by kernel_rfl⟩
instance : FieldT Try.prog 99 8 8 0 := ⟨by kernel_rfl⟩
instance : FieldT Try.prog 99 9 9 0 := ⟨by kernel_rfl⟩
instance : FieldT Try.prog 99 10 10 0 := ⟨by kernel_rfl⟩
instance : StructT Try.prog 99 [(.int .u64 0), (.int .u64 0), (.int .u32 0), (.int .u8 0), (.int .u8 0), (.int .u8 0), (.int .u8 0), (.nilFunc), (.pointer none), (.int .i32 0), (.int .i32 0)] [(0, 1), (1, 1), (2, 1), (3, 1), (4, 1), (5, 1), (6, 1), (7, 1), (8, 1), (9, 1), (10, 1)] := ⟨by kernel_rfl⟩
instance : ZeroT Try.prog 100 [(.val (.int .u64 0)), (.val (.int .u64 0)), (.val (.int .u32 0)), (.val (.int .u8 0)), (.val (.int .u8 0)), (.val (.int .u8 0)), (.val (.int .u8 0)), (.val (.nilFunc)), (.val (.pointer none)), (.val (.int .i32 0)), (.val (.int .i32 0))] := ⟨by kernel_rfl⟩
instance : AggT Try.prog 100 11 := ⟨by kernel_rfl⟩
instance : FieldT Try.prog 100 0 0 0 := ⟨by kernel_rfl⟩
instance : FieldT Try.prog 100 1 1 0 := ⟨by kernel_rfl⟩
instance : FieldT Try.prog 100 2 2 0 := ⟨by kernel_rfl⟩
instance : FieldT Try.prog 100 3 3 0 := ⟨by kernel_rfl⟩
instance : FieldT Try.prog 100 4 4 0 := ⟨by kernel_rfl⟩
instance : FieldT Try.prog 100 5 5 0 := ⟨by kernel_rfl⟩
instance : FieldT Try.prog 100 6 6 0 := ⟨by kernel_rfl⟩
instance : FieldT Try.prog 100 7 7 0 := ⟨by kernel_rfl⟩
instance : FieldT Try.prog 100 8 8 0 := ⟨by kernel_rfl⟩
instance : FieldT Try.prog 100 9 9 0 := ⟨by kernel_rfl⟩
instance : FieldT Try.prog 100 10 10 0 := ⟨by kernel_rfl⟩
instance : StructT Try.prog 100 [(.int .u64 0), (.int .u64 0), (.int .u32 0), (.int .u8 0), (.int .u8 0), (.int .u8 0), (.int .u8 0), (.nilFunc), (.pointer none), (.int .i32 0), (.int .i32 0)] [(0, 1), (1, 1), (2, 1), (3, 1), (4, 1), (5, 1), (6, 1), (7, 1), (8, 1), (9, 1), (10, 1)] := ⟨by kernel_rfl⟩
end Go.Proofs.Ytkdbkgfdggbhkaa
end
section
namespace Go.Lg
open Go Go.RowKit
end Go.Lg
namespace Go.Proofs.Ytkdbkgfdggbhkaa
open Go Go.Lg
abbrev Lb (b : Bool) : LV := .sv (.one (.val (.bool b)))
abbrev Ln (k : IntKind) (n : Int) : LV := .sv (.one (.val (.int k n)))
abbrev Ls (l : List UInt8) : LV := .sv (.one (.val (.string ⟨l.toArray⟩)))
abbrev Sb (b : Bool) : SV := .one (.val (.bool b))
abbrev Sn (k : IntKind) (n : Int) : SV := .one (.val (.int k n))
abbrev Lp (k : Nat) : LV := .sv (.one (.ptr k 0))
abbrev vs (l : List UInt8) : CV := .val (.string ⟨l.toArray⟩)
end Go.Proofs.Ytkdbkgfdggbhkaa
end
section
namespace Go.Proofs.Ytkdbkgfdggbhkaa
open Go Go.Lg
set_option maxRecDepth 100000
theorem ids_Len_m : methOf Try.prog 72 "Len" = some (0, some (33, false)) := by kernel_rfl
theorem ids_Less_m : methOf Try.prog 72 "Less" = some (0, some (55, false)) := by kernel_rfl
theorem ids_Swap_m : methOf Try.prog 72 "Swap" = some (0, some (56, false)) := by kernel_rfl
theorem ids_Push_m : methOf Try.prog 72 "Push" = some (0, some (58, true)) := by kernel_rfl
theorem ids_Pop_m : methOf Try.prog 72 "Pop" = some (0, some (57, true)) := by kernel_rfl
def ilt (a b : Int) : Bool := decide (a < b)
theorem ilt_ord : OrdL ilt := ⟨fun a b h => by have := of_decide_eq_true h; exact decide_eq_false (by omega), fun a b c h1 h2 => by have := of_decide_eq_false h1; have := of_decide_eq_false h2; exact decide_eq_false (by omega)⟩
def idL (v : Nat → Int) (m : Nat) : List Value := (listV v m).map (Value.int .i64)
theorem idL_len (v : Nat → Int) (m : Nat) : (idL v m).length = m := by unfold idL; rw [List.length_map, listV_len]
theorem idL_at (v : Nat → Int) {m i : Nat} (h : i < m) : ((idL v m).map CV.val)[i]? = some (.val (.int .i64 (v i))) := by unfold idL; rw [List.getElem?_map, List.getElem?_map, listV_at v h]; rfl
def setV (v : Nat → Int) (i : Nat) (x : Int) : Nat → Int := fun k => if k = i then x else v k
theorem setV_two (v : Nat → Int) (i j : Nat) : setV (setV v i (v j)) j (v i) = swapV v i j := by
  funext k
  unfold setV swapV
  by_cases h1 : k = j
  · rw [if_pos h1]
    by_cases h2 : k = i
    · rw [if_pos h2, ← h1, h2]
    · rw [if_neg h2, if_pos h1]
  · rw [if_neg h1, if_neg h1]
theorem idL_splice (v : Nat → Int) {m i : Nat} (h : i < m) (x : Int) : splice ((idL v m).map CV.val) i [.val (.int .i64 x)] = (idL (setV v i x) m).map .val := by
  apply List.ext_getElem?
  intro k
  have hl : (splice ((idL v m).map CV.val) i [.val (.int .i64 x)]).length = m := by
    unfold splice
    simp only [List.length_append, List.length_take, List.length_map, List.length_drop, idL_len, List.length_singleton]
    omega
  by_cases hk : k < m
  · rw [idL_at _ hk]
    unfold splice setV
    have hlen : ((idL v m).map CV.val).length = m := by rw [List.length_map, idL_len]
    by_cases h1 : k = i
    · subst h1
      rw [if_pos rfl, List.append_assoc, List.getElem?_append_right (by rw [List.length_take, hlen]; omega), List.length_take, hlen, show k - min k m = 0 by omega]
      rfl
    · rw [if_neg h1]
      by_cases h2 : k < i
      · rw [List.append_assoc, List.getElem?_append_left (by rw [List.length_take, hlen]; omega), List.getElem?_take, if_pos h2, idL_at v hk]
      · rw [List.getElem?_append_right (by rw [List.length_append, List.length_take, hlen, List.length_singleton]; omega), List.getElem?_drop, List.length_append, List.length_take, hlen, List.length_singleton, show i + 1 + (k - (min i m + 1)) = k by omega, idL_at v hk]
  · rw [List.getElem?_eq_none (by rw [hl]; omega), List.getElem?_eq_none (by rw [List.length_map, idL_len]; omega)]
abbrev hpB (k : Nat) (v : Nat → Int) (m : Nat) : Nat × Option Box := (k, some ⟨3, (idL v m).map .val, true⟩)
variable (X : Nat → Option Obj)
theorem iLen (v : Nat → Int) (m : Nat) : MSpec Try.prog X 33 [.sv (.one (.slc 1000001 0 m 1))] [hpB 1000001 v m] (Ln .i64 (m : Nat)) [hpB 1000001 v m] := by
  refine MSpec.intro Try.func33 rfl (by kernel_rfl) rfl rfl (by exact (by repeat' (first | refine all_cons_true ?_ ?_ | rfl | exact bytes_inUse | exact vals_inUse | exact mid_inUse rfl))) rfl rfl ?_
  intro C
  (refine LWP.seq <| LWP.region (by kernel_rfl) <| kas rfl <| RunK.nil <| LWP.seq <| LWP.region (by kernel_rfl) <| kmv rfl <| K.lenSlc rfl SliceT.h rfl .plain ?_; refine kas rfl <| RunK.nil <| LWP.ret ?_)
  exact ⟨[], ⟨[_], ⟨rfl, trivial⟩, rfl⟩, (by repeat' (first | exact trivial | refine And.intro ⟨_, rfl, ?_⟩ ?_ | refine And.intro ⟨_, rfl⟩ ?_ | rfl | exact Box.ren_bytes _ _ _ _ | exact Box.ren_vals _ _ _ _ | exact Box.ren_mid rfl)), rfl, rfl⟩
theorem iLess (v : Nat → Int) (m i j : Nat) (hi : i < m) (hj : j < m) : MSpec Try.prog X 55 [.sv (.one (.slc 1000001 0 m 1)), Ln .i64 (i : Nat), Ln .i64 (j : Nat)] [hpB 1000001 v m] (Lb (ilt (v i) (v j))) [hpB 1000001 v m] := by
  have h1 : 0 + Int.toNat (i : Int) * 1 = i := by simp
  have h2 : 0 + Int.toNat (j : Int) * 1 = j := by simp
  refine MSpec.intro Try.func55 rfl (by kernel_rfl) rfl rfl (by exact (by repeat' (first | refine all_cons_true ?_ ?_ | rfl | exact bytes_inUse | exact vals_inUse | exact mid_inUse rfl))) rfl rfl ?_
  intro C
  (refine LWP.seq <| LWP.region (by kernel_rfl) <| kas rfl <| RunK.nil <| LWP.seq <| LWP.draws mixed (by kernel_rfl) <| kmv rfl <| kmv rfl <| K.indexSlc rfl rfl (by omega) h1 .plain ?_; refine kl1 rfl rfl (idL_at v hi) <| kmv rfl <| kmv rfl <| K.indexSlc rfl rfl (by omega) h2 .plain ?_; refine kl1 rfl rfl (idL_at v hj) <| klt rfl rfl rfl <| kas rfl <| RunK.nil <| And.intro (by kernel_rfl) ?_; refine LWP.ret ?_)
  exact ⟨[], ⟨[_], ⟨rfl, trivial⟩, rfl⟩, (by repeat' (first | exact trivial | refine And.intro ⟨_, rfl, ?_⟩ ?_ | refine And.intro ⟨_, rfl⟩ ?_ | rfl | exact Box.ren_bytes _ _ _ _ | exact Box.ren_vals _ _ _ _ | exact Box.ren_mid rfl)), rfl, rfl⟩
theorem iSwap (v : Nat → Int) (m i j : Nat) (hi : i < m) (hj : j < m) : MSpec Try.prog X 56 [.sv (.one (.slc 1000001 0 m 1)), Ln .i64 (i : Nat), Ln .i64 (j : Nat)] [hpB 1000001 v m] (.tup []) [hpB 1000001 (swapV v i j) m] := by
  have h1 : 0 + Int.toNat (i : Int) * 1 = i := by simp
  have h2 : 0 + Int.toNat (j : Int) * 1 = j := by simp
  have r1 : i + 1 ≤ ((idL v m).map CV.val).length := by rw [List.length_map, idL_len]; omega
  have r2 : j + 1 ≤ ((idL (setV v i (v j)) m).map CV.val).length := by rw [List.length_map, idL_len]; omega
  have s2 := idL_splice (setV v i (v j)) hj (v i)
  rw [setV_two] at s2
  refine MSpec.intro Try.func56 rfl (by kernel_rfl) rfl rfl (by exact (by repeat' (first | refine all_cons_true ?_ ?_ | rfl | exact bytes_inUse | exact vals_inUse | exact mid_inUse rfl))) rfl rfl ?_
  intro C
  (refine LWP.draws mixed (by kernel_rfl) <| kmv rfl <| kmv rfl <| kmv rfl <| kmv rfl <| kmv rfl <| kmv rfl <| K.indexSlc rfl rfl (by omega) h2 .plain ?_; refine kl1 rfl rfl (idL_at v hj) <| kmv rfl <| kmv rfl <| K.indexSlc rfl rfl (by omega) h1 .plain ?_; refine kl1 rfl rfl (idL_at v hi) <| K.indexSlc rfl rfl (by omega) h1 .plain ?_; refine K.store rfl rfl rfl rfl (by kernel_rfl) r1 (idL_splice v hi (v j)) .plain <| K.indexSlc rfl rfl (by omega) h2 .plain ?_; refine K.store rfl rfl rfl rfl (by kernel_rfl) r2 s2 .plain <| RunK.nil <| And.intro (by kernel_rfl) ?_)
  exact ⟨[], ⟨[], trivial, rfl⟩, (by repeat' (first | exact trivial | refine And.intro ⟨_, rfl, ?_⟩ ?_ | refine And.intro ⟨_, rfl⟩ ?_ | rfl | exact Box.ren_bytes _ _ _ _ | exact Box.ren_vals _ _ _ _ | exact Box.ren_mid rfl)), rfl, rfl⟩
end Go.Proofs.Ytkdbkgfdggbhkaa
end
section
namespace Go.Proofs.Ytkdbkgfdggbhkaa
open Go Go.Lg
set_option maxRecDepth 100000
variable (X : Nat → Option Obj)
set_option maxHeartbeats 3200000 in
theorem hUp (g : Int) (N L : Nat) (sv : List Value) (v : Nat → Int) (j : Nat) (hj : j < L) (hL : L < 4611686018427387904) :
    MSpec Try.prog X 38 [.sv (.one (ifcP 72 1000000 2)), Ln .i64 (j : Nat)] [(1000000, some ⟨68, [.val (.int .i64 g), .slc 1000002 0 N 2, .slc 1000001 0 L 1], false⟩), hpB 1000001 v L, (1000002, some ⟨70, sv.map .val, true⟩)] (.tup []) [(1000000, some ⟨68, [.val (.int .i64 g), .slc 1000002 0 N 2, .slc 1000001 0 L 1], false⟩), hpB 1000001 (upF ilt j v j) L, (1000002, some ⟨70, sv.map .val, true⟩)] := by
  refine MSpec.intro Try.func38 rfl (by kernel_rfl) rfl rfl (by exact (by repeat' (first | refine all_cons_true ?_ ?_ | rfl | exact bytes_inUse | exact vals_inUse | exact mid_inUse rfl))) rfl rfl ?_
  intro C
  generalize hT : upF ilt j v j = T
  repeat (first | refine LWP.seq ?_ | refine LWP.block ?_)
  refine LWP.loop (fun n σ => ∃ (f : Nat) (v : Nat → Int), n ≤ f ∧ n < L ∧ upF ilt f v n = T ∧ σ = ⟨[(0, .sv (.one (ifcP 72 1000000 2))), (1, Ln .i64 (n : Nat))], [(1000000, some ⟨68, [.val (.int .i64 g), .slc 1000002 0 N 2, .slc 1000001 0 L 1], false⟩), hpB 1000001 v L, (1000002, some ⟨70, sv.map .val, true⟩)], X⟩) j
    ⟨_, Le.of (by exact ⟨rfl, rfl, trivial⟩) (by exact ⟨rfl, rfl, rfl, trivial⟩) (by exact rfl) (by exact rfl) (by repeat' (first | refine all_cons_true ?_ ?_ | rfl | exact bytes_inUse | exact vals_inUse | exact mid_inUse rfl)), j, v, by omega, hj, hT, rfl⟩ ?_
  rintro n σ ⟨f, v, hf, hn, hv, rfl⟩
  by_cases n0 : n = 0
  · subst n0
    have hT2 : v = T := by
      rw [← hv]
      cases f with
      | zero => rfl
      | succ f => exact (if_neg (fun h => h.1 rfl)).symm
    subst hT2
    have hs : IntKind.i64.wrap (((0 : Nat) : Int) - 1) = -1 := by decide
    have hq : IntKind.i64.wrap ((-1 : Int).tdiv 2) = ((0 : Nat) : Int) := by decide
    (refine LWP.block <| LWP.seq <| LWP.region (by kernel_rfl) <| kmv rfl <| K.sub rfl rfl hs .plain <| K.quo rfl rfl (by decide) hq .plain <| kas rfl <| RunK.nil <| LWP.seq <| LWP.seq <| LWP.region (by kernel_rfl) <| kmv rfl <| kmv rfl <| keq rfl rfl (r := true) rfl ?_; refine kmv rfl <| RunK.passed rfl rfl rfl <| RunK.passed rfl rfl rfl <| RunK.passed rfl rfl rfl <| RunK.passed rfl rfl rfl <| RunK.passed rfl rfl rfl <| kpt rfl rfl <| RunK.nil <| LWP.condT rfl ?_; refine LWP.exit ?_)
    exact ⟨[], ⟨[], trivial, rfl⟩, (by repeat' (first | exact trivial | refine And.intro ⟨_, rfl, ?_⟩ ?_ | refine And.intro ⟨_, rfl⟩ ?_ | rfl | exact Box.ren_bytes _ _ _ _ | exact Box.ren_vals _ _ _ _ | exact Box.ren_mid rfl)), rfl, rfl⟩
  obtain ⟨f, rfl⟩ : ∃ f', f = f' + 1 := ⟨f - 1, by omega⟩
  have hs : IntKind.i64.wrap (((n : Nat) : Int) - 1) = ((n - 1 : Nat) : Int) := by rw [wrap_i64 (by omega)]; omega
  have hq : IntKind.i64.wrap (((n - 1 : Nat) : Int).tdiv 2) = (((n - 1) / 2 : Nat) : Int) := by
    rw [Int.tdiv_eq_ediv_of_nonneg (by omega), wrap_i64 (by omega)]; omega
  have hp : (n - 1) / 2 < n := by omega
  have hLs := iLess X v L n ((n - 1) / 2) hn (by omega)
  cases c : ilt (v n) (v ((n - 1) / 2)) with
  | false =>
    have hT2 : v = T := by rw [← hv]; exact (if_neg (fun h => by rw [c] at h; exact absurd h.2 (by decide))).symm
    subst hT2
    rw [c] at hLs
    (refine LWP.block <| LWP.seq <| LWP.region (by kernel_rfl) <| kmv rfl <| K.sub rfl rfl hs .plain <| K.quo rfl rfl (by decide) hq .plain <| kas rfl <| RunK.nil <| LWP.seq <| LWP.seq <| LWP.region (by kernel_rfl) <| kmv rfl <| kmv rfl <| keq rfl rfl (r := false) (beq_eq_false_iff_ne.2 (by omega)) ?_; refine kmv rfl <| gmv rfl rfl rfl <| gmv rfl rfl rfl <| gmv rfl rfl rfl <| K.invV [] (Lb false) [hpB 1000001 v L] (hLs) rfl (fun a w v h => run_methV (e := 66) ids_Less_m (by kernel_rfl) a w v h) rfl (by kernel_rfl) rfl rfl rfl rfl (by exact (And.intro ⟨_, rfl, (Box.ren_vals _ _ _ _)⟩ trivial)) (by exact (all_cons_true vals_inUse rfl)) rfl rfl rfl rfl (by exact (.box rfl (Box.ren_vals _ _ _ _) .nil)) (.taken rfl rfl) ?_; refine K.not rfl rfl (.taken rfl rfl) ?_; refine kpf rfl rfl <| RunK.nil <| LWP.condT rfl ?_; refine LWP.exit ?_)
    exact ⟨[], ⟨[], trivial, rfl⟩, (by repeat' (first | exact trivial | refine And.intro ⟨_, rfl, ?_⟩ ?_ | refine And.intro ⟨_, rfl⟩ ?_ | rfl | exact Box.ren_bytes _ _ _ _ | exact Box.ren_vals _ _ _ _ | exact Box.ren_mid rfl)), rfl, rfl⟩
  | true =>
    rw [c] at hLs
    have hSw := iSwap X v L ((n - 1) / 2) n (by omega) hn
    (refine LWP.block <| LWP.seq <| LWP.region (by kernel_rfl) <| kmv rfl <| K.sub rfl rfl hs .plain <| K.quo rfl rfl (by decide) hq .plain <| kas rfl <| RunK.nil <| LWP.seq <| LWP.seq <| LWP.region (by kernel_rfl) <| kmv rfl <| kmv rfl <| keq rfl rfl (r := false) (beq_eq_false_iff_ne.2 (by omega)) ?_; refine kmv rfl <| gmv rfl rfl rfl <| gmv rfl rfl rfl <| gmv rfl rfl rfl <| K.invV [] (Lb true) [hpB 1000001 v L] (hLs) rfl (fun a w v h => run_methV (e := 66) ids_Less_m (by kernel_rfl) a w v h) rfl (by kernel_rfl) rfl rfl rfl rfl (by exact (And.intro ⟨_, rfl, (Box.ren_vals _ _ _ _)⟩ trivial)) (by exact (all_cons_true vals_inUse rfl)) rfl rfl rfl rfl (by exact (.box rfl (Box.ren_vals _ _ _ _) .nil)) (.taken rfl rfl) ?_; refine K.not rfl rfl (.taken rfl rfl) ?_; refine kpf rfl rfl <| RunK.nil <| LWP.condF rfl ?_; refine LWP.skip ?_; refine LWP.seq <| LWP.region (by kernel_rfl) <| kmv rfl <| kmv rfl <| kmv rfl <| K.invV [] (.tup []) [hpB 1000001 (swapV v ((n - 1) / 2) n) L] (hSw) rfl (fun a w v h => run_methV (e := 66) ids_Swap_m (by kernel_rfl) a w v h) rfl (by kernel_rfl) rfl rfl rfl rfl (by exact (And.intro ⟨_, rfl, (Box.ren_vals _ _ _ _)⟩ trivial)) (by exact (all_cons_true vals_inUse rfl)) rfl rfl rfl rfl (by exact (.box rfl (Box.ren_vals _ _ _ _) .nil)) .plain ?_; refine RunK.nil <| LWP.region (by kernel_rfl) <| kmv rfl <| kas rfl <| RunK.nil ?_)
    refine ⟨_, _, hp, Le.of (by exact ⟨rfl, rfl, trivial⟩) (by exact ⟨rfl, rfl, rfl, trivial⟩) (by exact rfl) (by exact rfl) (by repeat' (first | refine all_cons_true ?_ ?_ | rfl | exact bytes_inUse | exact vals_inUse | exact mid_inUse rfl)), f, swapV v ((n - 1) / 2) n, by omega, by omega, ?_, rfl⟩
    rw [← hv]
    exact (if_pos ⟨n0, c⟩).symm
def downE (lt : Int → Int → Bool) (m : Nat) : Nat → (Nat → Int) → Nat → Nat
  | 0, _, i => i
  | n + 1, v, i => if 2 * i + 1 < m ∧ lt (v (minC lt v m i)) (v i) = true then downE lt m n (swapV v i (minC lt v m i)) (minC lt v m i) else i
set_option maxHeartbeats 6400000 in
theorem hDown (g : Int) (N L : Nat) (sv : List Value) (v : Nat → Int) (i0 m : Nat) (h0 : i0 ≤ m) (hm : m ≤ L) (hL : L < 1152921504606846976) :
    MSpec Try.prog X 37 [.sv (.one (ifcP 72 1000000 2)), Ln .i64 (i0 : Nat), Ln .i64 (m : Nat)] [(1000000, some ⟨68, [.val (.int .i64 g), .slc 1000002 0 N 2, .slc 1000001 0 L 1], false⟩), hpB 1000001 v L, (1000002, some ⟨70, sv.map .val, true⟩)] (Lb (decide ((downE ilt m m v i0 : Nat) > (i0 : Int)))) [(1000000, some ⟨68, [.val (.int .i64 g), .slc 1000002 0 N 2, .slc 1000001 0 L 1], false⟩), hpB 1000001 (downF ilt m m v i0) L, (1000002, some ⟨70, sv.map .val, true⟩)] := by
  refine MSpec.intro Try.func37 rfl (by kernel_rfl) rfl rfl (by exact (by repeat' (first | refine all_cons_true ?_ ?_ | rfl | exact bytes_inUse | exact vals_inUse | exact mid_inUse rfl))) rfl rfl ?_
  intro C
  generalize hT : downF ilt m m v i0 = T
  generalize hE : downE ilt m m v i0 = E
  (refine LWP.seq <| LWP.region (by kernel_rfl) <| kas rfl <| RunK.nil <| LWP.seq <| LWP.region (by kernel_rfl) <| kmv rfl <| kas rfl <| RunK.nil <| LWP.seq <| LWP.block ?_)
  repeat (first | refine LWP.seq ?_ | refine LWP.block ?_)
  refine LWP.loop (fun k σ => ∃ (n f : Nat) (v : Nat → Int), k = m - n ∧ n ≤ m ∧ m ≤ f + n ∧ downF ilt m f v n = T ∧ downE ilt m f v n = E ∧ σ = ⟨[(0, .sv (.one (ifcP 72 1000000 2))), (1, Ln .i64 (i0 : Nat)), (2, Ln .i64 (m : Nat)), (7, Ln .i64 (n : Nat))], [(1000000, some ⟨68, [.val (.int .i64 g), .slc 1000002 0 N 2, .slc 1000001 0 L 1], false⟩), hpB 1000001 v L, (1000002, some ⟨70, sv.map .val, true⟩)], X⟩) (m - i0)
    ⟨_, Le.of (by exact ⟨rfl, rfl, rfl, rfl, trivial⟩) (by exact ⟨rfl, rfl, rfl, trivial⟩) (by exact rfl) (by exact rfl) (by repeat' (first | refine all_cons_true ?_ ?_ | rfl | exact bytes_inUse | exact vals_inUse | exact mid_inUse rfl)), i0, m, v, rfl, h0, by omega, hT, hE, rfl⟩ ?_
  rintro k σ ⟨n, f, v, rfl, hn, hf, hv, he, rfl⟩
  have hmul : IntKind.i64.wrap (2 * ((n : Nat) : Int)) = ((2 * n : Nat) : Int) := by rw [wrap_i64 (by omega)]; omega
  have hadd : IntKind.i64.wrap (((2 * n : Nat) : Int) + 1) = ((2 * n + 1 : Nat) : Int) := by rw [wrap_i64 (by omega)]; omega
  have hadd2 : IntKind.i64.wrap (((2 * n + 1 : Nat) : Int) + 1) = ((2 * n + 2 : Nat) : Int) := by rw [wrap_i64 (by omega)]; omega
  by_cases b1 : 2 * n + 1 < m
  case neg =>
    have hT2 : v = T := by
      rw [← hv]
      cases f with
      | zero => rfl
      | succ f => exact (if_neg (fun h => b1 h.1)).symm
    have hE2 : n = E := by
      rw [← he]
      cases f with
      | zero => rfl
      | succ f => exact (if_neg (fun h => b1 h.1)).symm
    subst hT2 hE2
    (refine LWP.block <| LWP.seq <| LWP.region (by kernel_rfl) <| kmv rfl <| K.mul rfl rfl hmul .plain <| kad rfl rfl hadd <| kas rfl <| RunK.nil <| LWP.seq <| LWP.seq <| LWP.region (by kernel_rfl) <| kmv rfl <| kmv rfl <| K.geq rfl rfl (decide_eq_true (by omega)) .plain ?_; refine kmv rfl <| RunK.passed rfl rfl rfl <| RunK.passed rfl rfl rfl <| kpt rfl rfl <| RunK.nil <| LWP.condT rfl ?_; refine LWP.exit <| LWP.seq <| LWP.region (by kernel_rfl) <| kmv rfl <| kmv rfl <| K.gtr rfl rfl rfl .plain <| kas rfl <| RunK.nil <| LWP.ret ?_)
    exact ⟨[], ⟨[_], ⟨rfl, trivial⟩, rfl⟩, (by repeat' (first | exact trivial | refine And.intro ⟨_, rfl, ?_⟩ ?_ | refine And.intro ⟨_, rfl⟩ ?_ | rfl | exact Box.ren_bytes _ _ _ _ | exact Box.ren_vals _ _ _ _ | exact Box.ren_mid rfl)), rfl, rfl⟩
  obtain ⟨f, rfl⟩ : ∃ f', f = f' + 1 := ⟨f - 1, by omega⟩
  have hstep : (if 2 * n + 1 < m ∧ ilt (v (minC ilt v m n)) (v n) = true then downF ilt m f (swapV v n (minC ilt v m n)) (minC ilt v m n) else v) = T ∧ (if 2 * n + 1 < m ∧ ilt (v (minC ilt v m n)) (v n) = true then downE ilt m f (swapV v n (minC ilt v m n)) (minC ilt v m n) else n) = E := ⟨hv, he⟩
  clear hv he
  by_cases b2 : 2 * n + 2 < m
  · cases c2 : ilt (v (2 * n + 2)) (v (2 * n + 1)) with
    | true =>
      have hL2 := iLess X v L (2 * n + 2) (2 * n + 1) (by omega) (by omega)
      rw [c2] at hL2
      have hmc : minC ilt v m n = (2 * n + 2) := by unfold minC; exact if_pos ⟨b2, c2⟩
      rw [hmc] at hstep
      have hL3 := iLess X v L (2 * n + 2) n (by omega) (by omega)
      cases c3 : ilt (v (2 * n + 2)) (v n) with
      | false =>
        rw [if_neg (fun h => by rw [c3] at h; exact absurd h.2 (by decide)), if_neg (fun h => by rw [c3] at h; exact absurd h.2 (by decide))] at hstep
        obtain ⟨rfl, rfl⟩ := hstep
        rw [c3] at hL3
        (refine LWP.block <| LWP.seq <| LWP.region (by kernel_rfl) <| kmv rfl <| K.mul rfl rfl hmul .plain <| kad rfl rfl hadd <| kas rfl <| RunK.nil <| LWP.seq <| LWP.seq <| LWP.region (by kernel_rfl) <| kmv rfl <| kmv rfl <| K.geq rfl rfl (decide_eq_false (by omega)) .plain ?_; refine kmv rfl <| gmv rfl rfl rfl <| K.lss rfl rfl (decide_eq_false (by omega)) (.taken rfl rfl) ?_; refine kpf rfl rfl <| RunK.nil <| LWP.condF rfl ?_; refine LWP.skip ?_; refine LWP.seq <| LWP.region (by kernel_rfl) <| kmv rfl <| kas rfl <| RunK.nil <| LWP.seq <| LWP.seq <| LWP.region (by kernel_rfl) <| kmv rfl <| kad rfl rfl hadd2 <| kas rfl <| RunK.nil <| LWP.seq <| LWP.region (by kernel_rfl) ?_; refine kmv rfl <| kmv rfl <| klt rfl rfl (decide_eq_true (by omega)) <| kmv rfl <| gmv rfl rfl rfl <| gmv rfl rfl rfl <| gmv rfl rfl rfl <| K.invV [] (Lb true) [hpB 1000001 v L] (hL2) rfl (fun a w v h => run_methV (e := 66) ids_Less_m (by kernel_rfl) a w v h) rfl (by kernel_rfl) rfl rfl rfl rfl (by exact (And.intro ⟨_, rfl, (Box.ren_vals _ _ _ _)⟩ trivial)) (by exact (all_cons_true vals_inUse rfl)) rfl rfl rfl rfl (by exact (.box rfl (Box.ren_vals _ _ _ _) .nil)) (.taken rfl rfl) ?_; refine kpt rfl rfl <| RunK.nil <| LWP.condT rfl ?_; refine LWP.region (by kernel_rfl) <| kmv rfl <| kas rfl <| RunK.nil <| LWP.seq <| LWP.seq <| LWP.region (by kernel_rfl) <| kmv rfl <| kmv rfl <| kmv rfl <| K.invV [] (Lb false) [hpB 1000001 v L] (hL3) rfl (fun a w v h => run_methV (e := 66) ids_Less_m (by kernel_rfl) a w v h) rfl (by kernel_rfl) rfl rfl rfl rfl (by exact (And.intro ⟨_, rfl, (Box.ren_vals _ _ _ _)⟩ trivial)) (by exact (all_cons_true vals_inUse rfl)) rfl rfl rfl rfl (by exact (.box rfl (Box.ren_vals _ _ _ _) .nil)) .plain ?_; refine K.not rfl rfl .plain <| RunK.nil <| LWP.condT rfl ?_; refine LWP.exit <| LWP.seq <| LWP.region (by kernel_rfl) <| kmv rfl <| kmv rfl <| K.gtr rfl rfl rfl .plain <| kas rfl <| RunK.nil <| LWP.ret ?_)
        exact ⟨[], ⟨[_], ⟨rfl, trivial⟩, rfl⟩, (by repeat' (first | exact trivial | refine And.intro ⟨_, rfl, ?_⟩ ?_ | refine And.intro ⟨_, rfl⟩ ?_ | rfl | exact Box.ren_bytes _ _ _ _ | exact Box.ren_vals _ _ _ _ | exact Box.ren_mid rfl)), rfl, rfl⟩
      | true =>
        rw [if_pos ⟨b1, c3⟩, if_pos ⟨b1, c3⟩] at hstep
        rw [c3] at hL3
        have hSw := iSwap X v L n (2 * n + 2) (by omega) (by omega)
        (refine LWP.block <| LWP.seq <| LWP.region (by kernel_rfl) <| kmv rfl <| K.mul rfl rfl hmul .plain <| kad rfl rfl hadd <| kas rfl <| RunK.nil <| LWP.seq <| LWP.seq <| LWP.region (by kernel_rfl) <| kmv rfl <| kmv rfl <| K.geq rfl rfl (decide_eq_false (by omega)) .plain ?_; refine kmv rfl <| gmv rfl rfl rfl <| K.lss rfl rfl (decide_eq_false (by omega)) (.taken rfl rfl) ?_; refine kpf rfl rfl <| RunK.nil <| LWP.condF rfl ?_; refine LWP.skip ?_; refine LWP.seq <| LWP.region (by kernel_rfl) <| kmv rfl <| kas rfl <| RunK.nil <| LWP.seq <| LWP.seq <| LWP.region (by kernel_rfl) <| kmv rfl <| kad rfl rfl hadd2 <| kas rfl <| RunK.nil <| LWP.seq <| LWP.region (by kernel_rfl) ?_; refine kmv rfl <| kmv rfl <| klt rfl rfl (decide_eq_true (by omega)) <| kmv rfl <| gmv rfl rfl rfl <| gmv rfl rfl rfl <| gmv rfl rfl rfl <| K.invV [] (Lb true) [hpB 1000001 v L] (hL2) rfl (fun a w v h => run_methV (e := 66) ids_Less_m (by kernel_rfl) a w v h) rfl (by kernel_rfl) rfl rfl rfl rfl (by exact (And.intro ⟨_, rfl, (Box.ren_vals _ _ _ _)⟩ trivial)) (by exact (all_cons_true vals_inUse rfl)) rfl rfl rfl rfl (by exact (.box rfl (Box.ren_vals _ _ _ _) .nil)) (.taken rfl rfl) ?_; refine kpt rfl rfl <| RunK.nil <| LWP.condT rfl ?_; refine LWP.region (by kernel_rfl) <| kmv rfl <| kas rfl <| RunK.nil <| LWP.seq <| LWP.seq <| LWP.region (by kernel_rfl) <| kmv rfl <| kmv rfl <| kmv rfl <| K.invV [] (Lb true) [hpB 1000001 v L] (hL3) rfl (fun a w v h => run_methV (e := 66) ids_Less_m (by kernel_rfl) a w v h) rfl (by kernel_rfl) rfl rfl rfl rfl (by exact (And.intro ⟨_, rfl, (Box.ren_vals _ _ _ _)⟩ trivial)) (by exact (all_cons_true vals_inUse rfl)) rfl rfl rfl rfl (by exact (.box rfl (Box.ren_vals _ _ _ _) .nil)) .plain ?_; refine K.not rfl rfl .plain <| RunK.nil <| LWP.condF rfl ?_; refine LWP.skip ?_; refine LWP.seq <| LWP.region (by kernel_rfl) <| kmv rfl <| kmv rfl <| kmv rfl <| K.invV [] (.tup []) [hpB 1000001 (swapV v n (2 * n + 2)) L] (hSw) rfl (fun a w v h => run_methV (e := 66) ids_Swap_m (by kernel_rfl) a w v h) rfl (by kernel_rfl) rfl rfl rfl rfl (by exact (And.intro ⟨_, rfl, (Box.ren_vals _ _ _ _)⟩ trivial)) (by exact (all_cons_true vals_inUse rfl)) rfl rfl rfl rfl (by exact (.box rfl (Box.ren_vals _ _ _ _) .nil)) .plain ?_; refine RunK.nil <| LWP.region (by kernel_rfl) <| kmv rfl <| kas rfl <| RunK.nil ?_)
        exact ⟨_, _, (by omega : m - (2 * n + 2) < m - n), Le.of (by exact ⟨rfl, rfl, rfl, rfl, trivial⟩) (by exact ⟨rfl, rfl, rfl, trivial⟩) (by exact rfl) (by exact rfl) (by repeat' (first | refine all_cons_true ?_ ?_ | rfl | exact bytes_inUse | exact vals_inUse | exact mid_inUse rfl)), (2 * n + 2), f, swapV v n (2 * n + 2), rfl, by omega, by omega, hstep.1, hstep.2, rfl⟩
    | false =>
      have hL2 := iLess X v L (2 * n + 2) (2 * n + 1) (by omega) (by omega)
      rw [c2] at hL2
      have hmc : minC ilt v m n = (2 * n + 1) := by unfold minC; exact if_neg (fun h => by rw [c2] at h; exact absurd h.2 (by decide))
      rw [hmc] at hstep
      have hL3 := iLess X v L (2 * n + 1) n (by omega) (by omega)
      cases c3 : ilt (v (2 * n + 1)) (v n) with
      | false =>
        rw [if_neg (fun h => by rw [c3] at h; exact absurd h.2 (by decide)), if_neg (fun h => by rw [c3] at h; exact absurd h.2 (by decide))] at hstep
        obtain ⟨rfl, rfl⟩ := hstep
        rw [c3] at hL3
        (refine LWP.block <| LWP.seq <| LWP.region (by kernel_rfl) <| kmv rfl <| K.mul rfl rfl hmul .plain <| kad rfl rfl hadd <| kas rfl <| RunK.nil <| LWP.seq <| LWP.seq <| LWP.region (by kernel_rfl) <| kmv rfl <| kmv rfl <| K.geq rfl rfl (decide_eq_false (by omega)) .plain ?_; refine kmv rfl <| gmv rfl rfl rfl <| K.lss rfl rfl (decide_eq_false (by omega)) (.taken rfl rfl) ?_; refine kpf rfl rfl <| RunK.nil <| LWP.condF rfl ?_; refine LWP.skip ?_; refine LWP.seq <| LWP.region (by kernel_rfl) <| kmv rfl <| kas rfl <| RunK.nil <| LWP.seq <| LWP.seq <| LWP.region (by kernel_rfl) <| kmv rfl <| kad rfl rfl hadd2 <| kas rfl <| RunK.nil <| LWP.seq <| LWP.region (by kernel_rfl) ?_; refine kmv rfl <| kmv rfl <| klt rfl rfl (decide_eq_true (by omega)) <| kmv rfl <| gmv rfl rfl rfl <| gmv rfl rfl rfl <| gmv rfl rfl rfl <| K.invV [] (Lb false) [hpB 1000001 v L] (hL2) rfl (fun a w v h => run_methV (e := 66) ids_Less_m (by kernel_rfl) a w v h) rfl (by kernel_rfl) rfl rfl rfl rfl (by exact (And.intro ⟨_, rfl, (Box.ren_vals _ _ _ _)⟩ trivial)) (by exact (all_cons_true vals_inUse rfl)) rfl rfl rfl rfl (by exact (.box rfl (Box.ren_vals _ _ _ _) .nil)) (.taken rfl rfl) ?_; refine kpt rfl rfl <| RunK.nil <| LWP.condF rfl ?_; refine LWP.skip ?_; refine LWP.seq <| LWP.seq <| LWP.region (by kernel_rfl) <| kmv rfl <| kmv rfl <| kmv rfl <| K.invV [] (Lb false) [hpB 1000001 v L] (hL3) rfl (fun a w v h => run_methV (e := 66) ids_Less_m (by kernel_rfl) a w v h) rfl (by kernel_rfl) rfl rfl rfl rfl (by exact (And.intro ⟨_, rfl, (Box.ren_vals _ _ _ _)⟩ trivial)) (by exact (all_cons_true vals_inUse rfl)) rfl rfl rfl rfl (by exact (.box rfl (Box.ren_vals _ _ _ _) .nil)) .plain ?_; refine K.not rfl rfl .plain <| RunK.nil <| LWP.condT rfl ?_; refine LWP.exit <| LWP.seq <| LWP.region (by kernel_rfl) <| kmv rfl <| kmv rfl <| K.gtr rfl rfl rfl .plain <| kas rfl <| RunK.nil <| LWP.ret ?_)
        exact ⟨[], ⟨[_], ⟨rfl, trivial⟩, rfl⟩, (by repeat' (first | exact trivial | refine And.intro ⟨_, rfl, ?_⟩ ?_ | refine And.intro ⟨_, rfl⟩ ?_ | rfl | exact Box.ren_bytes _ _ _ _ | exact Box.ren_vals _ _ _ _ | exact Box.ren_mid rfl)), rfl, rfl⟩
      | true =>
        rw [if_pos ⟨b1, c3⟩, if_pos ⟨b1, c3⟩] at hstep
        rw [c3] at hL3
        have hSw := iSwap X v L n (2 * n + 1) (by omega) (by omega)
        (refine LWP.block <| LWP.seq <| LWP.region (by kernel_rfl) <| kmv rfl <| K.mul rfl rfl hmul .plain <| kad rfl rfl hadd <| kas rfl <| RunK.nil <| LWP.seq <| LWP.seq <| LWP.region (by kernel_rfl) <| kmv rfl <| kmv rfl <| K.geq rfl rfl (decide_eq_false (by omega)) .plain ?_; refine kmv rfl <| gmv rfl rfl rfl <| K.lss rfl rfl (decide_eq_false (by omega)) (.taken rfl rfl) ?_; refine kpf rfl rfl <| RunK.nil <| LWP.condF rfl ?_; refine LWP.skip ?_; refine LWP.seq <| LWP.region (by kernel_rfl) <| kmv rfl <| kas rfl <| RunK.nil <| LWP.seq <| LWP.seq <| LWP.region (by kernel_rfl) <| kmv rfl <| kad rfl rfl hadd2 <| kas rfl <| RunK.nil <| LWP.seq <| LWP.region (by kernel_rfl) ?_; refine kmv rfl <| kmv rfl <| klt rfl rfl (decide_eq_true (by omega)) <| kmv rfl <| gmv rfl rfl rfl <| gmv rfl rfl rfl <| gmv rfl rfl rfl <| K.invV [] (Lb false) [hpB 1000001 v L] (hL2) rfl (fun a w v h => run_methV (e := 66) ids_Less_m (by kernel_rfl) a w v h) rfl (by kernel_rfl) rfl rfl rfl rfl (by exact (And.intro ⟨_, rfl, (Box.ren_vals _ _ _ _)⟩ trivial)) (by exact (all_cons_true vals_inUse rfl)) rfl rfl rfl rfl (by exact (.box rfl (Box.ren_vals _ _ _ _) .nil)) (.taken rfl rfl) ?_; refine kpt rfl rfl <| RunK.nil <| LWP.condF rfl ?_; refine LWP.skip ?_; refine LWP.seq <| LWP.seq <| LWP.region (by kernel_rfl) <| kmv rfl <| kmv rfl <| kmv rfl <| K.invV [] (Lb true) [hpB 1000001 v L] (hL3) rfl (fun a w v h => run_methV (e := 66) ids_Less_m (by kernel_rfl) a w v h) rfl (by kernel_rfl) rfl rfl rfl rfl (by exact (And.intro ⟨_, rfl, (Box.ren_vals _ _ _ _)⟩ trivial)) (by exact (all_cons_true vals_inUse rfl)) rfl rfl rfl rfl (by exact (.box rfl (Box.ren_vals _ _ _ _) .nil)) .plain ?_; refine K.not rfl rfl .plain <| RunK.nil <| LWP.condF rfl ?_; refine LWP.skip ?_; refine LWP.seq <| LWP.region (by kernel_rfl) <| kmv rfl <| kmv rfl <| kmv rfl <| K.invV [] (.tup []) [hpB 1000001 (swapV v n (2 * n + 1)) L] (hSw) rfl (fun a w v h => run_methV (e := 66) ids_Swap_m (by kernel_rfl) a w v h) rfl (by kernel_rfl) rfl rfl rfl rfl (by exact (And.intro ⟨_, rfl, (Box.ren_vals _ _ _ _)⟩ trivial)) (by exact (all_cons_true vals_inUse rfl)) rfl rfl rfl rfl (by exact (.box rfl (Box.ren_vals _ _ _ _) .nil)) .plain ?_; refine RunK.nil <| LWP.region (by kernel_rfl) <| kmv rfl <| kas rfl <| RunK.nil ?_)
        exact ⟨_, _, (by omega : m - (2 * n + 1) < m - n), Le.of (by exact ⟨rfl, rfl, rfl, rfl, trivial⟩) (by exact ⟨rfl, rfl, rfl, trivial⟩) (by exact rfl) (by exact rfl) (by repeat' (first | refine all_cons_true ?_ ?_ | rfl | exact bytes_inUse | exact vals_inUse | exact mid_inUse rfl)), (2 * n + 1), f, swapV v n (2 * n + 1), rfl, by omega, by omega, hstep.1, hstep.2, rfl⟩
  · have hmc : minC ilt v m n = (2 * n + 1) := by unfold minC; exact if_neg (fun h => b2 h.1)
    rw [hmc] at hstep
    have hL3 := iLess X v L (2 * n + 1) n (by omega) (by omega)
    cases c3 : ilt (v (2 * n + 1)) (v n) with
    | false =>
      rw [if_neg (fun h => by rw [c3] at h; exact absurd h.2 (by decide)), if_neg (fun h => by rw [c3] at h; exact absurd h.2 (by decide))] at hstep
      obtain ⟨rfl, rfl⟩ := hstep
      rw [c3] at hL3
      (refine LWP.block <| LWP.seq <| LWP.region (by kernel_rfl) <| kmv rfl <| K.mul rfl rfl hmul .plain <| kad rfl rfl hadd <| kas rfl <| RunK.nil <| LWP.seq <| LWP.seq <| LWP.region (by kernel_rfl) <| kmv rfl <| kmv rfl <| K.geq rfl rfl (decide_eq_false (by omega)) .plain ?_; refine kmv rfl <| gmv rfl rfl rfl <| K.lss rfl rfl (decide_eq_false (by omega)) (.taken rfl rfl) ?_; refine kpf rfl rfl <| RunK.nil <| LWP.condF rfl ?_; refine LWP.skip ?_; refine LWP.seq <| LWP.region (by kernel_rfl) <| kmv rfl <| kas rfl <| RunK.nil <| LWP.seq <| LWP.seq <| LWP.region (by kernel_rfl) <| kmv rfl <| kad rfl rfl hadd2 <| kas rfl <| RunK.nil <| LWP.seq <| LWP.region (by kernel_rfl) ?_; refine kmv rfl <| kmv rfl <| klt rfl rfl (decide_eq_false (by omega)) <| kmv rfl <| RunK.passed rfl rfl rfl <| RunK.passed rfl rfl rfl <| RunK.passed rfl rfl rfl <| RunK.passed rfl rfl rfl <| kpf rfl rfl <| RunK.nil <| LWP.condF rfl ?_; refine LWP.skip ?_; refine LWP.seq <| LWP.seq <| LWP.region (by kernel_rfl) <| kmv rfl <| kmv rfl <| kmv rfl <| K.invV [] (Lb false) [hpB 1000001 v L] (hL3) rfl (fun a w v h => run_methV (e := 66) ids_Less_m (by kernel_rfl) a w v h) rfl (by kernel_rfl) rfl rfl rfl rfl (by exact (And.intro ⟨_, rfl, (Box.ren_vals _ _ _ _)⟩ trivial)) (by exact (all_cons_true vals_inUse rfl)) rfl rfl rfl rfl (by exact (.box rfl (Box.ren_vals _ _ _ _) .nil)) .plain ?_; refine K.not rfl rfl .plain <| RunK.nil <| LWP.condT rfl ?_; refine LWP.exit <| LWP.seq <| LWP.region (by kernel_rfl) <| kmv rfl <| kmv rfl <| K.gtr rfl rfl rfl .plain <| kas rfl <| RunK.nil <| LWP.ret ?_)
      exact ⟨[], ⟨[_], ⟨rfl, trivial⟩, rfl⟩, (by repeat' (first | exact trivial | refine And.intro ⟨_, rfl, ?_⟩ ?_ | refine And.intro ⟨_, rfl⟩ ?_ | rfl | exact Box.ren_bytes _ _ _ _ | exact Box.ren_vals _ _ _ _ | exact Box.ren_mid rfl)), rfl, rfl⟩
    | true =>
      rw [if_pos ⟨b1, c3⟩, if_pos ⟨b1, c3⟩] at hstep
      rw [c3] at hL3
      have hSw := iSwap X v L n (2 * n + 1) (by omega) (by omega)
      (refine LWP.block <| LWP.seq <| LWP.region (by kernel_rfl) <| kmv rfl <| K.mul rfl rfl hmul .plain <| kad rfl rfl hadd <| kas rfl <| RunK.nil <| LWP.seq <| LWP.seq <| LWP.region (by kernel_rfl) <| kmv rfl <| kmv rfl <| K.geq rfl rfl (decide_eq_false (by omega)) .plain ?_; refine kmv rfl <| gmv rfl rfl rfl <| K.lss rfl rfl (decide_eq_false (by omega)) (.taken rfl rfl) ?_; refine kpf rfl rfl <| RunK.nil <| LWP.condF rfl ?_; refine LWP.skip ?_; refine LWP.seq <| LWP.region (by kernel_rfl) <| kmv rfl <| kas rfl <| RunK.nil <| LWP.seq <| LWP.seq <| LWP.region (by kernel_rfl) <| kmv rfl <| kad rfl rfl hadd2 <| kas rfl <| RunK.nil <| LWP.seq <| LWP.region (by kernel_rfl) ?_; refine kmv rfl <| kmv rfl <| klt rfl rfl (decide_eq_false (by omega)) <| kmv rfl <| RunK.passed rfl rfl rfl <| RunK.passed rfl rfl rfl <| RunK.passed rfl rfl rfl <| RunK.passed rfl rfl rfl <| kpf rfl rfl <| RunK.nil <| LWP.condF rfl ?_; refine LWP.skip ?_; refine LWP.seq <| LWP.seq <| LWP.region (by kernel_rfl) <| kmv rfl <| kmv rfl <| kmv rfl <| K.invV [] (Lb true) [hpB 1000001 v L] (hL3) rfl (fun a w v h => run_methV (e := 66) ids_Less_m (by kernel_rfl) a w v h) rfl (by kernel_rfl) rfl rfl rfl rfl (by exact (And.intro ⟨_, rfl, (Box.ren_vals _ _ _ _)⟩ trivial)) (by exact (all_cons_true vals_inUse rfl)) rfl rfl rfl rfl (by exact (.box rfl (Box.ren_vals _ _ _ _) .nil)) .plain ?_; refine K.not rfl rfl .plain <| RunK.nil <| LWP.condF rfl ?_; refine LWP.skip ?_; refine LWP.seq <| LWP.region (by kernel_rfl) <| kmv rfl <| kmv rfl <| kmv rfl <| K.invV [] (.tup []) [hpB 1000001 (swapV v n (2 * n + 1)) L] (hSw) rfl (fun a w v h => run_methV (e := 66) ids_Swap_m (by kernel_rfl) a w v h) rfl (by kernel_rfl) rfl rfl rfl rfl (by exact (And.intro ⟨_, rfl, (Box.ren_vals _ _ _ _)⟩ trivial)) (by exact (all_cons_true vals_inUse rfl)) rfl rfl rfl rfl (by exact (.box rfl (Box.ren_vals _ _ _ _) .nil)) .plain ?_; refine RunK.nil <| LWP.region (by kernel_rfl) <| kmv rfl <| kas rfl <| RunK.nil ?_)
      exact ⟨_, _, (by omega : m - (2 * n + 1) < m - n), Le.of (by exact ⟨rfl, rfl, rfl, rfl, trivial⟩) (by exact ⟨rfl, rfl, rfl, trivial⟩) (by exact rfl) (by exact rfl) (by repeat' (first | refine all_cons_true ?_ ?_ | rfl | exact bytes_inUse | exact vals_inUse | exact mid_inUse rfl)), (2 * n + 1), f, swapV v n (2 * n + 1), rfl, by omega, by omega, hstep.1, hstep.2, rfl⟩
end Go.Proofs.Ytkdbkgfdggbhkaa
end
section
namespace Go.Proofs.Ytkdbkgfdggbhkaa
open Go Go.Lg
set_option maxRecDepth 100000
theorem idL_succ (v : Nat → Int) (n : Nat) : (idL v (n + 1)).map CV.val = (idL v n).map CV.val ++ [.val (.int .i64 (v n))] := by unfold idL; rw [listV_succ, List.map_append, List.map_append]; rfl
theorem listV_congr {α : Type} {v w : Nat → α} {m : Nat} (h : ∀ k, k < m → v k = w k) : listV v m = listV w m := List.map_congr_left fun k hk => h k (List.mem_range.1 hk)
theorem idL_add (v : Nat → Int) (L : Nat) (x : Int) : (idL v L).map CV.val ++ [.val (.int .i64 x)] = (idL (setV v L x) (L + 1)).map .val := by
  rw [idL_succ]
  unfold idL
  rw [listV_congr (v := setV v L x) (w := v) fun k hk => if_neg (by omega), show setV v L x L = x from if_pos rfl]
variable (X : Nat → Option Obj)
theorem iPush (g : Int) (N : Nat) (sv : List Value) (v : Nat → Int) (L : Nat) (x : Int) (hL : L < 1099511627776) :
    MSpec Try.prog X 58 [.sv (.one (.ptr 1000000 2)), (.sv (.one (.val (.iface 3 (.int .i64 x)))))] [(1000000, some ⟨68, [.val (.int .i64 g), .slc 1000002 0 N 2, .slc 1000001 0 L 1], false⟩), hpB 1000001 v L, (1000002, some ⟨70, sv.map .val, true⟩)] (.tup []) [(1000000, some ⟨68, [.val (.int .i64 g), .slc 1000002 0 N 2, .slc 1000003 0 (L + 1) 1], false⟩), hpB 1000003 (setV v L x) (L + 1), (1000002, some ⟨70, sv.map .val, true⟩), (1000001, none)] := by
  have hcl : ((idL v L).map CV.val).length = L * 1 := by rw [List.length_map, idL_len]; omega
  refine MSpec.intro Try.func58 rfl (by kernel_rfl) rfl rfl (by exact (by repeat' (first | refine all_cons_true ?_ ?_ | rfl | exact bytes_inUse | exact vals_inUse | exact mid_inUse rfl))) rfl rfl ?_
  intro C
  (refine LWP.draws mixed (by kernel_rfl) <| kmv rfl <| kmv rfl <| K.nilCheck rfl .plain <| kl1 rfl rfl rfl <| kmv rfl <| K.assertV rfl (by kernel_rfl) .plain ?_; refine K.buildSlc (zs := [.int .i64 0]) (sz := 1) (e := 3) (cs' := [.val (.int .i64 x)]) (by kernel_rfl) rfl rfl rfl rfl rfl rfl .plain <| K.appendSlc (by_ := 8) (e2 := 3) (l2 := [.val (.int .i64 x)]) (nl := L + 1) (nc := (idL (setV v L x) (L + 1)).map .val) rfl rfl hcl rfl rfl (Nat.le_refl _) rfl rfl (by kernel_rfl) (by kernel_rfl) (by omega) (by omega) rfl rfl (idL_add v L x) .plain <| K.nilCheck rfl .plain <| K.storeOne rfl rfl rfl rfl rfl (nl3 rfl rfl rfl rfl) .plain <| RunK.nil <| And.intro (by kernel_rfl) ?_)
  exact ⟨[(1000003, 11)], ⟨[], trivial, rfl⟩, (by repeat' (first | exact trivial | refine And.intro ⟨_, rfl, ?_⟩ ?_ | refine And.intro ⟨_, rfl⟩ ?_ | rfl | exact Box.ren_bytes _ _ _ _ | exact Box.ren_vals _ _ _ _ | exact Box.ren_mid rfl)), rfl, rfl⟩
theorem iPop (g : Int) (N : Nat) (sv : List Value) (v : Nat → Int) (n : Nat) (hL : n < 1099511627776) :
    MSpec Try.prog X 57 [.sv (.one (.ptr 1000000 2))] [(1000000, some ⟨68, [.val (.int .i64 g), .slc 1000002 0 N 2, .slc 1000001 0 (n + 1) 1], false⟩), hpB 1000001 v (n + 1), (1000002, some ⟨70, sv.map .val, true⟩)] (.sv (.one (.val (.iface 3 (.int .i64 (v n)))))) [(1000000, some ⟨68, [.val (.int .i64 g), .slc 1000002 0 N 2, .slc 1000001 0 n 1], false⟩), hpB 1000001 v n, (1000002, some ⟨70, sv.map .val, true⟩)] := by
  have hix : 0 + Int.toNat (n : Int) * 1 = n := by simp
  have hsub : IntKind.i64.wrap (((n + 1 : Nat) : Int) - 1) = ((n : Nat) : Int) := by rw [wrap_i64 (by omega)]; omega
  refine MSpec.intro Try.func57 rfl (by kernel_rfl) rfl rfl (by exact (by repeat' (first | refine all_cons_true ?_ ?_ | rfl | exact bytes_inUse | exact vals_inUse | exact mid_inUse rfl))) rfl rfl ?_
  intro C
  (refine LWP.seq <| LWP.region (by kernel_rfl) <| kas rfl <| RunK.nil <| LWP.seq <| LWP.region (by kernel_rfl) <| kmv rfl <| K.nilCheck rfl .plain <| kl1 rfl rfl rfl <| K.lenSlc rfl SliceT.h rfl .plain ?_; refine K.sub rfl rfl hsub .plain <| kas rfl <| RunK.nil <| LWP.seq <| LWP.region (by kernel_rfl) <| kmv rfl <| K.nilCheck rfl .plain <| kl1 rfl rfl rfl <| kmv rfl <| K.indexSlc rfl rfl (by omega) hix .plain ?_; refine kl1 rfl rfl (idL_at v (by omega)) <| kas rfl <| RunK.nil <| LWP.seq <| LWP.region (by kernel_rfl) <| kmv rfl <| kmv rfl <| K.nilCheck rfl .plain <| kl1 rfl rfl rfl <| kmv rfl <| K.cutSlc rfl rfl SliceT.h (by omega) .plain <| K.nilCheck rfl .plain <| K.storeOne rfl rfl rfl rfl rfl (nl3 rfl rfl rfl rfl) .plain <| RunK.nil ?_; refine LWP.seq ?_)
  refine LWP.le (σ' := ⟨[(4, Ln .i64 (v n))], [(1000001, some ⟨3, (idL v (n + 1)).map CV.val, true⟩), (1000000, some ⟨68, [.val (.int .i64 g), .slc 1000002 0 N 2, .slc 1000001 0 n 1], false⟩), (1000002, some ⟨70, sv.map .val, true⟩)], X⟩) (Le.of (by exact ⟨rfl, trivial⟩) (by exact ⟨rfl, rfl, rfl, trivial⟩) (by exact rfl) (by exact rfl) (by repeat' (first | refine all_cons_true ?_ ?_ | rfl | exact bytes_inUse | exact vals_inUse | exact mid_inUse rfl))) ?_
  rw [idL_succ v n]
  refine LWP.le Le.trim ?_
  (refine LWP.region (by kernel_rfl) <| kmv rfl <| K.mkIface rfl (by kernel_rfl) .plain ?_; refine kas rfl <| RunK.nil <| LWP.ret ?_)
  exact ⟨[], ⟨[_], ⟨rfl, trivial⟩, rfl⟩, (by repeat' (first | exact trivial | refine And.intro ⟨_, rfl, ?_⟩ ?_ | refine And.intro ⟨_, rfl⟩ ?_ | rfl | exact Box.ren_bytes _ _ _ _ | exact Box.ren_vals _ _ _ _ | exact Box.ren_mid rfl)), rfl, rfl⟩
theorem hPush (g : Int) (N : Nat) (sv : List Value) (v : Nat → Int) (L : Nat) (x : Int) (hL : L < 1099511627776) :
    MSpec Try.prog X 31 [.sv (.one (ifcP 72 1000000 2)), (.sv (.one (.val (.iface 3 (.int .i64 x)))))] [(1000000, some ⟨68, [.val (.int .i64 g), .slc 1000002 0 N 2, .slc 1000001 0 L 1], false⟩), hpB 1000001 v L, (1000002, some ⟨70, sv.map .val, true⟩)] (.tup []) [(1000000, some ⟨68, [.val (.int .i64 g), .slc 1000002 0 N 2, .slc 1000003 0 (L + 1) 1], false⟩), hpB 1000003 (upF ilt L (setV v L x) L) (L + 1), (1000002, some ⟨70, sv.map .val, true⟩), (1000001, none)] := by
  have hsub : IntKind.i64.wrap (((L + 1 : Nat) : Int) - 1) = ((L : Nat) : Int) := by rw [wrap_i64 (by omega)]; omega
  have hU := hUp X g N (L + 1) sv (setV v L x) L (by omega) (by omega)
  have hP := iPush X g N sv v L x hL
  have hN := iLen X (setV v L x) (L + 1)
  generalize upF ilt L (setV v L x) L = w at *
  generalize (setV v L x) = v2 at *
  refine MSpec.intro Try.func31 rfl (by kernel_rfl) rfl rfl (by exact (by repeat' (first | refine all_cons_true ?_ ?_ | rfl | exact bytes_inUse | exact vals_inUse | exact mid_inUse rfl))) rfl rfl ?_
  intro C
  (refine LWP.seq <| LWP.region (by kernel_rfl) <| kmv rfl <| kmv rfl <| K.invP [(1000003, 501)] (.tup []) [(1000000, some ⟨68, [.val (.int .i64 g), .slc 1000002 0 N 2, .slc 501 0 (L + 1) 1], false⟩), hpB 501 v2 (L + 1), (1000002, some ⟨70, sv.map .val, true⟩), (1000001, none)] (hP) rfl (fun a w => run_methP (e := 66) ids_Push_m (by kernel_rfl) a w) rfl rfl rfl (by exact (And.intro ⟨_, rfl, rfl⟩ (And.intro ⟨_, rfl, (Box.ren_vals _ _ _ _)⟩ (And.intro ⟨_, rfl, (Box.ren_vals _ _ _ _)⟩ trivial)))) (by exact (all_cons_true (all_cons_true rfl (all_cons_true rfl (all_cons_true rfl rfl))) (all_cons_true vals_inUse (all_cons_true vals_inUse rfl)))) rfl rfl rfl rfl (by exact (.box rfl rfl (.box rfl (Box.ren_vals _ _ _ _) (.box rfl (Box.ren_vals _ _ _ _) (.dead rfl .nil))))) .plain ?_; refine RunK.nil <| LWP.region (by kernel_rfl) <| kmv rfl <| kmv rfl <| K.invV [(1000001, 501)] (Ln .i64 (L + 1 : Nat)) [hpB 501 v2 (L + 1)] (hN) rfl (fun a w v h => run_methV (e := 66) ids_Len_m (by kernel_rfl) a w v h) rfl (by kernel_rfl) rfl rfl rfl rfl (by exact (And.intro ⟨_, rfl, (Box.ren_vals _ _ _ _)⟩ trivial)) (by exact (all_cons_true vals_inUse rfl)) rfl rfl rfl rfl (by exact (.box rfl (Box.ren_vals _ _ _ _) .nil)) .plain ?_; refine K.sub rfl rfl hsub .plain <| K.callMp [(1000001, 501)] (.tup []) [(1000000, some ⟨68, [.val (.int .i64 g), .slc 1000002 0 N 2, .slc 501 0 (L + 1) 1], false⟩), hpB 501 w (L + 1), (1000002, some ⟨70, sv.map .val, true⟩)] (hU) rfl rfl (by exact (And.intro ⟨_, rfl, rfl⟩ (And.intro ⟨_, rfl, (Box.ren_vals _ _ _ _)⟩ (And.intro ⟨_, rfl, (Box.ren_vals _ _ _ _)⟩ trivial)))) (by exact (all_cons_true (all_cons_true rfl (all_cons_true rfl (all_cons_true rfl rfl))) (all_cons_true vals_inUse (all_cons_true vals_inUse rfl)))) rfl rfl rfl rfl (by exact (.box rfl rfl (.box rfl (Box.ren_vals _ _ _ _) (.box rfl (Box.ren_vals _ _ _ _) .nil)))) .plain <| RunK.nil ?_)
  exact ⟨[(1000003, 501)], ⟨[], trivial, rfl⟩, (by repeat' (first | exact trivial | refine And.intro ⟨_, rfl, ?_⟩ ?_ | refine And.intro ⟨_, rfl⟩ ?_ | rfl | exact Box.ren_bytes _ _ _ _ | exact Box.ren_vals _ _ _ _ | exact Box.ren_mid rfl)), rfl, rfl⟩
def popF (v : Nat → Int) (n : Nat) : Nat → Int := downF ilt n n (swapV v 0 n) 0
theorem hPop (g : Int) (N : Nat) (sv : List Value) (v : Nat → Int) (n : Nat) (hL : n < 1099511627776) :
    MSpec Try.prog X 30 [.sv (.one (ifcP 72 1000000 2))] [(1000000, some ⟨68, [.val (.int .i64 g), .slc 1000002 0 N 2, .slc 1000001 0 (n + 1) 1], false⟩), hpB 1000001 v (n + 1), (1000002, some ⟨70, sv.map .val, true⟩)] (.sv (.one (.val (.iface 3 (.int .i64 (popF v n n)))))) [(1000000, some ⟨68, [.val (.int .i64 g), .slc 1000002 0 N 2, .slc 1000001 0 n 1], false⟩), hpB 1000001 (popF v n) n, (1000002, some ⟨70, sv.map .val, true⟩)] := by
  have hsub : IntKind.i64.wrap (((n + 1 : Nat) : Int) - 1) = ((n : Nat) : Int) := by rw [wrap_i64 (by omega)]; omega
  have hD := hDown X g N (n + 1) sv (swapV v 0 n) 0 n (by omega) (by omega) (by omega)
  have hN := iLen X v (n + 1)
  have hS := iSwap X v (n + 1) 0 n (by omega) (by omega)
  have hP := iPop X g N sv (popF v n) n hL
  rw [show downF ilt n n (swapV v 0 n) 0 = popF v n from rfl] at hD
  generalize popF v n = w at *
  generalize swapV v 0 n = v2 at *
  generalize decide ((downE ilt n n v2 0 : Nat) > ((0 : Nat) : Int)) = bb at *
  refine MSpec.intro Try.func30 rfl (by kernel_rfl) rfl rfl (by exact (by repeat' (first | refine all_cons_true ?_ ?_ | rfl | exact bytes_inUse | exact vals_inUse | exact mid_inUse rfl))) rfl rfl ?_
  intro C
  (refine LWP.seq <| LWP.region (by kernel_rfl) <| kas rfl <| RunK.nil <| LWP.seq <| LWP.region (by kernel_rfl) <| kmv rfl <| K.invV [] (Ln .i64 (n + 1 : Nat)) [hpB 1000001 v (n + 1)] (hN) rfl (fun a w v h => run_methV (e := 66) ids_Len_m (by kernel_rfl) a w v h) rfl (by kernel_rfl) rfl rfl rfl rfl (by exact (And.intro ⟨_, rfl, (Box.ren_vals _ _ _ _)⟩ trivial)) (by exact (all_cons_true vals_inUse rfl)) rfl rfl rfl rfl (by exact (.box rfl (Box.ren_vals _ _ _ _) .nil)) .plain ?_; refine K.sub rfl rfl hsub .plain <| kas rfl <| RunK.nil <| LWP.seq <| LWP.region (by kernel_rfl) <| kmv rfl <| kmv rfl <| K.invV [] (.tup []) [hpB 1000001 v2 (n + 1)] (hS) rfl (fun a w v h => run_methV (e := 66) ids_Swap_m (by kernel_rfl) a w v h) rfl (by kernel_rfl) rfl rfl rfl rfl (by exact (And.intro ⟨_, rfl, (Box.ren_vals _ _ _ _)⟩ trivial)) (by exact (all_cons_true vals_inUse rfl)) rfl rfl rfl rfl (by exact (.box rfl (Box.ren_vals _ _ _ _) .nil)) .plain ?_; refine RunK.nil <| LWP.seq <| LWP.region (by kernel_rfl) <| kmv rfl <| kmv rfl <| K.callMp [] (Lb bb) [(1000000, some ⟨68, [.val (.int .i64 g), .slc 1000002 0 N 2, .slc 1000001 0 (n + 1) 1], false⟩), hpB 1000001 w (n + 1), (1000002, some ⟨70, sv.map .val, true⟩)] (hD) rfl rfl (by exact (And.intro ⟨_, rfl, rfl⟩ (And.intro ⟨_, rfl, (Box.ren_vals _ _ _ _)⟩ (And.intro ⟨_, rfl, (Box.ren_vals _ _ _ _)⟩ trivial)))) (by exact (all_cons_true (all_cons_true rfl (all_cons_true rfl (all_cons_true rfl rfl))) (all_cons_true vals_inUse (all_cons_true vals_inUse rfl)))) rfl rfl rfl rfl (by exact (.box rfl rfl (.box rfl (Box.ren_vals _ _ _ _) (.box rfl (Box.ren_vals _ _ _ _) .nil)))) .plain <| RunK.nil <| LWP.seq <| LWP.region (by kernel_rfl) <| kmv rfl <| K.invP [] (.sv (.one (.val (.iface 3 (.int .i64 (w n)))))) [(1000000, some ⟨68, [.val (.int .i64 g), .slc 1000002 0 N 2, .slc 1000001 0 n 1], false⟩), hpB 1000001 w n, (1000002, some ⟨70, sv.map .val, true⟩)] (hP) rfl (fun a w => run_methP (e := 66) ids_Pop_m (by kernel_rfl) a w) rfl rfl rfl (by exact (And.intro ⟨_, rfl, rfl⟩ (And.intro ⟨_, rfl, (Box.ren_vals _ _ _ _)⟩ (And.intro ⟨_, rfl, (Box.ren_vals _ _ _ _)⟩ trivial)))) (by exact (all_cons_true (all_cons_true rfl (all_cons_true rfl (all_cons_true rfl rfl))) (all_cons_true vals_inUse (all_cons_true vals_inUse rfl)))) rfl rfl rfl rfl (by exact (.box rfl rfl (.box rfl (Box.ren_vals _ _ _ _) (.box rfl (Box.ren_vals _ _ _ _) .nil)))) .plain ?_; refine kas rfl <| RunK.nil <| LWP.ret ?_)
  exact ⟨[], ⟨[_], ⟨rfl, trivial⟩, rfl⟩, (by repeat' (first | exact trivial | refine And.intro ⟨_, rfl, ?_⟩ ?_ | refine And.intro ⟨_, rfl⟩ ?_ | rfl | exact Box.ren_bytes _ _ _ _ | exact Box.ren_vals _ _ _ _ | exact Box.ren_mid rfl)), rfl, rfl⟩
end Go.Proofs.Ytkdbkgfdggbhkaa
end
section
namespace Go.Proofs.Ytkdbkgfdggbhkaa
open Go
abbrev Ei := Nat × Nat
def freeE (x : Ei) : Bool := x.2 == 0
def livE (x : Ei) : Bool := x.2 == 1
def givE (x : Ei) : Nat := x.1 - 1 + if x.2 = 0 then 0 else 1
def killE (g : Nat) (x : Ei) : Ei := if x.1 = g then (x.1, 2) else (x.1 + 1, 0)
def newE (n : Nat) : List Ei := List.replicate n (1, 0)
def hdl (i gen : Nat) : Nat := gen * 4294967296 + i
def nextE (l : List Ei) : Option Nat := l.findIdx? freeE
def liveFrom : Nat → List Ei → List Nat
  | _, [] => []
  | k, x :: t => (if livE x = true then [hdl (k + 1) x.1] else []) ++ liveFrom (k + 1) t
def cntE (l : List Ei) : Nat := l.countP livE
def freE (l : List Ei) : Nat := l.countP freeE
def givS (l : List Ei) : Nat := (l.map givE).sum
def okE (g : Nat) (l : List Ei) : Prop := ∀ x ∈ l, (1 ≤ x.1 ∧ x.1 ≤ g) ∧ x.2 ≤ 2 ∧ (x.2 = 2 → x.1 = g)
def whoE (l : List Ei) (id : Nat) : Option Ei := if id = 0 then none else l[id - 1]?
def aliveP (l : List Ei) (id gen : Nat) : Bool := match whoE l id with | some x => livE x && x.1 == gen | none => false
def givP (l : List Ei) (id gen : Nat) : Bool := match whoE l id with | some x => decide (1 ≤ gen) && (decide (gen < x.1) || (x.1 == gen && !freeE x)) | none => false
def aliveB (l : List Ei) (h : Nat) : Bool := aliveP l (h % 4294967296) (h / 4294967296)
def givB (l : List Ei) (h : Nat) : Bool := givP l (h % 4294967296) (h / 4294967296)
theorem countP_set' {p : Ei → Bool} : ∀ {l : List Ei} {i : Nat} {x : Ei} (y : Ei), l[i]? = some x → (l.set i y).countP p + (if p x = true then 1 else 0) = l.countP p + if p y = true then 1 else 0
  | a :: l, 0, x, y, h => by
    simp only [List.getElem?_cons_zero, Option.some.injEq] at h
    subst h
    rw [List.set_cons_zero, List.countP_cons, List.countP_cons]
    omega
  | a :: l, i + 1, x, y, h => by
    simp only [List.getElem?_cons_succ] at h
    have := countP_set' (p := p) y h
    rw [List.set_cons_succ, List.countP_cons, List.countP_cons]
    omega
  | [], _, _, _, h => by simp at h
theorem sum_set' {f : Ei → Nat} : ∀ {l : List Ei} {i : Nat} {x : Ei} (y : Ei), l[i]? = some x → ((l.set i y).map f).sum + f x = (l.map f).sum + f y
  | a :: l, 0, x, y, h => by
    simp only [List.getElem?_cons_zero, Option.some.injEq] at h
    subst h
    rw [List.set_cons_zero, List.map_cons, List.map_cons, List.sum_cons, List.sum_cons]
    omega
  | a :: l, i + 1, x, y, h => by
    simp only [List.getElem?_cons_succ] at h
    have := sum_set' (f := f) y h
    rw [List.set_cons_succ, List.map_cons, List.map_cons, List.sum_cons, List.sum_cons]
    omega
  | [], _, _, _, h => by simp at h
theorem okE_new {g : Nat} (n : Nat) (hg : 1 ≤ g) : okE g (newE n) := fun x hx => by
  rw [(List.mem_replicate.1 hx).2]
  exact ⟨⟨by decide, hg⟩, by decide, fun h => by cases h⟩
theorem okE_set {g : Nat} {l : List Ei} (h : okE g l) {y : Ei} (hy : (1 ≤ y.1 ∧ y.1 ≤ g) ∧ y.2 ≤ 2 ∧ (y.2 = 2 → y.1 = g)) (i : Nat) : okE g (l.set i y) := fun x hx => by
  rcases List.mem_or_eq_of_mem_set hx with h1 | rfl
  · exact h x h1
  · exact hy
theorem okE_spawn {g : Nat} {l : List Ei} (h : okE g l) {i : Nat} {x : Ei} (hx : l[i]? = some x) : okE g (l.set i (x.1, 1)) := okE_set (y := (x.1, 1)) h ⟨(h x (List.mem_of_getElem? hx)).1, by show 1 ≤ 2; decide, fun e => by cases e⟩ i
theorem okE_kill {g : Nat} {l : List Ei} (h : okE g l) {i : Nat} {x : Ei} (hx : l[i]? = some x) : okE g (l.set i (killE g x)) := okE_set h (by
  have := (h x (List.mem_of_getElem? hx)).1
  unfold killE
  split
  · rename_i e; exact ⟨this, by show 2 ≤ 2; decide, fun _ => e⟩
  · exact ⟨⟨by show 1 ≤ x.1 + 1; omega, by show x.1 + 1 ≤ g; omega⟩, by show 0 ≤ 2; decide, fun e => by cases e⟩) i
theorem spawn_counts {l : List Ei} {i gen : Nat} (hx : l[i]? = some (gen, 0)) : givS (l.set i (gen, 1)) = givS l + 1 ∧ cntE (l.set i (gen, 1)) = cntE l + 1 ∧ freE (l.set i (gen, 1)) + 1 = freE l := by
  have h1 := sum_set' (f := givE) (gen, 1) hx
  have h2 := countP_set' (p := livE) (gen, 1) hx
  have h3 := countP_set' (p := freeE) (gen, 1) hx
  unfold givS cntE freE
  have g1 : givE (gen, 1) = gen - 1 + 1 := rfl
  have g0 : givE (gen, 0) = gen - 1 := rfl
  rw [g1, g0] at h1
  rw [if_pos (show livE (gen, 1) = true from rfl), if_neg (show ¬ livE (gen, 0) = true from fun h => by cases h)] at h2
  rw [if_neg (show ¬ freeE (gen, 1) = true from fun h => by cases h), if_pos (show freeE (gen, 0) = true from rfl)] at h3
  refine ⟨by omega, by omega, by omega⟩
theorem kill_liv (g gen : Nat) : livE (killE g (gen, 1)) = false := by
  unfold killE
  split <;> rfl
theorem kill_counts {g : Nat} {l : List Ei} {i gen : Nat} (hx : l[i]? = some (gen, 1)) (hg : 1 ≤ gen) : givS (l.set i (killE g (gen, 1))) = givS l ∧ cntE (l.set i (killE g (gen, 1))) + 1 = cntE l := by
  have h1 := sum_set' (f := givE) (killE g (gen, 1)) hx
  have h2 := countP_set' (p := livE) (killE g (gen, 1)) hx
  unfold givS cntE
  have g1 : givE (gen, 1) = gen - 1 + 1 := rfl
  rw [g1] at h1
  rw [if_pos (show livE (gen, 1) = true from rfl)] at h2
  have k1 : givE (killE g (gen, 1)) = gen := by
    unfold killE
    by_cases e : gen = g
    · rw [if_pos (show (gen, 1).1 = g from e)]; show gen - 1 + 1 = gen; omega
    · rw [if_neg (show ¬ (gen, 1).1 = g from e)]; show gen + 1 - 1 + 0 = gen; omega
  have k2 : livE (killE g (gen, 1)) = false := by
    unfold killE
    by_cases e : gen = g
    · rw [if_pos (show (gen, 1).1 = g from e)]; rfl
    · rw [if_neg (show ¬ (gen, 1).1 = g from e)]; rfl
  rw [k2, if_neg (by decide)] at h2
  rw [k1] at h1
  omega
theorem giv_le {g : Nat} : ∀ {l : List Ei}, okE g l → givS l ≤ l.length * g
  | [], _ => Nat.zero_le _
  | x :: t, h => by
    have := giv_le (l := t) fun y hy => h y (List.mem_cons_of_mem _ hy)
    have h1 := (h x List.mem_cons_self).1
    have h2 : givE x ≤ g := by unfold givE; split <;> omega
    unfold givS at *
    rw [List.map_cons, List.sum_cons, List.length_cons, Nat.succ_mul]
    omega
theorem giv_all {g : Nat} : ∀ {l : List Ei}, okE g l → freE l = 0 → cntE l = 0 → givS l = l.length * g
  | [], _, _, _ => by show 0 = 0 * g; omega
  | x :: t, h, hf, hc => by
    unfold freE at hf
    unfold cntE at hc
    rw [List.countP_cons] at hf hc
    have := giv_all (l := t) (fun y hy => h y (List.mem_cons_of_mem _ hy)) (by unfold freE; omega) (by unfold cntE; omega)
    obtain ⟨h1, h2, h3⟩ := h x List.mem_cons_self
    have f1 : x.2 ≠ 0 := fun e => by simp [freeE, e] at hf
    have f2 : x.2 ≠ 1 := fun e => by simp [livE, e] at hc
    have f3 := h3 (by omega)
    have h4 : givE x = g := by unfold givE; rw [if_neg f1]; omega
    unfold givS at *
    rw [List.map_cons, List.sum_cons, List.length_cons, Nat.succ_mul]
    omega
theorem hdl_id {i gen : Nat} (h : i < 4294967296) : hdl i gen % 4294967296 = i := by unfold hdl; omega
theorem hdl_gen {i gen : Nat} (h : i < 4294967296) : hdl i gen / 4294967296 = gen := by unfold hdl; omega
theorem hdl_eta (h : Nat) : hdl (h % 4294967296) (h / 4294967296) = h := by unfold hdl; omega
theorem aliveB_hdl {l : List Ei} {i gen : Nat} (h : i < 4294967296) : aliveB l (hdl i gen) = aliveP l i gen := by
  have e1 := hdl_id (gen := gen) h
  have e2 := hdl_gen (gen := gen) h
  show aliveP l (hdl i gen % 4294967296) (hdl i gen / 4294967296) = _
  generalize hdl i gen % 4294967296 = p at *
  generalize hdl i gen / 4294967296 = q at *
  rw [e1, e2]
theorem givB_hdl {l : List Ei} {i gen : Nat} (h : i < 4294967296) : givB l (hdl i gen) = givP l i gen := by
  have e1 := hdl_id (gen := gen) h
  have e2 := hdl_gen (gen := gen) h
  show givP l (hdl i gen % 4294967296) (hdl i gen / 4294967296) = _
  generalize hdl i gen % 4294967296 = p at *
  generalize hdl i gen / 4294967296 = q at *
  rw [e1, e2]
theorem hdl_eq {h i gen : Nat} (hi : i < 4294967296) : (h == hdl i gen) = (h % 4294967296 == i && h / 4294967296 == gen) := by
  rw [Bool.eq_iff_iff, beq_iff_eq, Bool.and_eq_true, beq_iff_eq, beq_iff_eq]
  constructor
  · rintro rfl; exact ⟨hdl_id hi, hdl_gen hi⟩
  · rintro ⟨rfl, rfl⟩; exact (hdl_eta h).symm
theorem who_suc {l : List Ei} {i : Nat} : whoE l (i + 1) = l[i]? := by
  unfold whoE
  rw [if_neg (Nat.succ_ne_zero i), Nat.add_sub_cancel]
theorem who_set {l : List Ei} {i : Nat} {x y : Ei} (hx : l[i]? = some x) (id : Nat) : whoE (l.set i y) id = if id = i + 1 then some y else whoE l id := by
  unfold whoE
  have hi := (List.getElem?_eq_some_iff.1 hx).1
  by_cases h0 : id = 0
  · rw [if_pos h0, if_neg (by omega), if_pos h0]
  · rw [if_neg h0, if_neg h0]
    by_cases h1 : id = i + 1
    · rw [if_pos h1, h1, Nat.add_sub_cancel, List.getElem?_set_self hi]
    · rw [if_neg h1, List.getElem?_set_ne (by omega)]
theorem newP_never {l : List Ei} {i gen : Nat} (hx : l[i]? = some (gen, 0)) : givP l (i + 1) gen = false := by
  unfold givP
  rw [who_suc, hx]
  simp [freeE]
theorem givP_spawn {l : List Ei} {i gen : Nat} (hx : l[i]? = some (gen, 0)) (hg : 1 ≤ gen) (id q : Nat) : givP (l.set i (gen, 1)) id q = (givP l id q || (id == i + 1 && q == gen)) := by
  unfold givP
  rw [who_set hx]
  by_cases e : id = i + 1
  · subst e
    rw [if_pos rfl, who_suc, hx]
    simp only [freeE]
    by_cases e3 : gen = q
    · subst e3; simp [hg]
    · have : q ≠ gen := fun h => e3 h.symm
      rw [beq_eq_false_iff_ne.2 e3, beq_eq_false_iff_ne.2 this]
      simp
  · rw [if_neg e, beq_eq_false_iff_ne.2 e, Bool.false_and, Bool.or_false]
theorem givP_kill {g : Nat} {l : List Ei} {i gen : Nat} (hx : l[i]? = some (gen, 1)) (id q : Nat) : givP (l.set i (killE g (gen, 1))) id q = givP l id q := by
  unfold givP
  rw [who_set hx]
  by_cases e : id = i + 1
  · subst e
    rw [if_pos rfl, who_suc, hx]
    unfold killE
    by_cases e2 : gen = g
    · rw [if_pos (show (gen, 1).1 = g from e2)]; rfl
    · rw [if_neg (show ¬ (gen, 1).1 = g from e2), Bool.eq_iff_iff]
      simp [freeE]
      omega
  · rw [if_neg e]
theorem deadP_spawn {l : List Ei} {i gen : Nat} (hx : l[i]? = some (gen, 0)) {id q : Nat} (hg : givP l id q = true) (ha : aliveP l id q = false) : aliveP (l.set i (gen, 1)) id q = false := by
  unfold aliveP at *
  rw [who_set hx]
  by_cases e : id = i + 1
  · subst e
    rw [if_pos rfl]
    show (livE (gen, 1) && (gen == q)) = false
    cases e2 : (gen == q) with
    | false => rfl
    | true =>
      have e2 := beq_iff_eq.1 e2
      subst e2
      rw [newP_never hx] at hg
      cases hg
  · rw [if_neg e]; exact ha
theorem deadP_kill {g : Nat} {l : List Ei} {i gen : Nat} (hx : l[i]? = some (gen, 1)) {id q : Nat} (ha : aliveP l id q = false) : aliveP (l.set i (killE g (gen, 1))) id q = false := by
  unfold aliveP at *
  rw [who_set hx]
  by_cases e : id = i + 1
  · rw [if_pos e]
    show (livE (killE g (gen, 1)) && _) = false
    rw [kill_liv, Bool.false_and]
  · rw [if_neg e]; exact ha
theorem endsP {g : Nat} {l : List Ei} {i gen : Nat} (hx : l[i]? = some (gen, 1)) : aliveP (l.set i (killE g (gen, 1))) (i + 1) gen = false := by
  unfold aliveP
  rw [who_set hx, if_pos rfl]
  show (livE (killE g (gen, 1)) && _) = false
  rw [kill_liv, Bool.false_and]
theorem livesP {l : List Ei} {i gen : Nat} (hx : l[i]? = some (gen, 0)) : aliveP (l.set i (gen, 1)) (i + 1) gen = true := by
  unfold aliveP
  rw [who_set hx, if_pos rfl]
  simp [livE]
theorem alivePgiven {l : List Ei} {id q : Nat} (ha : aliveP l id q = true) (hg : ∀ x ∈ l, 1 ≤ x.1) : givP l id q = true := by
  unfold aliveP givP at *
  cases hw : whoE l id with
  | none => rw [hw] at ha; cases ha
  | some x =>
    rw [hw] at ha
    simp only [Bool.and_eq_true] at ha ⊢
    have hm : x ∈ l := by
      unfold whoE at hw
      split at hw
      · cases hw
      · exact List.mem_of_getElem? hw
    have h1 := hg x hm
    have h2 := beq_iff_eq.1 ha.2
    have h3 := ha.1
    subst h2
    simp only [livE, beq_iff_eq] at h3
    simp [freeE, h3, h1]
theorem new_never {l : List Ei} {i gen : Nat} (hx : l[i]? = some (gen, 0)) (h : i + 1 < 4294967296) : givB l (hdl (i + 1) gen) = false := (givB_hdl h).trans (newP_never hx)
theorem giv_spawn {l : List Ei} {i gen : Nat} (hx : l[i]? = some (gen, 0)) (hg : 1 ≤ gen) (hi : i + 1 < 4294967296) (h : Nat) : givB (l.set i (gen, 1)) h = (givB l h || (h == hdl (i + 1) gen)) := by
  rw [hdl_eq hi]
  exact givP_spawn hx hg _ _
theorem giv_kill {g : Nat} {l : List Ei} {i gen : Nat} (hx : l[i]? = some (gen, 1)) (h : Nat) : givB (l.set i (killE g (gen, 1))) h = givB l h := givP_kill hx _ _
theorem dead_spawn {l : List Ei} {i gen : Nat} (hx : l[i]? = some (gen, 0)) {h : Nat} (hg : givB l h = true) (ha : aliveB l h = false) : aliveB (l.set i (gen, 1)) h = false := deadP_spawn hx hg ha
theorem dead_kill {g : Nat} {l : List Ei} {i gen : Nat} (hx : l[i]? = some (gen, 1)) {h : Nat} (ha : aliveB l h = false) : aliveB (l.set i (killE g (gen, 1))) h = false := deadP_kill hx ha
theorem ends {g : Nat} {l : List Ei} {i gen : Nat} (hx : l[i]? = some (gen, 1)) (hi : i + 1 < 4294967296) : aliveB (l.set i (killE g (gen, 1))) (hdl (i + 1) gen) = false := (aliveB_hdl hi).trans (endsP hx)
theorem lives {l : List Ei} {i gen : Nat} (hx : l[i]? = some (gen, 0)) (hi : i + 1 < 4294967296) : aliveB (l.set i (gen, 1)) (hdl (i + 1) gen) = true := (aliveB_hdl hi).trans (livesP hx)
theorem alive_given {l : List Ei} {h : Nat} (ha : aliveB l h = true) (hg : ∀ x ∈ l, 1 ≤ x.1) : givB l h = true := alivePgiven ha hg
end Go.Proofs.Ytkdbkgfdggbhkaa
end
section
namespace Go.Lg
open Go
section
variable {α : Type} {f : α → List Value} (hf : ∀ x, (f x).length = 3)
include hf
theorem fl3_len : ∀ l : List α, ((l.map f).flatten).length = l.length * 3
  | [] => rfl
  | a :: t => by
    rw [List.map_cons, List.flatten_cons, List.length_append, hf, fl3_len t, List.length_cons]
    omega
theorem fl3_at {k : Nat} (hk : k < 3) : ∀ {l : List α} {i : Nat} {x : α}, l[i]? = some x → ((l.map f).flatten)[i * 3 + k]? = (f x)[k]?
  | a :: t, 0, x, h => by
    simp only [List.getElem?_cons_zero, Option.some.injEq] at h
    subst h
    rw [List.map_cons, List.flatten_cons, Nat.zero_mul, Nat.zero_add, List.getElem?_append_left (by rw [hf]; exact hk)]
  | a :: t, i + 1, x, h => by
    simp only [List.getElem?_cons_succ] at h
    rw [List.map_cons, List.flatten_cons, List.getElem?_append_right (by rw [hf]; omega), hf, show (i + 1) * 3 + k - 3 = i * 3 + k by omega]
    exact fl3_at hk h
  | [], _, _, h => by simp at h
theorem fl3_set {k : Nat} (hk : k < 3) {v : Value} {y : α} : ∀ {l : List α} {i : Nat} {x : α}, l[i]? = some x → (f x).set k v = f y → ((l.map f).flatten).set (i * 3 + k) v = ((l.set i y).map f).flatten
  | a :: t, 0, x, h, e => by
    simp only [List.getElem?_cons_zero, Option.some.injEq] at h
    subst h
    rw [List.map_cons, List.flatten_cons, Nat.zero_mul, Nat.zero_add, List.set_append_left _ _ (by rw [hf]; exact hk), e, List.set_cons_zero, List.map_cons, List.flatten_cons]
  | a :: t, i + 1, x, h, e => by
    simp only [List.getElem?_cons_succ] at h
    rw [List.map_cons, List.flatten_cons, List.set_append_right _ _ (by rw [hf]; omega), hf, show (i + 1) * 3 + k - 3 = i * 3 + k by omega, fl3_set hk h e, List.set_cons_succ, List.map_cons, List.flatten_cons]
  | [], _, _, h, _ => by simp at h
end
theorem tk_snoc {α : Type} {l : List α} {i : Nat} {f : α} (h : l[i]? = some f) : l.take (i + 1) = l.take i ++ [f] := by
  rw [List.take_add_one, h]; rfl
end Go.Lg
namespace Go.Proofs.Ytkdbkgfdggbhkaa
open Go Go.Lg
def eiV (x : Ei) : List Value := [.int .i64 (x.1 : Nat), .bool (x.2 == 1), .bool (x.2 == 2)]
def fullE (l : List Ei) : List Ei := (0, 0) :: (l ++ List.replicate (256 - l.length) (0, 0))
def refV (g : Nat) (l : List Ei) : List Value := .int .i64 (g : Nat) :: (((fullE l).map eiV).flatten ++ [.int .i64 (l.length : Nat)])
theorem eiV_len (x : Ei) : (eiV x).length = 3 := rfl
theorem full_len {l : List Ei} (h : l.length ≤ 256) : (fullE l).length = 257 := by unfold fullE; rw [List.length_cons, List.length_append, List.length_replicate]; omega
theorem full_at {l : List Ei} {i : Nat} {x : Ei} (h : l[i]? = some x) : (fullE l)[i + 1]? = some x := by
  unfold fullE
  rw [List.getElem?_cons_succ, List.getElem?_append_left (List.getElem?_eq_some_iff.1 h).1]
  exact h
theorem full_set {l : List Ei} {i : Nat} (h : i < l.length) (y : Ei) : (fullE l).set (i + 1) y = fullE (l.set i y) := by
  unfold fullE
  rw [List.set_cons_succ, List.set_append_left _ _ h, List.length_set]
theorem refV_len {g : Nat} {l : List Ei} (h : l.length ≤ 256) : (refV g l).length = 773 := by
  unfold refV
  rw [List.length_cons, List.length_append, fl3_len eiV_len, full_len h]
  rfl
theorem refC_len {g : Nat} {l : List Ei} (h : l.length ≤ 256) : ((refV g l).map CV.val).length = 773 := by rw [List.length_map]; exact refV_len h
theorem ref_at {g : Nat} {l : List Ei} {i k : Nat} {x : Ei} (hk : k < 3) (h : l[i]? = some x) (h2 : l.length ≤ 256) : (refV g l)[1 + (i + 1) * 3 + k]? = (eiV x)[k]? := by
  unfold refV
  have hi := (List.getElem?_eq_some_iff.1 h).1
  rw [show 1 + (i + 1) * 3 + k = ((i + 1) * 3 + k) + 1 by omega, List.getElem?_cons_succ, List.getElem?_append_left (by rw [fl3_len eiV_len, full_len h2]; omega)]
  exact fl3_at eiV_len hk (full_at h)
theorem ref_gen {g : Nat} {l : List Ei} {i : Nat} {x : Ei} (h : l[i]? = some x) (h2 : l.length ≤ 256) : ((refV g l).map CV.val)[1 + (i + 1) * 3]? = some (.val (.int .i64 (x.1 : Nat))) := by
  rw [List.getElem?_map, show 1 + (i + 1) * 3 = 1 + (i + 1) * 3 + 0 from rfl, ref_at (by decide) h h2]; rfl
theorem ref_liv {g : Nat} {l : List Ei} {i : Nat} {x : Ei} (h : l[i]? = some x) (h2 : l.length ≤ 256) : ((refV g l).map CV.val)[1 + (i + 1) * 3 + 1]? = some (.val (.bool (x.2 == 1))) := by
  rw [List.getElem?_map, ref_at (by decide) h h2]; rfl
theorem ref_ret {g : Nat} {l : List Ei} {i : Nat} {x : Ei} (h : l[i]? = some x) (h2 : l.length ≤ 256) : ((refV g l).map CV.val)[1 + (i + 1) * 3 + 2]? = some (.val (.bool (x.2 == 2))) := by
  rw [List.getElem?_map, ref_at (by decide) h h2]; rfl
theorem ref_g (g : Nat) (l : List Ei) : ((refV g l).map CV.val)[0]? = some (.val (.int .i64 (g : Nat))) := rfl
theorem ref_n {g : Nat} {l : List Ei} (h : l.length ≤ 256) : ((refV g l).map CV.val)[772]? = some (.val (.int .i64 (l.length : Nat))) := by
  rw [List.getElem?_map]
  unfold refV
  rw [List.getElem?_cons_succ, List.getElem?_append_right (by rw [fl3_len eiV_len, full_len h]; decide), fl3_len eiV_len, full_len h]
  rfl
theorem ref_set {g : Nat} {l : List Ei} {i k : Nat} {x y : Ei} {v : Value} (hk : k < 3) (h : l[i]? = some x) (h2 : l.length ≤ 256) (e : (eiV x).set k v = eiV y) : ((refV g l).map CV.val).set (1 + (i + 1) * 3 + k) (.val v) = (refV g (l.set i y)).map CV.val := by
  have hi := (List.getElem?_eq_some_iff.1 h).1
  rw [← List.map_set]
  unfold refV
  rw [show 1 + (i + 1) * 3 + k = ((i + 1) * 3 + k) + 1 by omega, List.set_cons_succ, List.set_append_left _ _ (by rw [fl3_len eiV_len, full_len h2]; omega), fl3_set eiV_len hk (full_at h) e, full_set hi, List.length_set]
theorem refV_one (g : Nat) (l : List Ei) : (refV g l).all Value.oneCell' = true := by
  unfold refV
  rw [List.all_cons, List.all_append, List.all_flatten, List.all_map]
  have : (fullE l).all ((List.all · Value.oneCell') ∘ eiV) = true := List.all_eq_true.2 fun x _ => rfl
  rw [this]; rfl
theorem refC_solid (g : Nat) (l : List Ei) : ((refV g l).map CV.val).all CV.solid = true := vals_solid (refV_one g l)
def nxN (l : List Ei) : Nat := match nextE l with | some i => i + 1 | none => 0
theorem next_none {l : List Ei} (h : ∀ (j : Nat) (x : Ei), l[j]? = some x → freeE x = false) : nextE l = none := List.findIdx?_eq_none_iff.2 fun x hx => by
  obtain ⟨j, hj⟩ := List.mem_iff_getElem?.1 hx
  exact h j x hj
theorem next_some {l : List Ei} {i : Nat} {x : Ei} (hx : l[i]? = some x) (hf : freeE x = true) (h : ∀ (j : Nat) (y : Ei), j < i → l[j]? = some y → freeE y = false) : nextE l = some i := by
  obtain ⟨hi, e⟩ := List.getElem?_eq_some_iff.1 hx
  refine List.findIdx?_eq_some_iff_getElem.2 ⟨hi, by rw [e]; exact hf, fun j hj => ?_⟩
  have := h j _ hj (List.getElem?_eq_getElem (by omega))
  rw [this]; decide
theorem next_at {l : List Ei} {i : Nat} (h : nextE l = some i) : ∃ gen, l[i]? = some (gen, 0) ∧ ∀ (j : Nat) (y : Ei), j < i → l[j]? = some y → freeE y = false := by
  obtain ⟨hi, h1, h2⟩ := List.findIdx?_eq_some_iff_getElem.1 h
  refine ⟨l[i].1, ?_, fun j y hj hy => ?_⟩
  · rw [List.getElem?_eq_getElem hi]
    have := beq_iff_eq.1 h1
    rw [← this]
  · obtain ⟨hjl, rfl⟩ := List.getElem?_eq_some_iff.1 hy
    simpa using h2 j hj
end Go.Proofs.Ytkdbkgfdggbhkaa
end
section
namespace Go.Proofs.Ytkdbkgfdggbhkaa
open Go Go.Lg
set_option maxRecDepth 100000
abbrev rI (g : Nat) (l : List Ei) : LV := .sv (.agg ((refV g l).map .val))
abbrev rfB (k g : Nat) (l : List Ei) : Nat × Option Box := (k, some ⟨43, (refV g l).map .val, false⟩)
theorem vals_closed : ∀ l : List Value, (l.map CV.val).all CV.closed = true
  | [] => rfl
  | _ :: t => by rw [List.map_cons, List.all_cons, vals_closed t]; rfl
theorem rI_closed (g : Nat) (l : List Ei) : ([rI g l] : List LV).all LV.closed = true := by
  show (((refV g l).map CV.val).all CV.closed && true) = true
  rw [vals_closed]; rfl
theorem rI_closed2 (g : Nat) (l : List Ei) (h : Int) : ([rI g l, Ln .u64 h] : List LV).all LV.closed = true := by
  show (((refV g l).map CV.val).all CV.closed && true) = true
  rw [vals_closed]; rfl
def refZ : List Value := refV 0 []
instance : ZeroT Try.prog 43 (refZ.map .val) := ⟨by kernel_rfl⟩
theorem refZ_len : (refZ.map CV.val).length = 773 := refC_len (by decide)
theorem rfAgg {g : Nat} {l : List Ei} (h : l.length ≤ 256) : aggSize Try.prog 43 = some ((refV g l).map CV.val).length := by rw [refC_len h]; exact AggT.h
theorem rClosed2 (g : Nat) (l : List Ei) (s : SV) (h : s.closed = true) : (LV.tup [.agg ((refV g l).map .val), s]).closed = true := by
  show (((refV g l).map CV.val).all CV.closed && (s.closed && true)) = true
  rw [vals_closed, h]; rfl
variable (X : Nat → Option Obj)
theorem rHandle (i gen : Nat) (hi : i < 4294967296) (hg : gen < 4294967296) : PSpec Try.prog X 22 [Ln .i64 (i : Nat), Ln .i64 (gen : Nat)] (Ln .u64 (hdl i gen : Nat)) := by
  refine PSpec.intro Try.func22 rfl (by kernel_rfl) rfl rfl ?_
  intro C
  have h1 : IntKind.u64.wrap ((gen : Nat) : Int) = ((gen : Nat) : Int) := wrap_u64 (by omega)
  have h2 : IntKind.u64.wrap ((i : Nat) : Int) = ((i : Nat) : Int) := wrap_u64 (by omega)
  have h3 : IntKind.u64.wrap (((gen : Nat) : Int) * 4294967296) = ((gen * 4294967296 : Nat) : Int) := by rw [wrap_u64 (by omega)]; omega
  have h4 : IntKind.u64.wrap (((gen * 4294967296 : Nat) : Int) + ((i : Nat) : Int)) = ((hdl i gen : Nat) : Int) := by
    unfold hdl
    rw [wrap_u64 (by omega)]; omega
  (refine LWP.seq <| LWP.region (by kernel_rfl) <| kas rfl <| RunK.nil <| LWP.seq <| LWP.region (by kernel_rfl) <| kmv rfl <| kcv rfl h1 ?_; refine K.mul rfl rfl h3 .plain <| kmv rfl <| kcv rfl h2 ?_; refine kad rfl rfl h4 <| kas rfl <| RunK.nil <| LWP.ret ?_)
  exact ⟨[_], ⟨rfl, trivial⟩, rfl⟩
theorem rNext (g : Nat) (l : List Ei) (hl : l.length ≤ 256) (hs : ∀ x ∈ l, x.2 ≤ 2) : PSpec Try.prog X 21 [rI g l] (Ln .i64 (nxN l : Nat)) := by
  refine PSpec.intro Try.func21 rfl (by kernel_rfl) rfl rfl ?_
  intro C
  (refine LWP.seq <| LWP.region (by kernel_rfl) <| K.box rfl (refC_solid g l) rfl .plain <| kas rfl <| RunK.nil <| LWP.seq <| LWP.seq <| LWP.region (by kernel_rfl) <| kas rfl <| RunK.nil <| LWP.block ?_)
  refine LWP.loop (fun m σ => ∃ j : Nat, j ≤ l.length ∧ m = l.length - j ∧ (∀ (i : Nat) (x : Ei), i < j → l[i]? = some x → freeE x = false) ∧ σ = ⟨[(1, Lp 1), (3, Ln .i64 (j + 1 : Nat))], [rfB 1 g l], X⟩) l.length
    ⟨⟨[(1, Lp 1), (3, Ln .i64 (0 + 1 : Nat))], [rfB 1 g l], X⟩, Le.of (by exact ⟨rfl, rfl, trivial⟩) (by exact ⟨rfl, trivial⟩) (by exact rfl) (by exact rfl) (by repeat' (first | refine all_cons_true ?_ ?_ | rfl | exact bytes_inUse | exact vals_inUse | exact mid_inUse rfl)), 0, by omega, by omega, fun i _ hi => absurd hi (by omega), rfl⟩ ?_
  rintro m σ ⟨j, hj, rfl, hpre, rfl⟩
  have hn := ref_n (g := g) hl
  by_cases hlt : j < l.length
  case neg =>
    rw [show nxN l = 0 by unfold nxN; rw [next_none fun i x hx => hpre i x (by have := (List.getElem?_eq_some_iff.1 hx).1; omega) hx]]
    (refine LWP.seq <| LWP.seq <| LWP.region (by kernel_rfl) <| kmv rfl <| kfa rfl rfl ?_; refine kl1 rfl rfl hn <| K.leq rfl rfl (decide_eq_false (by omega)) .plain <| RunK.nil <| LWP.condF rfl ?_; refine LWP.exit <| LWP.seq <| LWP.region (by kernel_rfl) <| kas rfl <| RunK.nil <| LWP.ret ?_)
    exact ⟨[_], ⟨rfl, trivial⟩, rfl⟩
  obtain ⟨⟨gen, st⟩, hx⟩ : ∃ x, l[j]? = some x := ⟨_, List.getElem?_eq_getElem hlt⟩
  have hst : st ≤ 2 := hs _ (List.mem_of_getElem? hx)
  have hio : 1 + Int.toNat ((j + 1 : Nat) : Int) * 3 = 1 + (j + 1) * 3 := by simp
  have hadd : IntKind.i64.wrap (((j + 1 : Nat) : Int) + 1) = ((j + 1 + 1 : Nat) : Int) := by rw [wrap_i64 (by omega)]; omega
  have h1 := ref_liv (g := g) hx hl
  have h2 := ref_ret (g := g) hx hl
  rcases (show st = 0 ∨ st = 1 ∨ st = 2 by omega) with rfl | rfl | rfl
  · replace h1 : ((refV g l).map CV.val)[1 + (j + 1) * 3 + 1]? = some (.val (.bool false)) := h1
    replace h2 : ((refV g l).map CV.val)[1 + (j + 1) * 3 + 2]? = some (.val (.bool false)) := h2
    rw [show nxN l = j + 1 by unfold nxN; rw [next_some hx rfl hpre]]
    (refine LWP.seq <| LWP.seq <| LWP.region (by kernel_rfl) <| kmv rfl <| kfa rfl rfl ?_; refine kl1 rfl rfl hn <| K.leq rfl rfl (decide_eq_true (by omega)) .plain <| RunK.nil <| LWP.condT rfl ?_; refine LWP.skip ?_; refine LWP.seq <| LWP.block <| LWP.seq <| LWP.region (by kernel_rfl) <| kmv rfl <| kfa rfl rfl ?_; refine K.indexArr rfl rfl (by omega) hio .plain ?_; refine kfa rfl rfl ?_; refine kl1 rfl rfl h1 <| K.not rfl rfl .plain <| kmv rfl <| gmv rfl rfl rfl <| K.fieldAddr rfl rfl (.taken rfl rfl) ?_; refine K.indexArr rfl rfl (by omega) hio (.taken rfl rfl) ?_; refine K.fieldAddr rfl rfl (.taken rfl rfl) ?_; refine K.loadOne rfl rfl h2 (.taken rfl rfl) ?_; refine K.not rfl rfl (.taken rfl rfl) ?_; refine kpt rfl rfl <| RunK.nil <| LWP.condT rfl ?_; refine LWP.seq <| LWP.region (by kernel_rfl) <| kmv rfl <| kas rfl <| RunK.nil <| LWP.ret ?_)
    exact ⟨[_], ⟨rfl, trivial⟩, rfl⟩
  · replace h1 : ((refV g l).map CV.val)[1 + (j + 1) * 3 + 1]? = some (.val (.bool true)) := h1
    (refine LWP.seq <| LWP.seq <| LWP.region (by kernel_rfl) <| kmv rfl <| kfa rfl rfl ?_; refine kl1 rfl rfl hn <| K.leq rfl rfl (decide_eq_true (by omega)) .plain <| RunK.nil <| LWP.condT rfl ?_; refine LWP.skip ?_; refine LWP.seq <| LWP.block <| LWP.seq <| LWP.region (by kernel_rfl) <| kmv rfl <| kfa rfl rfl ?_; refine K.indexArr rfl rfl (by omega) hio .plain ?_; refine kfa rfl rfl ?_; refine kl1 rfl rfl h1 <| K.not rfl rfl .plain <| kmv rfl <| RunK.passed rfl rfl rfl <| RunK.passed rfl rfl rfl <| RunK.passed rfl rfl rfl <| RunK.passed rfl rfl rfl <| RunK.passed rfl rfl rfl <| RunK.passed rfl rfl rfl <| kpf rfl rfl <| RunK.nil <| LWP.condF rfl ?_; refine LWP.skip ?_; refine LWP.region (by kernel_rfl) <| kmv rfl <| kad rfl rfl hadd <| kas rfl <| RunK.nil ?_)
    exact ⟨_, ⟨[(1, Lp 1), (3, Ln .i64 (j + 1 + 1 : Nat))], [rfB 1 g l], X⟩, by omega, Le.of (by exact ⟨rfl, rfl, trivial⟩) (by exact ⟨rfl, trivial⟩) (by exact rfl) (by exact rfl) (by repeat' (first | refine all_cons_true ?_ ?_ | rfl | exact bytes_inUse | exact vals_inUse | exact mid_inUse rfl)), j + 1, by omega, rfl, (fun i y hi hy => by
      by_cases e : i = j
      · subst e; rw [hx] at hy; cases hy; rfl
      · exact hpre i y (by omega) hy), rfl⟩
  · replace h1 : ((refV g l).map CV.val)[1 + (j + 1) * 3 + 1]? = some (.val (.bool false)) := h1
    replace h2 : ((refV g l).map CV.val)[1 + (j + 1) * 3 + 2]? = some (.val (.bool true)) := h2
    (refine LWP.seq <| LWP.seq <| LWP.region (by kernel_rfl) <| kmv rfl <| kfa rfl rfl ?_; refine kl1 rfl rfl hn <| K.leq rfl rfl (decide_eq_true (by omega)) .plain <| RunK.nil <| LWP.condT rfl ?_; refine LWP.skip ?_; refine LWP.seq <| LWP.block <| LWP.seq <| LWP.region (by kernel_rfl) <| kmv rfl <| kfa rfl rfl ?_; refine K.indexArr rfl rfl (by omega) hio .plain ?_; refine kfa rfl rfl ?_; refine kl1 rfl rfl h1 <| K.not rfl rfl .plain <| kmv rfl <| gmv rfl rfl rfl <| K.fieldAddr rfl rfl (.taken rfl rfl) ?_; refine K.indexArr rfl rfl (by omega) hio (.taken rfl rfl) ?_; refine K.fieldAddr rfl rfl (.taken rfl rfl) ?_; refine K.loadOne rfl rfl h2 (.taken rfl rfl) ?_; refine K.not rfl rfl (.taken rfl rfl) ?_; refine kpt rfl rfl <| RunK.nil <| LWP.condF rfl ?_; refine LWP.skip ?_; refine LWP.region (by kernel_rfl) <| kmv rfl <| kad rfl rfl hadd <| kas rfl <| RunK.nil ?_)
    exact ⟨_, ⟨[(1, Lp 1), (3, Ln .i64 (j + 1 + 1 : Nat))], [rfB 1 g l], X⟩, by omega, Le.of (by exact ⟨rfl, rfl, trivial⟩) (by exact ⟨rfl, trivial⟩) (by exact rfl) (by exact rfl) (by repeat' (first | refine all_cons_true ?_ ?_ | rfl | exact bytes_inUse | exact vals_inUse | exact mid_inUse rfl)), j + 1, by omega, rfl, (fun i y hi hy => by
      by_cases e : i = j
      · subst e; rw [hx] at hy; cases hy; rfl
      · exact hpre i y (by omega) hy), rfl⟩
theorem rSpawn_no (g : Nat) (l : List Ei) (hl : l.length ≤ 256) (hs : ∀ x ∈ l, x.2 ≤ 2) (h : nextE l = none) : PSpec Try.prog X 19 [rI g l] (.tup [.agg ((refV g l).map .val), Sn .u64 0]) := by
  have hN := rNext X g l hl hs
  rw [show nxN l = 0 by unfold nxN; rw [h]] at hN
  refine PSpec.intro Try.func19 rfl (by kernel_rfl) rfl (by show (((refV g l).map CV.val).all CV.closed && true) = true; rw [vals_closed]; rfl) ?_
  intro C
  (refine LWP.seq <| LWP.region (by kernel_rfl) <| K.box rfl (refC_solid g l) rfl .plain <| K.alloc rfl .plain ?_; refine kas rfl <| RunK.nil <| LWP.seq <| LWP.region (by kernel_rfl) <| K.loadAll rfl rfl (refC_len hl).symm .plain ?_; refine kca rfl (rI_closed g l) hN <| kas rfl <| RunK.nil <| LWP.seq <| LWP.seq <| LWP.region (by kernel_rfl) <| kmv rfl <| keq rfl rfl (r := true) rfl <| RunK.nil <| LWP.condT rfl ?_; refine LWP.seq <| LWP.region (by kernel_rfl) <| K.loadAll rfl rfl (refC_len hl).symm .plain ?_; refine K.storeAll rfl rfl rfl (refC_solid g l) (refC_len hl).symm ((refC_len hl).trans refZ_len.symm) .plain ?_; refine kas rfl <| RunK.nil <| LWP.ret ?_)
  exact ⟨[_, _], ⟨⟨_, _, rfl, rfl, rfl, .inl ⟨rfAgg hl, rfl⟩⟩, rfl, trivial⟩, rfl⟩
theorem rSpawn (g : Nat) (l : List Ei) (hl : l.length ≤ 256) (hs : ∀ x ∈ l, x.2 ≤ 2) {i gen : Nat} (h : nextE l = some i) (hx : l[i]? = some (gen, 0)) (hg : gen < 4294967296) : PSpec Try.prog X 19 [rI g l] (.tup [.agg ((refV g (l.set i (gen, 1))).map .val), Sn .u64 (hdl (i + 1) gen : Nat)]) := by
  have hN := rNext X g l hl hs
  rw [show nxN l = i + 1 by unfold nxN; rw [h]] at hN
  have hi := (List.getElem?_eq_some_iff.1 hx).1
  have hH := rHandle X (i + 1) gen (by omega) hg
  have hio : 1 + Int.toNat ((i + 1 : Nat) : Int) * 3 = 1 + (i + 1) * 3 := by simp
  have hset : ((refV g l).map CV.val).set (1 + (i + 1) * 3 + 1) (.val (.bool true)) = (refV g (l.set i (gen, 1))).map CV.val := ref_set (k := 1) (by decide) hx hl rfl
  have hl2 : (l.set i (gen, 1)).length ≤ 256 := by rw [List.length_set]; exact hl
  have hg2 := ref_gen (g := g) (l := l.set i (gen, 1)) (i := i) (x := (gen, 1)) (List.getElem?_set_self hi) hl2
  have hroom : Nat.blt (1 + (i + 1) * 3 + 1) ((refV g l).map CV.val).length = true := by rw [refC_len hl, Nat.blt_eq]; omega
  refine PSpec.intro Try.func19 rfl (by kernel_rfl) rfl (rClosed2 g _ _ rfl) ?_
  intro C
  (refine LWP.seq <| LWP.region (by kernel_rfl) <| K.box rfl (refC_solid g l) rfl .plain <| K.alloc rfl .plain ?_; refine kas rfl <| RunK.nil <| LWP.seq <| LWP.region (by kernel_rfl) <| K.loadAll rfl rfl (refC_len hl).symm .plain ?_; refine kca rfl (rI_closed g l) hN <| kas rfl <| RunK.nil <| LWP.seq <| LWP.seq <| LWP.region (by kernel_rfl) <| kmv rfl <| keq rfl rfl (r := false) (beq_eq_false_iff_ne.2 (by omega)) <| RunK.nil <| LWP.condF rfl ?_; refine LWP.skip ?_; refine LWP.seq <| LWP.region (by kernel_rfl) <| kmv rfl <| kfa rfl rfl ?_; refine K.indexArr rfl rfl (by omega) hio .plain ?_; refine kfa rfl rfl ?_; refine K.storeOne rfl rfl rfl rfl hroom hset .plain <| RunK.nil <| LWP.seq <| LWP.draws mixed (by kernel_rfl) <| K.loadAll rfl rfl (refC_len hl2).symm .plain ?_; refine kmv rfl <| kmv rfl <| kfa rfl rfl ?_; refine K.indexArr rfl rfl (by omega) hio .plain ?_; refine kfa rfl rfl ?_; refine kl1 rfl rfl hg2 <| kca rfl rfl hH <| K.storeAll rfl rfl rfl (refC_solid g _) (refC_len hl2).symm ((refC_len hl2).trans refZ_len.symm) .plain ?_; refine kas rfl <| RunK.nil <| And.intro (by kernel_rfl) ?_; refine LWP.ret ?_)
  exact ⟨[_, _], ⟨⟨_, _, rfl, rfl, rfl, .inl ⟨rfAgg hl2, rfl⟩⟩, rfl, trivial⟩, rfl⟩
end Go.Proofs.Ytkdbkgfdggbhkaa
end
