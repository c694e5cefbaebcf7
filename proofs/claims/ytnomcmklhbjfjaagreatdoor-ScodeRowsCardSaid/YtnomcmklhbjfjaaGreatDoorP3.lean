/- A piece of a proof over this program: contracts of its functions, and a logic to prove them by. -/
import Derived.Test.YtnomcmklhbjfjaaGreatDoorP2
import Derived.Test.YtnomcmklhbjfjaaGreatDoorRows
import Derived.Lib.Strings
section
namespace Go.Proofs.YtnomcmklhbjfjaaGreatDoor
open Go Go.Lg
theorem mixed : Tryz.prog.follows .mixedOrders = true := by kernel_rfl
instance : ZeroT Tryz.prog 1 [(.val (.nilFunc))] := ⟨by kernel_rfl⟩
instance : OneT Tryz.prog 1 := ⟨by kernel_rfl⟩
instance : ZeroT Tryz.prog 2 [(.val (.int .i64 0))] := ⟨by kernel_rfl⟩
instance : OneT Tryz.prog 2 := ⟨by kernel_rfl⟩
instance : IntT Tryz.prog 2 .i64 := ⟨by kernel_rfl⟩
instance : ZeroT Tryz.prog 3 [(.val (.int .i64 0))] := ⟨by kernel_rfl⟩
instance : OneT Tryz.prog 3 := ⟨by kernel_rfl⟩
instance : IntT Tryz.prog 3 .i64 := ⟨by kernel_rfl⟩
instance : ZeroT Tryz.prog 4 [(.val (.bool false))] := ⟨by kernel_rfl⟩
instance : OneT Tryz.prog 4 := ⟨by kernel_rfl⟩
instance : BoolT Tryz.prog 4 := ⟨by kernel_rfl⟩
instance : ZeroT Tryz.prog 5 [(.val (.int .u8 0))] := ⟨by kernel_rfl⟩
instance : OneT Tryz.prog 5 := ⟨by kernel_rfl⟩
instance : IntT Tryz.prog 5 .u8 := ⟨by kernel_rfl⟩
instance : ZeroT Tryz.prog 6 [(.val (.int .u8 0))] := ⟨by kernel_rfl⟩
instance : OneT Tryz.prog 6 := ⟨by kernel_rfl⟩
instance : IntT Tryz.prog 6 .u8 := ⟨by kernel_rfl⟩
instance : ZeroT Tryz.prog 7 [(.val (.int .i64 0)), (.val (.int .i64 0)), (.val (.bool false)), (.val (.int .u8 0))] := ⟨by kernel_rfl⟩
instance : AggT Tryz.prog 7 4 := ⟨by kernel_rfl⟩
instance : FieldT Tryz.prog 7 0 0 0 := ⟨by kernel_rfl⟩
instance : FieldT Tryz.prog 7 1 1 0 := ⟨by kernel_rfl⟩
instance : FieldT Tryz.prog 7 2 2 0 := ⟨by kernel_rfl⟩
instance : FieldT Tryz.prog 7 3 3 0 := ⟨by kernel_rfl⟩
instance : StructT Tryz.prog 7 [(.int .i64 0), (.int .i64 0), (.bool false), (.int .u8 0)] [(0, 1), (1, 1), (2, 1), (3, 1)] := ⟨by kernel_rfl⟩
instance : ZeroT Tryz.prog 8 [(.val (.int .i64 0)), (.val (.int .i64 0)), (.val (.bool false)), (.val (.int .u8 0))] := ⟨by kernel_rfl⟩
instance : AggT Tryz.prog 8 4 := ⟨by kernel_rfl⟩
instance : FieldT Tryz.prog 8 0 0 0 := ⟨by kernel_rfl⟩
instance : FieldT Tryz.prog 8 1 1 0 := ⟨by kernel_rfl⟩
instance : FieldT Tryz.prog 8 2 2 0 := ⟨by kernel_rfl⟩
instance : FieldT Tryz.prog 8 3 3 0 := ⟨by kernel_rfl⟩
instance : StructT Tryz.prog 8 [(.int .i64 0), (.int .i64 0), (.bool false), (.int .u8 0)] [(0, 1), (1, 1), (2, 1), (3, 1)] := ⟨by kernel_rfl⟩
instance : ZeroT Tryz.prog 9 [(.val (.string ⟨#[]⟩))] := ⟨by kernel_rfl⟩
instance : OneT Tryz.prog 9 := ⟨by kernel_rfl⟩
instance : StrT Tryz.prog 9 := ⟨by kernel_rfl⟩
instance : ZeroT Tryz.prog 10 [(.val (.string ⟨#[]⟩))] := ⟨by kernel_rfl⟩
instance : OneT Tryz.prog 10 := ⟨by kernel_rfl⟩
instance : StrT Tryz.prog 10 := ⟨by kernel_rfl⟩
instance : ZeroT Tryz.prog 11 [(.val (.string ⟨#[]⟩))] := ⟨by kernel_rfl⟩
instance : OneT Tryz.prog 11 := ⟨by kernel_rfl⟩
instance : StrT Tryz.prog 11 := ⟨by kernel_rfl⟩
instance : ZeroT Tryz.prog 12 [(.val (.int .u64 0))] := ⟨by kernel_rfl⟩
instance : OneT Tryz.prog 12 := ⟨by kernel_rfl⟩
instance : IntT Tryz.prog 12 .u64 := ⟨by kernel_rfl⟩
instance : ZeroT Tryz.prog 13 [(.val (.string ⟨#[]⟩)), (.val (.int .u64 0))] := ⟨by kernel_rfl⟩
instance : AggT Tryz.prog 13 2 := ⟨by kernel_rfl⟩
instance : FieldT Tryz.prog 13 0 0 0 := ⟨by kernel_rfl⟩
instance : FieldT Tryz.prog 13 1 1 0 := ⟨by kernel_rfl⟩
instance : StructT Tryz.prog 13 [(.string ⟨#[]⟩), (.int .u64 0)] [(0, 1), (1, 1)] := ⟨by kernel_rfl⟩
instance : ZeroT Tryz.prog 14 [(.val (.string ⟨#[]⟩)), (.val (.int .u64 0))] := ⟨by kernel_rfl⟩
instance : AggT Tryz.prog 14 2 := ⟨by kernel_rfl⟩
instance : FieldT Tryz.prog 14 0 0 0 := ⟨by kernel_rfl⟩
instance : FieldT Tryz.prog 14 1 1 0 := ⟨by kernel_rfl⟩
instance : StructT Tryz.prog 14 [(.string ⟨#[]⟩), (.int .u64 0)] [(0, 1), (1, 1)] := ⟨by kernel_rfl⟩
instance : ZeroT Tryz.prog 15 [(.val (.pointer none))] := ⟨by kernel_rfl⟩
instance : OneT Tryz.prog 15 := ⟨by kernel_rfl⟩
instance : ZeroT Tryz.prog 16 [(.val (.pointer none))] := ⟨by kernel_rfl⟩
instance : OneT Tryz.prog 16 := ⟨by kernel_rfl⟩
instance : ZeroT Tryz.prog 17 [(.val (.pointer none))] := ⟨by kernel_rfl⟩
instance : OneT Tryz.prog 17 := ⟨by kernel_rfl⟩
instance : ZeroT Tryz.prog 18 [(.val (.pointer none))] := ⟨by kernel_rfl⟩
instance : AggT Tryz.prog 18 1 := ⟨by kernel_rfl⟩
instance : FieldT Tryz.prog 18 0 0 0 := ⟨by kernel_rfl⟩
instance : StructT Tryz.prog 18 [(.pointer none)] [(0, 1)] := ⟨by kernel_rfl⟩
instance : ZeroT Tryz.prog 19 [(.val (.pointer none))] := ⟨by kernel_rfl⟩
instance : AggT Tryz.prog 19 1 := ⟨by kernel_rfl⟩
instance : FieldT Tryz.prog 19 0 0 0 := ⟨by kernel_rfl⟩
instance : StructT Tryz.prog 19 [(.pointer none)] [(0, 1)] := ⟨by kernel_rfl⟩
instance : ZeroT Tryz.prog 20 [(.val (.nilIface))] := ⟨by kernel_rfl⟩
instance : OneT Tryz.prog 20 := ⟨by kernel_rfl⟩
instance : ZeroT Tryz.prog 21 [(.val (.int .i32 0))] := ⟨by kernel_rfl⟩
instance : OneT Tryz.prog 21 := ⟨by kernel_rfl⟩
instance : IntT Tryz.prog 21 .i32 := ⟨by kernel_rfl⟩
instance : ZeroT Tryz.prog 22 [(.val (.slice none 0 0))] := ⟨by kernel_rfl⟩
instance : OneT Tryz.prog 22 := ⟨by kernel_rfl⟩
instance : SliceT Tryz.prog 22 3 := ⟨by kernel_rfl⟩
instance : ZeroT Tryz.prog 23 [(.val (.int .i64 0)), (.val (.slice none 0 0))] := ⟨by kernel_rfl⟩
instance : AggT Tryz.prog 23 2 := ⟨by kernel_rfl⟩
instance : FieldT Tryz.prog 23 0 0 0 := ⟨by kernel_rfl⟩
instance : FieldT Tryz.prog 23 1 1 0 := ⟨by kernel_rfl⟩
instance : StructT Tryz.prog 23 [(.int .i64 0), (.slice none 0 0)] [(0, 1), (1, 1)] := ⟨by kernel_rfl⟩
instance : ZeroT Tryz.prog 24 [(.val (.int .i64 0)), (.val (.slice none 0 0))] := ⟨by kernel_rfl⟩
instance : AggT Tryz.prog 24 2 := ⟨by kernel_rfl⟩
instance : FieldT Tryz.prog 24 0 0 0 := ⟨by kernel_rfl⟩
instance : FieldT Tryz.prog 24 1 1 0 := ⟨by kernel_rfl⟩
instance : StructT Tryz.prog 24 [(.int .i64 0), (.slice none 0 0)] [(0, 1), (1, 1)] := ⟨by kernel_rfl⟩
instance : ZeroT Tryz.prog 25 [(.val (.nilFunc))] := ⟨by kernel_rfl⟩
instance : OneT Tryz.prog 25 := ⟨by kernel_rfl⟩
instance : ZeroT Tryz.prog 26 [(.val (.nilFunc))] := ⟨by kernel_rfl⟩
instance : OneT Tryz.prog 26 := ⟨by kernel_rfl⟩
instance : ZeroT Tryz.prog 27 [(.val (.int .i64 0))] := ⟨by kernel_rfl⟩
instance : OneT Tryz.prog 27 := ⟨by kernel_rfl⟩
instance : IntT Tryz.prog 27 .i64 := ⟨by kernel_rfl⟩
instance : ZeroT Tryz.prog 29 [(.val (.nilFunc))] := ⟨by kernel_rfl⟩
instance : OneT Tryz.prog 29 := ⟨by kernel_rfl⟩
instance : ZeroT Tryz.prog 30 [(.val (.nilFunc))] := ⟨by kernel_rfl⟩
instance : OneT Tryz.prog 30 := ⟨by kernel_rfl⟩
instance : ZeroT Tryz.prog 31 [(.val (.nilFunc))] := ⟨by kernel_rfl⟩
instance : OneT Tryz.prog 31 := ⟨by kernel_rfl⟩
instance : ZeroT Tryz.prog 33 [(.val (.nilFunc))] := ⟨by kernel_rfl⟩
instance : OneT Tryz.prog 33 := ⟨by kernel_rfl⟩
instance : ZeroT Tryz.prog 35 [(.val (.nilFunc))] := ⟨by kernel_rfl⟩
instance : OneT Tryz.prog 35 := ⟨by kernel_rfl⟩
instance : ZeroT Tryz.prog 36 [(.val (.nilFunc))] := ⟨by kernel_rfl⟩
instance : OneT Tryz.prog 36 := ⟨by kernel_rfl⟩
instance : ZeroT Tryz.prog 37 [(.val (.nilFunc))] := ⟨by kernel_rfl⟩
instance : OneT Tryz.prog 37 := ⟨by kernel_rfl⟩
instance : ZeroT Tryz.prog 38 [(.val (.slice none 0 0))] := ⟨by kernel_rfl⟩
instance : OneT Tryz.prog 38 := ⟨by kernel_rfl⟩
instance : SliceT Tryz.prog 38 2 := ⟨by kernel_rfl⟩
instance : ZeroT Tryz.prog 39 [(.val (.slice none 0 0))] := ⟨by kernel_rfl⟩
instance : OneT Tryz.prog 39 := ⟨by kernel_rfl⟩
instance : SliceT Tryz.prog 39 3 := ⟨by kernel_rfl⟩
instance : ZeroT Tryz.prog 40 [(.val (.int .i64 0)), (.val (.slice none 0 0))] := ⟨by kernel_rfl⟩
instance : AggT Tryz.prog 40 2 := ⟨by kernel_rfl⟩
instance : FieldT Tryz.prog 40 0 0 0 := ⟨by kernel_rfl⟩
instance : FieldT Tryz.prog 40 1 1 0 := ⟨by kernel_rfl⟩
instance : StructT Tryz.prog 40 [(.int .i64 0), (.slice none 0 0)] [(0, 1), (1, 1)] := ⟨by kernel_rfl⟩
instance : ZeroT Tryz.prog 41 [(.val (.int .i64 0)), (.val (.slice none 0 0))] := ⟨by kernel_rfl⟩
instance : AggT Tryz.prog 41 2 := ⟨by kernel_rfl⟩
instance : FieldT Tryz.prog 41 0 0 0 := ⟨by kernel_rfl⟩
instance : FieldT Tryz.prog 41 1 1 0 := ⟨by kernel_rfl⟩
instance : StructT Tryz.prog 41 [(.int .i64 0), (.slice none 0 0)] [(0, 1), (1, 1)] := ⟨by kernel_rfl⟩
instance : ZeroT Tryz.prog 42 [(.val (.nilFunc))] := ⟨by kernel_rfl⟩
instance : OneT Tryz.prog 42 := ⟨by kernel_rfl⟩
instance : ZeroT Tryz.prog 44 [(.val (.nilFunc))] := ⟨by kernel_rfl⟩
instance : OneT Tryz.prog 44 := ⟨by kernel_rfl⟩
instance : ZeroT Tryz.prog 46 [(.val (.nilFunc))] := ⟨by kernel_rfl⟩
instance : OneT Tryz.prog 46 := ⟨by kernel_rfl⟩
instance : ZeroT Tryz.prog 48 [(.val (.nilFunc))] := ⟨by kernel_rfl⟩
instance : OneT Tryz.prog 48 := ⟨by kernel_rfl⟩
instance : ZeroT Tryz.prog 49 [(.val (.nilFunc))] := ⟨by kernel_rfl⟩
instance : OneT Tryz.prog 49 := ⟨by kernel_rfl⟩
instance : ZeroT Tryz.prog 50 [(.val (.nilFunc))] := ⟨by kernel_rfl⟩
instance : OneT Tryz.prog 50 := ⟨by kernel_rfl⟩
instance : ZeroT Tryz.prog 51 [(.val (.nilFunc))] := ⟨by kernel_rfl⟩
instance : OneT Tryz.prog 51 := ⟨by kernel_rfl⟩
instance : ZeroT Tryz.prog 52 [(.val (.slice none 0 0))] := ⟨by kernel_rfl⟩
instance : OneT Tryz.prog 52 := ⟨by kernel_rfl⟩
instance : SliceT Tryz.prog 52 1 := ⟨by kernel_rfl⟩
instance : ZeroT Tryz.prog 53 [(.val (.nilFunc))] := ⟨by kernel_rfl⟩
instance : OneT Tryz.prog 53 := ⟨by kernel_rfl⟩
instance : ZeroT Tryz.prog 54 [(.val (.nilFunc))] := ⟨by kernel_rfl⟩
instance : OneT Tryz.prog 54 := ⟨by kernel_rfl⟩
instance : ZeroT Tryz.prog 55 [(.val (.int .i64 0))] := ⟨by kernel_rfl⟩
instance : OneT Tryz.prog 55 := ⟨by kernel_rfl⟩
instance : IntT Tryz.prog 55 .i64 := ⟨by kernel_rfl⟩
instance : ZeroT Tryz.prog 56 [(.val (.string ⟨#[]⟩)), (.val (.int .i64 0)), (.val (.int .i64 0))] := ⟨by kernel_rfl⟩
instance : AggT Tryz.prog 56 3 := ⟨by kernel_rfl⟩
instance : FieldT Tryz.prog 56 0 0 0 := ⟨by kernel_rfl⟩
instance : FieldT Tryz.prog 56 1 1 0 := ⟨by kernel_rfl⟩
instance : FieldT Tryz.prog 56 2 2 0 := ⟨by kernel_rfl⟩
instance : StructT Tryz.prog 56 [(.string ⟨#[]⟩), (.int .i64 0), (.int .i64 0)] [(0, 1), (1, 1), (2, 1)] := ⟨by kernel_rfl⟩
instance : ZeroT Tryz.prog 57 [(.val (.string ⟨#[]⟩)), (.val (.int .i64 0)), (.val (.int .i64 0))] := ⟨by kernel_rfl⟩
instance : AggT Tryz.prog 57 3 := ⟨by kernel_rfl⟩
instance : FieldT Tryz.prog 57 0 0 0 := ⟨by kernel_rfl⟩
instance : FieldT Tryz.prog 57 1 1 0 := ⟨by kernel_rfl⟩
instance : FieldT Tryz.prog 57 2 2 0 := ⟨by kernel_rfl⟩
instance : StructT Tryz.prog 57 [(.string ⟨#[]⟩), (.int .i64 0), (.int .i64 0)] [(0, 1), (1, 1), (2, 1)] := ⟨by kernel_rfl⟩
instance : ZeroT Tryz.prog 58 [(.val (.slice none 0 0))] := ⟨by kernel_rfl⟩
instance : OneT Tryz.prog 58 := ⟨by kernel_rfl⟩
instance : SliceT Tryz.prog 58 3 := ⟨by kernel_rfl⟩
instance : ZeroT Tryz.prog 59 [(.val (.int .i64 0)), (.val (.string ⟨#[]⟩)), (.val (.slice none 0 0))] := ⟨by kernel_rfl⟩
instance : AggT Tryz.prog 59 3 := ⟨by kernel_rfl⟩
instance : FieldT Tryz.prog 59 0 0 0 := ⟨by kernel_rfl⟩
instance : FieldT Tryz.prog 59 1 1 0 := ⟨by kernel_rfl⟩
instance : FieldT Tryz.prog 59 2 2 0 := ⟨by kernel_rfl⟩
instance : StructT Tryz.prog 59 [(.int .i64 0), (.string ⟨#[]⟩), (.slice none 0 0)] [(0, 1), (1, 1), (2, 1)] := ⟨by kernel_rfl⟩
instance : ZeroT Tryz.prog 60 [(.val (.int .i64 0)), (.val (.string ⟨#[]⟩)), (.val (.slice none 0 0))] := ⟨by kernel_rfl⟩
instance : AggT Tryz.prog 60 3 := ⟨by kernel_rfl⟩
instance : FieldT Tryz.prog 60 0 0 0 := ⟨by kernel_rfl⟩
instance : FieldT Tryz.prog 60 1 1 0 := ⟨by kernel_rfl⟩
instance : FieldT Tryz.prog 60 2 2 0 := ⟨by kernel_rfl⟩
instance : StructT Tryz.prog 60 [(.int .i64 0), (.string ⟨#[]⟩), (.slice none 0 0)] [(0, 1), (1, 1), (2, 1)] := ⟨by kernel_rfl⟩
instance : ZeroT Tryz.prog 61 [(.val (.int .u64 0))] := ⟨by kernel_rfl⟩
instance : OneT Tryz.prog 61 := ⟨by kernel_rfl⟩
instance : IntT Tryz.prog 61 .u64 := ⟨by kernel_rfl⟩
instance : ZeroT Tryz.prog 62 [(.val (.bool false)), (.val (.int .u64 0)), (.val (.int .u64 0))] := ⟨by kernel_rfl⟩
instance : AggT Tryz.prog 62 3 := ⟨by kernel_rfl⟩
instance : FieldT Tryz.prog 62 0 0 0 := ⟨by kernel_rfl⟩
instance : FieldT Tryz.prog 62 1 1 0 := ⟨by kernel_rfl⟩
instance : FieldT Tryz.prog 62 2 2 0 := ⟨by kernel_rfl⟩
instance : StructT Tryz.prog 62 [(.bool false), (.int .u64 0), (.int .u64 0)] [(0, 1), (1, 1), (2, 1)] := ⟨by kernel_rfl⟩
instance : ZeroT Tryz.prog 63 [(.val (.bool false)), (.val (.int .u64 0)), (.val (.int .u64 0))] := ⟨by kernel_rfl⟩
instance : AggT Tryz.prog 63 3 := ⟨by kernel_rfl⟩
instance : FieldT Tryz.prog 63 0 0 0 := ⟨by kernel_rfl⟩
instance : FieldT Tryz.prog 63 1 1 0 := ⟨by kernel_rfl⟩
instance : FieldT Tryz.prog 63 2 2 0 := ⟨by kernel_rfl⟩
instance : StructT Tryz.prog 63 [(.bool false), (.int .u64 0), (.int .u64 0)] [(0, 1), (1, 1), (2, 1)] := ⟨by kernel_rfl⟩
instance : ZeroT Tryz.prog 64 [(.val (.nilFunc))] := ⟨by kernel_rfl⟩
instance : OneT Tryz.prog 64 := ⟨by kernel_rfl⟩
instance : ZeroT Tryz.prog 65 [(.val (.pointer none))] := ⟨by kernel_rfl⟩
instance : OneT Tryz.prog 65 := ⟨by kernel_rfl⟩
instance : ZeroT Tryz.prog 66 [(.val (.pointer none))] := ⟨by kernel_rfl⟩
instance : OneT Tryz.prog 66 := ⟨by kernel_rfl⟩
instance : ZeroT Tryz.prog 67 [(.val (.pointer none)), (.val (.int .i64 0))] := ⟨by kernel_rfl⟩
instance : AggT Tryz.prog 67 2 := ⟨by kernel_rfl⟩
instance : FieldT Tryz.prog 67 0 0 0 := ⟨by kernel_rfl⟩
instance : FieldT Tryz.prog 67 1 1 0 := ⟨by kernel_rfl⟩
instance : StructT Tryz.prog 67 [(.pointer none), (.int .i64 0)] [(0, 1), (1, 1)] := ⟨by kernel_rfl⟩
instance : ZeroT Tryz.prog 68 [(.val (.pointer none)), (.val (.int .i64 0))] := ⟨by kernel_rfl⟩
instance : AggT Tryz.prog 68 2 := ⟨by kernel_rfl⟩
instance : FieldT Tryz.prog 68 0 0 0 := ⟨by kernel_rfl⟩
instance : FieldT Tryz.prog 68 1 1 0 := ⟨by kernel_rfl⟩
instance : StructT Tryz.prog 68 [(.pointer none), (.int .i64 0)] [(0, 1), (1, 1)] := ⟨by kernel_rfl⟩
instance : ZeroT Tryz.prog 69 [(.val (.nilFunc))] := ⟨by kernel_rfl⟩
instance : OneT Tryz.prog 69 := ⟨by kernel_rfl⟩
instance : ZeroT Tryz.prog 70 [(.val (.nilFunc))] := ⟨by kernel_rfl⟩
instance : OneT Tryz.prog 70 := ⟨by kernel_rfl⟩
instance : ZeroT Tryz.prog 71 [(.val (.nilFunc))] := ⟨by kernel_rfl⟩
instance : OneT Tryz.prog 71 := ⟨by kernel_rfl⟩
instance : ZeroT Tryz.prog 72 [(.val (.nilFunc))] := ⟨by kernel_rfl⟩
instance : OneT Tryz.prog 72 := ⟨by kernel_rfl⟩
instance : ZeroT Tryz.prog 73 [(.val (.nilFunc))] := ⟨by kernel_rfl⟩
instance : OneT Tryz.prog 73 := ⟨by kernel_rfl⟩
instance : ZeroT Tryz.prog 74 [(.val (.slice none 0 0))] := ⟨by kernel_rfl⟩
instance : OneT Tryz.prog 74 := ⟨by kernel_rfl⟩
instance : SliceT Tryz.prog 74 2 := ⟨by kernel_rfl⟩
instance : ZeroT Tryz.prog 75 [(.val (.slice none 0 0))] := ⟨by kernel_rfl⟩
instance : OneT Tryz.prog 75 := ⟨by kernel_rfl⟩
instance : SliceT Tryz.prog 75 1 := ⟨by kernel_rfl⟩
instance : ZeroT Tryz.prog 77 [(.val (.nilFunc))] := ⟨by kernel_rfl⟩
instance : OneT Tryz.prog 77 := ⟨by kernel_rfl⟩
instance : ZeroT Tryz.prog 78 [(.val (.pointer none))] := ⟨by kernel_rfl⟩
instance : OneT Tryz.prog 78 := ⟨by kernel_rfl⟩
instance : ZeroT Tryz.prog 79 [(.val (.nilFunc))] := ⟨by kernel_rfl⟩
instance : OneT Tryz.prog 79 := ⟨by kernel_rfl⟩
instance : ZeroT Tryz.prog 80 [(.val (.nilFunc))] := ⟨by kernel_rfl⟩
instance : OneT Tryz.prog 80 := ⟨by kernel_rfl⟩
instance : ZeroT Tryz.prog 81 [(.val (.nilFunc))] := ⟨by kernel_rfl⟩
instance : OneT Tryz.prog 81 := ⟨by kernel_rfl⟩
instance : ZeroT Tryz.prog 82 [(.val (.nilFunc))] := ⟨by kernel_rfl⟩
instance : OneT Tryz.prog 82 := ⟨by kernel_rfl⟩
instance : ZeroT Tryz.prog 83 [(.val (.nilFunc))] := ⟨by kernel_rfl⟩
instance : OneT Tryz.prog 83 := ⟨by kernel_rfl⟩
instance : ZeroT Tryz.prog 84 [(.val (.nilFunc))] := ⟨by kernel_rfl⟩
instance : OneT Tryz.prog 84 := ⟨by kernel_rfl⟩
instance : ZeroT Tryz.prog 85 [(.val (.nilFunc))] := ⟨by kernel_rfl⟩
instance : OneT Tryz.prog 85 := ⟨by kernel_rfl⟩
instance : ZeroT Tryz.prog 86 [(.val (.nilFunc))] := ⟨by kernel_rfl⟩
instance : OneT Tryz.prog 86 := ⟨by kernel_rfl⟩
instance : ZeroT Tryz.prog 87 [(.val (.nilFunc))] := ⟨by kernel_rfl⟩
instance : OneT Tryz.prog 87 := ⟨by kernel_rfl⟩
instance : ZeroT Tryz.prog 88 [(.val (.nilFunc))] := ⟨by kernel_rfl⟩
instance : OneT Tryz.prog 88 := ⟨by kernel_rfl⟩
instance : ZeroT Tryz.prog 89 [(.val (.nilFunc))] := ⟨by kernel_rfl⟩
instance : OneT Tryz.prog 89 := ⟨by kernel_rfl⟩
instance : ZeroT Tryz.prog 90 [(.val (.nilFunc))] := ⟨by kernel_rfl⟩
instance : OneT Tryz.prog 90 := ⟨by kernel_rfl⟩
instance : ZeroT Tryz.prog 92 [(.val (.nilFunc))] := ⟨by kernel_rfl⟩
instance : OneT Tryz.prog 92 := ⟨by kernel_rfl⟩
instance : ZeroT Tryz.prog 94 [(.val (.nilFunc))] := ⟨by kernel_rfl⟩
instance : OneT Tryz.prog 94 := ⟨by kernel_rfl⟩
instance : ZeroT Tryz.prog 95 [(.val (.map none))] := ⟨by kernel_rfl⟩
instance : OneT Tryz.prog 95 := ⟨by kernel_rfl⟩
instance : ZeroT Tryz.prog 96 [(.val (.map none))] := ⟨by kernel_rfl⟩
instance : OneT Tryz.prog 96 := ⟨by kernel_rfl⟩
instance : ZeroT Tryz.prog 97 [(.val (.nilFunc))] := ⟨by kernel_rfl⟩
instance : OneT Tryz.prog 97 := ⟨by kernel_rfl⟩
instance : ZeroT Tryz.prog 98 [(.val (.nilFunc))] := ⟨by kernel_rfl⟩
instance : OneT Tryz.prog 98 := ⟨by kernel_rfl⟩
instance : ZeroT Tryz.prog 99 [(.val (.nilFunc))] := ⟨by kernel_rfl⟩
instance : OneT Tryz.prog 99 := ⟨by kernel_rfl⟩
instance : ZeroT Tryz.prog 100 [(.val (.nilFunc))] := ⟨by kernel_rfl⟩
instance : OneT Tryz.prog 100 := ⟨by kernel_rfl⟩
instance : ZeroT Tryz.prog 101 [(.val (.nilFunc))] := ⟨by kernel_rfl⟩
instance : OneT Tryz.prog 101 := ⟨by kernel_rfl⟩
instance : ZeroT Tryz.prog 102 [(.val (.slice none 0 0))] := ⟨by kernel_rfl⟩
instance : AggT Tryz.prog 102 1 := ⟨by kernel_rfl⟩
instance : FieldT Tryz.prog 102 0 0 0 := ⟨by kernel_rfl⟩
instance : StructT Tryz.prog 102 [(.slice none 0 0)] [(0, 1)] := ⟨by kernel_rfl⟩
instance : ZeroT Tryz.prog 103 [(.val (.slice none 0 0))] := ⟨by kernel_rfl⟩
instance : AggT Tryz.prog 103 1 := ⟨by kernel_rfl⟩
instance : FieldT Tryz.prog 103 0 0 0 := ⟨by kernel_rfl⟩
instance : StructT Tryz.prog 103 [(.slice none 0 0)] [(0, 1)] := ⟨by kernel_rfl⟩
instance : ZeroT Tryz.prog 104 [(.val (.nilFunc))] := ⟨by kernel_rfl⟩
instance : OneT Tryz.prog 104 := ⟨by kernel_rfl⟩
instance : ZeroT Tryz.prog 105 [(.val (.int .i64 0)), (.val (.int .i64 0))] := ⟨by kernel_rfl⟩
instance : AggT Tryz.prog 105 2 := ⟨by kernel_rfl⟩
instance : FieldT Tryz.prog 105 0 0 0 := ⟨by kernel_rfl⟩
instance : FieldT Tryz.prog 105 1 1 0 := ⟨by kernel_rfl⟩
instance : StructT Tryz.prog 105 [(.int .i64 0), (.int .i64 0)] [(0, 1), (1, 1)] := ⟨by kernel_rfl⟩
instance : ZeroT Tryz.prog 106 [(.val (.int .i64 0)), (.val (.int .i64 0))] := ⟨by kernel_rfl⟩
instance : AggT Tryz.prog 106 2 := ⟨by kernel_rfl⟩
instance : FieldT Tryz.prog 106 0 0 0 := ⟨by kernel_rfl⟩
instance : FieldT Tryz.prog 106 1 1 0 := ⟨by kernel_rfl⟩
instance : StructT Tryz.prog 106 [(.int .i64 0), (.int .i64 0)] [(0, 1), (1, 1)] := ⟨by kernel_rfl⟩
instance : ZeroT Tryz.prog 107 [(.val (.string ⟨#[]⟩)), (.val (.bool false))] := ⟨by kernel_rfl⟩
instance : AggT Tryz.prog 107 2 := ⟨by kernel_rfl⟩
instance : FieldT Tryz.prog 107 0 0 0 := ⟨by kernel_rfl⟩
instance : FieldT Tryz.prog 107 1 1 0 := ⟨by kernel_rfl⟩
instance : StructT Tryz.prog 107 [(.string ⟨#[]⟩), (.bool false)] [(0, 1), (1, 1)] := ⟨by kernel_rfl⟩
instance : ZeroT Tryz.prog 108 [(.val (.string ⟨#[]⟩)), (.val (.bool false))] := ⟨by kernel_rfl⟩
instance : AggT Tryz.prog 108 2 := ⟨by kernel_rfl⟩
instance : FieldT Tryz.prog 108 0 0 0 := ⟨by kernel_rfl⟩
instance : FieldT Tryz.prog 108 1 1 0 := ⟨by kernel_rfl⟩
instance : StructT Tryz.prog 108 [(.string ⟨#[]⟩), (.bool false)] [(0, 1), (1, 1)] := ⟨by kernel_rfl⟩
instance : ZeroT Tryz.prog 109 [(.val (.nilFunc))] := ⟨by kernel_rfl⟩
instance : OneT Tryz.prog 109 := ⟨by kernel_rfl⟩
instance : ZeroT Tryz.prog 110 [(.val (.nilFunc))] := ⟨by kernel_rfl⟩
instance : OneT Tryz.prog 110 := ⟨by kernel_rfl⟩
instance : ZeroT Tryz.prog 111 [(.val (.nilFunc))] := ⟨by kernel_rfl⟩
instance : OneT Tryz.prog 111 := ⟨by kernel_rfl⟩
instance : ZeroT Tryz.prog 112 [(.val (.nilFunc))] := ⟨by kernel_rfl⟩
instance : OneT Tryz.prog 112 := ⟨by kernel_rfl⟩
instance : ZeroT Tryz.prog 113 [(.val (.map none))] := ⟨by kernel_rfl⟩
instance : OneT Tryz.prog 113 := ⟨by kernel_rfl⟩
instance : ZeroT Tryz.prog 114 [] := ⟨by kernel_rfl⟩
instance : AggT Tryz.prog 114 0 := ⟨by kernel_rfl⟩
instance : StructT Tryz.prog 114 [] [] := ⟨by kernel_rfl⟩
instance : ZeroT Tryz.prog 116 [(.val (.nilFunc))] := ⟨by kernel_rfl⟩
instance : OneT Tryz.prog 116 := ⟨by kernel_rfl⟩
instance : ZeroT Tryz.prog 118 [(.val (.nilFunc))] := ⟨by kernel_rfl⟩
instance : OneT Tryz.prog 118 := ⟨by kernel_rfl⟩
instance : ZeroT Tryz.prog 119 [(.val (.nilFunc))] := ⟨by kernel_rfl⟩
instance : OneT Tryz.prog 119 := ⟨by kernel_rfl⟩
instance : ZeroT Tryz.prog 120 [(.val (.nilFunc))] := ⟨by kernel_rfl⟩
instance : OneT Tryz.prog 120 := ⟨by kernel_rfl⟩
instance : ZeroT Tryz.prog 121 [(.val (.nilFunc))] := ⟨by kernel_rfl⟩
instance : OneT Tryz.prog 121 := ⟨by kernel_rfl⟩
instance : ZeroT Tryz.prog 122 [(.val (.int .i64 0)), (.val (.slice none 0 0))] := ⟨by kernel_rfl⟩
instance : AggT Tryz.prog 122 2 := ⟨by kernel_rfl⟩
instance : FieldT Tryz.prog 122 0 0 0 := ⟨by kernel_rfl⟩
instance : FieldT Tryz.prog 122 1 1 0 := ⟨by kernel_rfl⟩
instance : StructT Tryz.prog 122 [(.int .i64 0), (.slice none 0 0)] [(0, 1), (1, 1)] := ⟨by kernel_rfl⟩
instance : ZeroT Tryz.prog 123 [(.val (.int .i64 0)), (.val (.slice none 0 0))] := ⟨by kernel_rfl⟩
instance : AggT Tryz.prog 123 2 := ⟨by kernel_rfl⟩
instance : FieldT Tryz.prog 123 0 0 0 := ⟨by kernel_rfl⟩
instance : FieldT Tryz.prog 123 1 1 0 := ⟨by kernel_rfl⟩
instance : StructT Tryz.prog 123 [(.int .i64 0), (.slice none 0 0)] [(0, 1), (1, 1)] := ⟨by kernel_rfl⟩
instance : ZeroT Tryz.prog 125 [(.val (.nilFunc))] := ⟨by kernel_rfl⟩
instance : OneT Tryz.prog 125 := ⟨by kernel_rfl⟩
instance : ZeroT Tryz.prog 127 [(.val (.nilFunc))] := ⟨by kernel_rfl⟩
instance : OneT Tryz.prog 127 := ⟨by kernel_rfl⟩
instance : ZeroT Tryz.prog 129 [(.val (.nilFunc))] := ⟨by kernel_rfl⟩
instance : OneT Tryz.prog 129 := ⟨by kernel_rfl⟩
instance : ZeroT Tryz.prog 130 [(.val (.int .i64 0)), (.val (.int .i64 0)), (.val (.int .i64 0)), (.val (.int .i64 0)), (.val (.int .i64 0)), (.val (.int .i64 0)), (.val (.int .i64 0)), (.val (.int .i64 0)), (.val (.int .i64 0)), (.val (.int .i64 0)), (.val (.int .i64 0))] := ⟨by kernel_rfl⟩
instance : AggT Tryz.prog 130 11 := ⟨by kernel_rfl⟩
instance : ArrT Tryz.prog 130 11 1 := ⟨by kernel_rfl⟩
instance : ZeroT Tryz.prog 131 [(.val (.nilFunc))] := ⟨by kernel_rfl⟩
instance : OneT Tryz.prog 131 := ⟨by kernel_rfl⟩
instance : ZeroT Tryz.prog 132 [(.val (.nilFunc))] := ⟨by kernel_rfl⟩
instance : OneT Tryz.prog 132 := ⟨by kernel_rfl⟩
instance : ZeroT Tryz.prog 133 [(.val (.nilFunc))] := ⟨by kernel_rfl⟩
instance : OneT Tryz.prog 133 := ⟨by kernel_rfl⟩
instance : ZeroT Tryz.prog 134 [(.val (.nilFunc))] := ⟨by kernel_rfl⟩
instance : OneT Tryz.prog 134 := ⟨by kernel_rfl⟩
instance : ZeroT Tryz.prog 135 [(.val (.slice none 0 0))] := ⟨by kernel_rfl⟩
instance : OneT Tryz.prog 135 := ⟨by kernel_rfl⟩
instance : SliceT Tryz.prog 135 2 := ⟨by kernel_rfl⟩
instance : ZeroT Tryz.prog 136 [(.val (.nilFunc))] := ⟨by kernel_rfl⟩
instance : OneT Tryz.prog 136 := ⟨by kernel_rfl⟩
instance : ZeroT Tryz.prog 137 [(.val (.int .i64 0)), (.val (.int .i64 0))] := ⟨by kernel_rfl⟩
instance : AggT Tryz.prog 137 2 := ⟨by kernel_rfl⟩
instance : FieldT Tryz.prog 137 0 0 0 := ⟨by kernel_rfl⟩
instance : FieldT Tryz.prog 137 1 1 0 := ⟨by kernel_rfl⟩
instance : StructT Tryz.prog 137 [(.int .i64 0), (.int .i64 0)] [(0, 1), (1, 1)] := ⟨by kernel_rfl⟩
instance : ZeroT Tryz.prog 138 [(.val (.int .i64 0)), (.val (.int .i64 0))] := ⟨by kernel_rfl⟩
instance : AggT Tryz.prog 138 2 := ⟨by kernel_rfl⟩
instance : FieldT Tryz.prog 138 0 0 0 := ⟨by kernel_rfl⟩
instance : FieldT Tryz.prog 138 1 1 0 := ⟨by kernel_rfl⟩
instance : StructT Tryz.prog 138 [(.int .i64 0), (.int .i64 0)] [(0, 1), (1, 1)] := ⟨by kernel_rfl⟩
instance : ZeroT Tryz.prog 139 [(.val (.nilFunc))] := ⟨by kernel_rfl⟩
instance : OneT Tryz.prog 139 := ⟨by kernel_rfl⟩
instance : ZeroT Tryz.prog 140 [(.val (.nilFunc))] := ⟨by kernel_rfl⟩
instance : OneT Tryz.prog 140 := ⟨by kernel_rfl⟩
instance : ZeroT Tryz.prog 141 [(.val (.nilFunc))] := ⟨by kernel_rfl⟩
instance : OneT Tryz.prog 141 := ⟨by kernel_rfl⟩
instance : ZeroT Tryz.prog 142 [(.val (.nilFunc))] := ⟨by kernel_rfl⟩
instance : OneT Tryz.prog 142 := ⟨by kernel_rfl⟩
instance : ZeroT Tryz.prog 144 [(.val (.nilFunc))] := ⟨by kernel_rfl⟩
instance : OneT Tryz.prog 144 := ⟨by kernel_rfl⟩
instance : ZeroT Tryz.prog 145 [(.val (.nilFunc))] := ⟨by kernel_rfl⟩
instance : OneT Tryz.prog 145 := ⟨by kernel_rfl⟩
instance : ZeroT Tryz.prog 146 [(.val (.nilFunc))] := ⟨by kernel_rfl⟩
instance : OneT Tryz.prog 146 := ⟨by kernel_rfl⟩
instance : ZeroT Tryz.prog 147 [(.val (.nilFunc))] := ⟨by kernel_rfl⟩
instance : OneT Tryz.prog 147 := ⟨by kernel_rfl⟩
instance : ZeroT Tryz.prog 148 [(.val (.nilFunc))] := ⟨by kernel_rfl⟩
instance : OneT Tryz.prog 148 := ⟨by kernel_rfl⟩
instance : ZeroT Tryz.prog 149 [(.val (.nilFunc))] := ⟨by kernel_rfl⟩
instance : OneT Tryz.prog 149 := ⟨by kernel_rfl⟩
instance : ZeroT Tryz.prog 150 [(.val (.nilFunc))] := ⟨by kernel_rfl⟩
instance : OneT Tryz.prog 150 := ⟨by kernel_rfl⟩
instance : ZeroT Tryz.prog 151 [(.val (.string ⟨#[]⟩)), (.val (.int .i64 0)), (.val (.int .u64 0)), (.val (.int .u64 0))] := ⟨by kernel_rfl⟩
instance : AggT Tryz.prog 151 4 := ⟨by kernel_rfl⟩
instance : FieldT Tryz.prog 151 0 0 0 := ⟨by kernel_rfl⟩
instance : FieldT Tryz.prog 151 1 1 0 := ⟨by kernel_rfl⟩
instance : FieldT Tryz.prog 151 2 2 0 := ⟨by kernel_rfl⟩
instance : FieldT Tryz.prog 151 3 3 0 := ⟨by kernel_rfl⟩
instance : StructT Tryz.prog 151 [(.string ⟨#[]⟩), (.int .i64 0), (.int .u64 0), (.int .u64 0)] [(0, 1), (1, 1), (2, 1), (3, 1)] := ⟨by kernel_rfl⟩
instance : ZeroT Tryz.prog 152 [(.val (.string ⟨#[]⟩)), (.val (.int .i64 0)), (.val (.int .u64 0)), (.val (.int .u64 0))] := ⟨by kernel_rfl⟩
instance : AggT Tryz.prog 152 4 := ⟨by kernel_rfl⟩
instance : FieldT Tryz.prog 152 0 0 0 := ⟨by kernel_rfl⟩
instance : FieldT Tryz.prog 152 1 1 0 := ⟨by kernel_rfl⟩
instance : FieldT Tryz.prog 152 2 2 0 := ⟨by kernel_rfl⟩
instance : FieldT Tryz.prog 152 3 3 0 := ⟨by kernel_rfl⟩
instance : StructT Tryz.prog 152 [(.string ⟨#[]⟩), (.int .i64 0), (.int .u64 0), (.int .u64 0)] [(0, 1), (1, 1), (2, 1), (3, 1)] := ⟨by kernel_rfl⟩
instance : ZeroT Tryz.prog 153 [(.val (.nilFunc))] := ⟨by kernel_rfl⟩
instance : OneT Tryz.prog 153 := ⟨by kernel_rfl⟩
instance : ZeroT Tryz.prog 154 [(.val (.nilFunc))] := ⟨by kernel_rfl⟩
instance : OneT Tryz.prog 154 := ⟨by kernel_rfl⟩
instance : ZeroT Tryz.prog 155 [(.val (.nilFunc))] := ⟨by kernel_rfl⟩
instance : OneT Tryz.prog 155 := ⟨by kernel_rfl⟩
instance : ZeroT Tryz.prog 156 [(.val (.nilFunc))] := ⟨by kernel_rfl⟩
instance : OneT Tryz.prog 156 := ⟨by kernel_rfl⟩
instance : ZeroT Tryz.prog 157 [(.val (.nilFunc))] := ⟨by kernel_rfl⟩
instance : OneT Tryz.prog 157 := ⟨by kernel_rfl⟩
instance : ZeroT Tryz.prog 158 [(.val (.nilFunc))] := ⟨by kernel_rfl⟩
instance : OneT Tryz.prog 158 := ⟨by kernel_rfl⟩
instance : ZeroT Tryz.prog 159 [(.val (.nilFunc))] := ⟨by kernel_rfl⟩
instance : OneT Tryz.prog 159 := ⟨by kernel_rfl⟩
instance : ZeroT Tryz.prog 161 [(.val (.nilFunc))] := ⟨by kernel_rfl⟩
instance : OneT Tryz.prog 161 := ⟨by kernel_rfl⟩
instance : ZeroT Tryz.prog 162 [(.val (.nilFunc))] := ⟨by kernel_rfl⟩
instance : OneT Tryz.prog 162 := ⟨by kernel_rfl⟩
instance : ZeroT Tryz.prog 163 [(.val (.nilFunc))] := ⟨by kernel_rfl⟩
instance : OneT Tryz.prog 163 := ⟨by kernel_rfl⟩
instance : ZeroT Tryz.prog 164 [(.val (.nilFunc))] := ⟨by kernel_rfl⟩
instance : OneT Tryz.prog 164 := ⟨by kernel_rfl⟩
instance : ZeroT Tryz.prog 165 (List.replicate 256 (.val (.bool false))) := ⟨by kernel_rfl⟩
instance : AggT Tryz.prog 165 256 := ⟨by kernel_rfl⟩
instance : ArrT Tryz.prog 165 256 1 := ⟨by kernel_rfl⟩
instance : ZeroT Tryz.prog 166 (List.replicate 256 (.val (.bool false))) := ⟨by kernel_rfl⟩
instance : AggT Tryz.prog 166 256 := ⟨by kernel_rfl⟩
instance : ArrT Tryz.prog 166 256 1 := ⟨by kernel_rfl⟩
instance : ZeroT Tryz.prog 168 [(.val (.nilFunc))] := ⟨by kernel_rfl⟩
instance : OneT Tryz.prog 168 := ⟨by kernel_rfl⟩
instance : ZeroT Tryz.prog 169 [(.val (.nilFunc))] := ⟨by kernel_rfl⟩
instance : OneT Tryz.prog 169 := ⟨by kernel_rfl⟩
instance : ZeroT Tryz.prog 170 [(.val (.pointer none))] := ⟨by kernel_rfl⟩
instance : OneT Tryz.prog 170 := ⟨by kernel_rfl⟩
instance : ZeroT Tryz.prog 171 [(.val (.nilFunc))] := ⟨by kernel_rfl⟩
instance : OneT Tryz.prog 171 := ⟨by kernel_rfl⟩
instance : ZeroT Tryz.prog 172 [(.val (.int .u64 0)), (.val (.int .u64 0)), (.val (.int .u64 0)), (.val (.int .u64 0)), (.val (.int .u64 0)), (.val (.int .u64 0)), (.val (.int .u64 0)), (.val (.int .u64 0)), (.val (.int .u64 0)), (.val (.int .u64 0)), (.val (.int .u64 0))] := ⟨by kernel_rfl⟩
instance : AggT Tryz.prog 172 11 := ⟨by kernel_rfl⟩
instance : ArrT Tryz.prog 172 11 1 := ⟨by kernel_rfl⟩
instance : ZeroT Tryz.prog 173 [(.val (.nilFunc))] := ⟨by kernel_rfl⟩
instance : OneT Tryz.prog 173 := ⟨by kernel_rfl⟩
instance : ZeroT Tryz.prog 174 (List.replicate 40 (.val (.int .i64 0))) := ⟨by kernel_rfl⟩
instance : AggT Tryz.prog 174 40 := ⟨by kernel_rfl⟩
instance : ArrT Tryz.prog 174 40 1 := ⟨by kernel_rfl⟩
instance : ZeroT Tryz.prog 175 ([(.val (.bool false))] ++ List.replicate 40 (.val (.int .i64 0))) := ⟨by kernel_rfl⟩
instance : AggT Tryz.prog 175 41 := ⟨by kernel_rfl⟩
instance : FieldT Tryz.prog 175 0 0 0 := ⟨by kernel_rfl⟩
instance : FieldT Tryz.prog 175 1 1 39 := ⟨by kernel_rfl⟩
instance : StructT Tryz.prog 175 ([(.bool false)] ++ List.replicate 40 (.int .i64 0)) [(0, 1), (1, 40)] := ⟨by kernel_rfl⟩
instance : ZeroT Tryz.prog 176 ([(.val (.bool false))] ++ List.replicate 40 (.val (.int .i64 0))) := ⟨by kernel_rfl⟩
instance : AggT Tryz.prog 176 41 := ⟨by kernel_rfl⟩
instance : FieldT Tryz.prog 176 0 0 0 := ⟨by kernel_rfl⟩
instance : FieldT Tryz.prog 176 1 1 39 := ⟨by kernel_rfl⟩
instance : StructT Tryz.prog 176 ([(.bool false)] ++ List.replicate 40 (.int .i64 0)) [(0, 1), (1, 40)] := ⟨by kernel_rfl⟩
instance : ZeroT Tryz.prog 177 [(.val (.nilFunc))] := ⟨by kernel_rfl⟩
instance : OneT Tryz.prog 177 := ⟨by kernel_rfl⟩
instance : ZeroT Tryz.prog 178 [(.val (.nilFunc))] := ⟨by kernel_rfl⟩
instance : OneT Tryz.prog 178 := ⟨by kernel_rfl⟩
instance : ZeroT Tryz.prog 179 [(.val (.int .u64 0)), (.val (.int .u64 0))] := ⟨by kernel_rfl⟩
instance : AggT Tryz.prog 179 2 := ⟨by kernel_rfl⟩
instance : FieldT Tryz.prog 179 0 0 0 := ⟨by kernel_rfl⟩
instance : FieldT Tryz.prog 179 1 1 0 := ⟨by kernel_rfl⟩
instance : StructT Tryz.prog 179 [(.int .u64 0), (.int .u64 0)] [(0, 1), (1, 1)] := ⟨by kernel_rfl⟩
instance : ZeroT Tryz.prog 180 [(.val (.int .u64 0)), (.val (.int .u64 0))] := ⟨by kernel_rfl⟩
instance : AggT Tryz.prog 180 2 := ⟨by kernel_rfl⟩
instance : FieldT Tryz.prog 180 0 0 0 := ⟨by kernel_rfl⟩
instance : FieldT Tryz.prog 180 1 1 0 := ⟨by kernel_rfl⟩
instance : StructT Tryz.prog 180 [(.int .u64 0), (.int .u64 0)] [(0, 1), (1, 1)] := ⟨by kernel_rfl⟩
instance : ZeroT Tryz.prog 181 [(.val (.nilFunc))] := ⟨by kernel_rfl⟩
instance : OneT Tryz.prog 181 := ⟨by kernel_rfl⟩
instance : ZeroT Tryz.prog 183 [(.val (.nilFunc))] := ⟨by kernel_rfl⟩
instance : OneT Tryz.prog 183 := ⟨by kernel_rfl⟩
instance : ZeroT Tryz.prog 184 [(.val (.nilFunc))] := ⟨by kernel_rfl⟩
instance : OneT Tryz.prog 184 := ⟨by kernel_rfl⟩
instance : ZeroT Tryz.prog 185 [(.val (.nilFunc))] := ⟨by kernel_rfl⟩
instance : OneT Tryz.prog 185 := ⟨by kernel_rfl⟩
instance : ZeroT Tryz.prog 186 [(.val (.nilFunc))] := ⟨by kernel_rfl⟩
instance : OneT Tryz.prog 186 := ⟨by kernel_rfl⟩
instance : ZeroT Tryz.prog 187 [(.val (.nilFunc))] := ⟨by kernel_rfl⟩
instance : OneT Tryz.prog 187 := ⟨by kernel_rfl⟩
instance : ZeroT Tryz.prog 188 [(.val (.nilFunc))] := ⟨by kernel_rfl⟩
instance : OneT Tryz.prog 188 := ⟨by kernel_rfl⟩
instance : ZeroT Tryz.prog 189 (List.replicate 256 (.val (.int .u8 0))) := ⟨by kernel_rfl⟩
instance : AggT Tryz.prog 189 256 := ⟨by kernel_rfl⟩
instance : ArrT Tryz.prog 189 256 1 := ⟨by kernel_rfl⟩
instance : ZeroT Tryz.prog 190 [(.val (.int .u64 0))] := ⟨by kernel_rfl⟩
instance : OneT Tryz.prog 190 := ⟨by kernel_rfl⟩
instance : IntT Tryz.prog 190 .u64 := ⟨by kernel_rfl⟩
instance : ZeroT Tryz.prog 191 [(.val (.int .u8 0)), (.val (.int .u8 0))] := ⟨by kernel_rfl⟩
instance : AggT Tryz.prog 191 2 := ⟨by kernel_rfl⟩
instance : FieldT Tryz.prog 191 0 0 0 := ⟨by kernel_rfl⟩
instance : FieldT Tryz.prog 191 1 1 0 := ⟨by kernel_rfl⟩
instance : StructT Tryz.prog 191 [(.int .u8 0), (.int .u8 0)] [(0, 1), (1, 1)] := ⟨by kernel_rfl⟩
instance : ZeroT Tryz.prog 192 [(.val (.int .u8 0)), (.val (.int .u8 0))] := ⟨by kernel_rfl⟩
instance : AggT Tryz.prog 192 2 := ⟨by kernel_rfl⟩
instance : FieldT Tryz.prog 192 0 0 0 := ⟨by kernel_rfl⟩
instance : FieldT Tryz.prog 192 1 1 0 := ⟨by kernel_rfl⟩
instance : StructT Tryz.prog 192 [(.int .u8 0), (.int .u8 0)] [(0, 1), (1, 1)] := ⟨by kernel_rfl⟩
instance : ZeroT Tryz.prog 193 (List.replicate 32 (.val (.int .u8 0))) := ⟨by kernel_rfl⟩
instance : AggT Tryz.prog 193 32 := ⟨by kernel_rfl⟩
instance : ArrT Tryz.prog 193 16 2 := ⟨by kernel_rfl⟩
instance : ZeroT Tryz.prog 194 [(.val (.nilFunc))] := ⟨by kernel_rfl⟩
instance : OneT Tryz.prog 194 := ⟨by kernel_rfl⟩
instance : ZeroT Tryz.prog 195 [(.val (.nilFunc))] := ⟨by kernel_rfl⟩
instance : OneT Tryz.prog 195 := ⟨by kernel_rfl⟩
instance : ZeroT Tryz.prog 196 [(.val (.nilFunc))] := ⟨by kernel_rfl⟩
instance : OneT Tryz.prog 196 := ⟨by kernel_rfl⟩
instance : ZeroT Tryz.prog 197 [(.val (.nilFunc))] := ⟨by kernel_rfl⟩
instance : OneT Tryz.prog 197 := ⟨by kernel_rfl⟩
instance : ZeroT Tryz.prog 198 [(.val (.nilFunc))] := ⟨by kernel_rfl⟩
instance : OneT Tryz.prog 198 := ⟨by kernel_rfl⟩
instance : ZeroT Tryz.prog 199 [(.val (.pointer none)), (.val (.pointer none)), (.val (.pointer none)), (.val (.string ⟨#[]⟩))] := ⟨by kernel_rfl⟩
instance : AggT Tryz.prog 199 4 := ⟨by kernel_rfl⟩
instance : FieldT Tryz.prog 199 0 0 0 := ⟨by kernel_rfl⟩
instance : FieldT Tryz.prog 199 1 1 0 := ⟨by kernel_rfl⟩
instance : FieldT Tryz.prog 199 2 2 0 := ⟨by kernel_rfl⟩
instance : FieldT Tryz.prog 199 3 3 0 := ⟨by kernel_rfl⟩
instance : StructT Tryz.prog 199 [(.pointer none), (.pointer none), (.pointer none), (.string ⟨#[]⟩)] [(0, 1), (1, 1), (2, 1), (3, 1)] := ⟨by kernel_rfl⟩
instance : ZeroT Tryz.prog 200 [(.val (.pointer none)), (.val (.pointer none)), (.val (.pointer none)), (.val (.string ⟨#[]⟩))] := ⟨by kernel_rfl⟩
instance : AggT Tryz.prog 200 4 := ⟨by kernel_rfl⟩
instance : FieldT Tryz.prog 200 0 0 0 := ⟨by kernel_rfl⟩
instance : FieldT Tryz.prog 200 1 1 0 := ⟨by kernel_rfl⟩
instance : FieldT Tryz.prog 200 2 2 0 := ⟨by kernel_rfl⟩
instance : FieldT Tryz.prog 200 3 3 0 := ⟨by kernel_rfl⟩
instance : StructT Tryz.prog 200 [(.pointer none), (.pointer none), (.pointer none), (.string ⟨#[]⟩)] [(0, 1), (1, 1), (2, 1), (3, 1)] := ⟨by kernel_rfl⟩
instance : ZeroT Tryz.prog 201 [] := ⟨by kernel_rfl⟩
instance : AggT Tryz.prog 201 0 := ⟨by kernel_rfl⟩
instance : ArrT Tryz.prog 201 0 1 := ⟨by kernel_rfl⟩
instance : ZeroT Tryz.prog 202 [] := ⟨by kernel_rfl⟩
instance : AggT Tryz.prog 202 0 := ⟨by kernel_rfl⟩
instance : StructT Tryz.prog 202 [] [(0, 0)] := ⟨by kernel_rfl⟩
instance : ZeroT Tryz.prog 203 [] := ⟨by kernel_rfl⟩
instance : AggT Tryz.prog 203 0 := ⟨by kernel_rfl⟩
instance : StructT Tryz.prog 203 [] [(0, 0)] := ⟨by kernel_rfl⟩
instance : ZeroT Tryz.prog 204 [(.val (.int .u32 0))] := ⟨by kernel_rfl⟩
instance : OneT Tryz.prog 204 := ⟨by kernel_rfl⟩
instance : IntT Tryz.prog 204 .u32 := ⟨by kernel_rfl⟩
instance : ZeroT Tryz.prog 205 [(.val (.int .u8 0))] := ⟨by kernel_rfl⟩
instance : OneT Tryz.prog 205 := ⟨by kernel_rfl⟩
instance : IntT Tryz.prog 205 .u8 := ⟨by kernel_rfl⟩
instance : ZeroT Tryz.prog 206 [(.val (.int .u8 0))] := ⟨by kernel_rfl⟩
instance : OneT Tryz.prog 206 := ⟨by kernel_rfl⟩
instance : IntT Tryz.prog 206 .u8 := ⟨by kernel_rfl⟩
instance : ZeroT Tryz.prog 207 [(.val (.nilFunc))] := ⟨by kernel_rfl⟩
instance : OneT Tryz.prog 207 := ⟨by kernel_rfl⟩
instance : ZeroT Tryz.prog 208 [(.val (.pointer none))] := ⟨by kernel_rfl⟩
instance : OneT Tryz.prog 208 := ⟨by kernel_rfl⟩
instance : ZeroT Tryz.prog 209 [(.val (.int .i32 0))] := ⟨by kernel_rfl⟩
instance : OneT Tryz.prog 209 := ⟨by kernel_rfl⟩
instance : IntT Tryz.prog 209 .i32 := ⟨by kernel_rfl⟩
instance : ZeroT Tryz.prog 210 [(.val (.int .i32 0))] := ⟨by kernel_rfl⟩
instance : OneT Tryz.prog 210 := ⟨by kernel_rfl⟩
instance : IntT Tryz.prog 210 .i32 := ⟨by kernel_rfl⟩
instance : ZeroT Tryz.prog 211 [(.val (.int .u64 0)), (.val (.int .u64 0)), (.val (.int .u32 0)), (.val (.int .u8 0)), (.val (.int .u8 0)), (.val (.int .u8 0)), (.val (.int .u8 0)), (.val (.nilFunc)), (.val (.pointer none)), (.val (.int .i32 0)), (.val (.int .i32 0))] := ⟨by kernel_rfl⟩
instance : AggT Tryz.prog 211 11 := ⟨by kernel_rfl⟩
instance : FieldT Tryz.prog 211 0 0 0 := ⟨by kernel_rfl⟩
instance : FieldT Tryz.prog 211 1 1 0 := ⟨by kernel_rfl⟩
instance : FieldT Tryz.prog 211 2 2 0 := ⟨by kernel_rfl⟩
instance : FieldT Tryz.prog 211 3 3 0 := ⟨by kernel_rfl⟩
instance : FieldT Tryz.prog 211 4 4 0 := ⟨by kernel_rfl⟩
instance : FieldT Tryz.prog 211 5 5 0 := ⟨by kernel_rfl⟩
instance : FieldT Tryz.prog 211 6 6 0 := ⟨by kernel_rfl⟩
instance : FieldT Tryz.prog 211 7 7 0 := ⟨by kernel_rfl⟩
instance : FieldT Tryz.prog 211 8 8 0 := ⟨by kernel_rfl⟩
instance : FieldT Tryz.prog 211 9 9 0 := ⟨by kernel_rfl⟩
instance : FieldT Tryz.prog 211 10 10 0 := ⟨by kernel_rfl⟩
instance : StructT Tryz.prog 211 [(.int .u64 0), (.int .u64 0), (.int .u32 0), (.int .u8 0), (.int .u8 0), (.int .u8 0), (.int .u8 0), (.nilFunc), (.pointer none), (.int .i32 0), (.int .i32 0)] [(0, 1), (1, 1), (2, 1), (3, 1), (4, 1), (5, 1), (6, 1), (7, 1), (8, 1), (9, 1), (10, 1)] := ⟨by kernel_rfl⟩
instance : ZeroT Tryz.prog 212 [(.val (.int .u64 0)), (.val (.int .u64 0)), (.val (.int .u32 0)), (.val (.int .u8 0)), (.val (.int .u8 0)), (.val (.int .u8 0)), (.val (.int .u8 0)), (.val (.nilFunc)), (.val (.pointer none)), (.val (.int .i32 0)), (.val (.int .i32 0))] := ⟨by kernel_rfl⟩
instance : AggT Tryz.prog 212 11 := ⟨by kernel_rfl⟩
instance : FieldT Tryz.prog 212 0 0 0 := ⟨by kernel_rfl⟩
instance : FieldT Tryz.prog 212 1 1 0 := ⟨by kernel_rfl⟩
instance : FieldT Tryz.prog 212 2 2 0 := ⟨by kernel_rfl⟩
instance : FieldT Tryz.prog 212 3 3 0 := ⟨by kernel_rfl⟩
instance : FieldT Tryz.prog 212 4 4 0 := ⟨by kernel_rfl⟩
instance : FieldT Tryz.prog 212 5 5 0 := ⟨by kernel_rfl⟩
instance : FieldT Tryz.prog 212 6 6 0 := ⟨by kernel_rfl⟩
instance : FieldT Tryz.prog 212 7 7 0 := ⟨by kernel_rfl⟩
instance : FieldT Tryz.prog 212 8 8 0 := ⟨by kernel_rfl⟩
instance : FieldT Tryz.prog 212 9 9 0 := ⟨by kernel_rfl⟩
instance : FieldT Tryz.prog 212 10 10 0 := ⟨by kernel_rfl⟩
instance : StructT Tryz.prog 212 [(.int .u64 0), (.int .u64 0), (.int .u32 0), (.int .u8 0), (.int .u8 0), (.int .u8 0), (.int .u8 0), (.nilFunc), (.pointer none), (.int .i32 0), (.int .i32 0)] [(0, 1), (1, 1), (2, 1), (3, 1), (4, 1), (5, 1), (6, 1), (7, 1), (8, 1), (9, 1), (10, 1)] := ⟨by kernel_rfl⟩
end Go.Proofs.YtnomcmklhbjfjaaGreatDoor
end
section
namespace Go.Lg
open Go Go.RowKit
theorem strs_eq {p q : ByteArray} {r : Bool} (h : (p.data.toList == q.data.toList) = r) : (p.toList == q.toList) = r := by rw [ByteArray.toList_eq, ByteArray.toList_eq, h]
theorem strs_ne {p q : ByteArray} {r : Bool} (h : (!(p.data.toList == q.data.toList)) = r) : (!(p.toList == q.toList)) = r := by rw [ByteArray.toList_eq, ByteArray.toList_eq, h]
theorem str_at {l : List UInt8} {i : Nat} {b : UInt8} (h : l[i]? = some b) : (⟨l.toArray⟩ : ByteArray)[i]? = some b := by
  obtain ⟨hi, h⟩ := List.getElem?_eq_some_iff.1 h
  have hs : i < (⟨l.toArray⟩ : ByteArray).size := by simpa [ByteArray.size] using hi
  rw [getElem?_pos _ i hs]
  exact congrArg some h
theorem str_add (a b : List UInt8) : (⟨a.toArray⟩ : ByteArray) ++ ⟨b.toArray⟩ = ⟨(a ++ b).toArray⟩ := by
  apply ByteArray.ext
  rw [ByteArray.data_append]
  simp
theorem str_cut (l : List UInt8) (a b : Nat) : (⟨l.toArray⟩ : ByteArray).extract a b = ⟨((l.drop a).take (b - a)).toArray⟩ := by
  apply ByteArray.ext
  apply Array.ext'
  rw [Lib.extract_data]
end Go.Lg
namespace Go.Proofs.YtnomcmklhbjfjaaGreatDoor
open Go Go.Lg
abbrev Lb (b : Bool) : LV := .sv (.one (.val (.bool b)))
abbrev Ln (k : IntKind) (n : Int) : LV := .sv (.one (.val (.int k n)))
abbrev Ls (l : List UInt8) : LV := .sv (.one (.val (.string ⟨l.toArray⟩)))
abbrev Sb (b : Bool) : SV := .one (.val (.bool b))
abbrev Sn (k : IntKind) (n : Int) : SV := .one (.val (.int k n))
abbrev Ss (l : List UInt8) : SV := .one (.val (.string ⟨l.toArray⟩))
abbrev Lp (k : Nat) : LV := .sv (.one (.ptr k 0))
abbrev vs (l : List UInt8) : CV := .val (.string ⟨l.toArray⟩)
end Go.Proofs.YtnomcmklhbjfjaaGreatDoor
end
section
namespace Go.Proofs.YtnomcmklhbjfjaaGreatDoor
open Go Go.Lg
abbrev Li (b : Bool) (h l : Int) : LV := .sv (.agg [.val (.bool b), .val (.int .u64 h), .val (.int .u64 l)])
abbrev Lz (h l : Int) : LV := .sv (.agg [.val (.int .u64 h), .val (.int .u64 l)])
abbrev LI (b : Bool) (N : Int) : LV := Li b (N / 18446744073709551616) (N % 18446744073709551616)
abbrev LZ (N : Int) : LV := Lz (N / 18446744073709551616) (N % 18446744073709551616)
abbrev SI (b : Bool) (N : Int) : SV := .agg [.val (.bool b), .val (.int .u64 (N / 18446744073709551616)), .val (.int .u64 (N % 18446744073709551616))]
def In2 (N : Int) : Prop := 0 ≤ N ∧ N < 340282366920938463463374607431768211456
variable (X : Nat → Option Obj)
theorem sizeOf_spec (b : Bool) (h l : Int) : PSpec Tryz.prog X 117 [Li b h l] (Lz h l) := by
  refine PSpec.intro Tryz.func117 rfl (by kernel_rfl) rfl rfl ?_
  intro C
  (refine LWP.seq <| LWP.region (by kernel_rfl) <| K.box rfl rfl rfl .plain <| K.alloc rfl .plain ?_; refine RunK.nil <| LWP.seq <| LWP.region (by kernel_rfl) <| kfa rfl rfl ?_; refine kl1 rfl rfl rfl <| kfa rfl rfl ?_; refine kl1 rfl rfl rfl <| K.build rfl rfl (by exact rfl) (by exact nl2 rfl rfl rfl) .plain ?_; refine K.storeAll rfl rfl rfl rfl rfl rfl .plain ?_; refine RunK.nil <| LWP.ret ?_)
  exact ⟨[_], ⟨⟨_, _, rfl, rfl, rfl, .inl ⟨AggT.h, rfl⟩⟩, trivial⟩, rfl⟩
theorem zero_spec (N : Int) (hN : In2 N) (r : Bool) (hr : (N == 0) = r) : PSpec Tryz.prog X 123 [LZ N] (Lb r) := by
  subst hr
  obtain ⟨h0, h1⟩ := hN
  refine PSpec.intro Tryz.func123 rfl (by kernel_rfl) rfl rfl ?_
  intro C
  by_cases ha : N / 18446744073709551616 = 0
  · by_cases hb : N % 18446744073709551616 = 0
    · (refine LWP.seq <| LWP.region (by kernel_rfl) <| K.box rfl rfl rfl .plain <| kas rfl <| RunK.nil <| LWP.seq <| LWP.region (by kernel_rfl) <| kfa rfl rfl ?_; refine kl1 rfl rfl rfl <| keq rfl rfl (beq_iff_eq.2 (by omega)) <| kmv rfl <| K.fieldAddr rfl rfl (.taken rfl rfl) ?_; refine K.loadOne rfl rfl rfl (.taken rfl rfl) ?_; refine K.eql rfl rfl (beq_iff_eq.2 (by omega)) (.taken rfl rfl) ?_; refine kpt rfl rfl <| kas rfl <| RunK.nil <| LWP.ret ?_)
      exact ⟨[_], ⟨rfl, trivial⟩, by rw [show (N == 0) = true from beq_iff_eq.2 (by omega)]; rfl⟩
    · (refine LWP.seq <| LWP.region (by kernel_rfl) <| K.box rfl rfl rfl .plain <| kas rfl <| RunK.nil <| LWP.seq <| LWP.region (by kernel_rfl) <| kfa rfl rfl ?_; refine kl1 rfl rfl rfl <| keq rfl rfl (beq_iff_eq.2 (by omega)) <| kmv rfl <| K.fieldAddr rfl rfl (.taken rfl rfl) ?_; refine K.loadOne rfl rfl rfl (.taken rfl rfl) ?_; refine K.eql rfl rfl (beq_eq_false_iff_ne.2 (by omega)) (.taken rfl rfl) ?_; refine kpt rfl rfl <| kas rfl <| RunK.nil <| LWP.ret ?_)
      exact ⟨[_], ⟨rfl, trivial⟩, by rw [show (N == 0) = false from beq_eq_false_iff_ne.2 (by omega)]; rfl⟩
  · (refine LWP.seq <| LWP.region (by kernel_rfl) <| K.box rfl rfl rfl .plain <| kas rfl <| RunK.nil <| LWP.seq <| LWP.region (by kernel_rfl) <| kfa rfl rfl ?_; refine kl1 rfl rfl rfl <| keq rfl rfl (beq_eq_false_iff_ne.2 (by omega)) <| kmv rfl <| RunK.passed rfl rfl rfl <| RunK.passed rfl rfl rfl <| RunK.passed rfl rfl rfl <| kpf rfl rfl <| kas rfl <| RunK.nil <| LWP.ret ?_)
    exact ⟨[_], ⟨rfl, trivial⟩, by rw [show (N == 0) = false from beq_eq_false_iff_ne.2 (by omega)]; rfl⟩
theorem fits_spec (N : Int) (hN : In2 N) (r : Bool) (hr : decide (N < 170141183460469231731687303715884105728) = r) : PSpec Tryz.prog X 122 [LZ N] (Lb r) := by
  subst hr
  obtain ⟨h0, h1⟩ := hN
  refine PSpec.intro Tryz.func122 rfl (by kernel_rfl) rfl rfl ?_
  intro C
  (refine LWP.seq <| LWP.region (by kernel_rfl) <| K.box rfl rfl rfl .plain <| kas rfl <| RunK.nil <| LWP.seq <| LWP.region (by kernel_rfl) <| kfa rfl rfl ?_; refine kl1 rfl rfl rfl <| klt rfl rfl rfl <| kas rfl <| RunK.nil <| LWP.ret ?_)
  exact ⟨[_], ⟨rfl, trivial⟩, by rw [decide_eq_decide.2 (show (N / 18446744073709551616 < 9223372036854775808) ↔ N < 170141183460469231731687303715884105728 by omega)]; rfl⟩
def formB (b : Bool) (N : Int) : Bool := decide (N < 170141183460469231731687303715884105728) && !(b && N == 0)
theorem Form_spec (b : Bool) (N : Int) (hN : In2 N) (r : Bool) (hr : formB b N = r) : PSpec Tryz.prog X 112 [LI b N] (Lb r) := by
  subst hr
  refine PSpec.intro Tryz.func112 rfl (by kernel_rfl) rfl rfl ?_
  intro C
  cases b
  · (refine LWP.seq <| LWP.region (by kernel_rfl) <| K.box rfl rfl rfl .plain <| kas rfl <| RunK.nil <| LWP.seq <| LWP.seq <| LWP.region (by kernel_rfl) <| kfa rfl rfl ?_; refine kl1 rfl rfl rfl <| RunK.nil <| LWP.condF rfl ?_; refine LWP.skip ?_; refine LWP.seq <| LWP.region (by kernel_rfl) <| K.loadAll rfl rfl rfl .plain ?_; refine kca rfl rfl (sizeOf_spec _ _ _ _) <| kca rfl rfl (fits_spec _ _ hN _ rfl) <| kas rfl <| RunK.nil <| LWP.ret ?_)
    exact ⟨[_], ⟨rfl, trivial⟩, by simp [formB, resOf]⟩
  · by_cases hf : N < 170141183460469231731687303715884105728
    · (refine LWP.seq <| LWP.region (by kernel_rfl) <| K.box rfl rfl rfl .plain <| kas rfl <| RunK.nil <| LWP.seq <| LWP.seq <| LWP.region (by kernel_rfl) <| kfa rfl rfl ?_; refine kl1 rfl rfl rfl <| RunK.nil <| LWP.condT rfl ?_; refine LWP.seq <| LWP.region (by kernel_rfl) <| K.loadAll rfl rfl rfl .plain ?_; refine kca rfl rfl (sizeOf_spec _ _ _ _) <| kca rfl rfl (fits_spec _ _ hN true (decide_eq_true hf)) <| kmv rfl <| K.loadAll rfl rfl rfl (.taken rfl rfl) ?_; refine gca rfl rfl (sizeOf_spec _ _ _ _) rfl rfl <| gca rfl rfl (zero_spec _ _ hN _ rfl) rfl rfl <| K.not rfl rfl (.taken rfl rfl) ?_; refine kpt rfl rfl <| kas rfl <| RunK.nil <| LWP.ret ?_)
      exact ⟨[_], ⟨rfl, trivial⟩, by simp [formB, resOf, hf]⟩
    · (refine LWP.seq <| LWP.region (by kernel_rfl) <| K.box rfl rfl rfl .plain <| kas rfl <| RunK.nil <| LWP.seq <| LWP.seq <| LWP.region (by kernel_rfl) <| kfa rfl rfl ?_; refine kl1 rfl rfl rfl <| RunK.nil <| LWP.condT rfl ?_; refine LWP.seq <| LWP.region (by kernel_rfl) <| K.loadAll rfl rfl rfl .plain ?_; refine kca rfl rfl (sizeOf_spec _ _ _ _) <| kca rfl rfl (fits_spec _ _ hN false (decide_eq_false hf)) <| kmv rfl <| RunK.passed rfl rfl rfl <| RunK.passed rfl rfl rfl <| RunK.passed rfl rfl rfl <| RunK.passed rfl rfl rfl <| kpf rfl rfl <| kas rfl <| RunK.nil <| LWP.ret ?_)
      exact ⟨[_], ⟨rfl, trivial⟩, by simp [formB, resOf, hf]⟩
end Go.Proofs.YtnomcmklhbjfjaaGreatDoor
end
section
namespace Go.Proofs.YtnomcmklhbjfjaaGreatDoor
open Go Go.Lg
variable (X : Nat → Option Obj)
theorem bothForm_spec (b c : Bool) (M N : Int) (hM : In2 M) (hN : In2 N) (r : Bool) (hr : (formB b M && formB c N) = r) : PSpec Tryz.prog X 124 [LI b M, LI c N] (Lb r) := by
  subst hr
  refine PSpec.intro Tryz.func124 rfl (by kernel_rfl) rfl rfl ?_
  intro C
  cases h1 : formB b M
  · (refine LWP.seq <| LWP.region (by kernel_rfl) <| K.box rfl rfl rfl .plain <| K.box rfl rfl rfl .plain <| kas rfl <| RunK.nil <| LWP.seq <| LWP.region (by kernel_rfl) <| K.loadAll rfl rfl rfl .plain ?_; refine kca rfl rfl (Form_spec _ _ _ hM _ h1) <| kmv rfl <| RunK.passed rfl rfl rfl <| RunK.passed rfl rfl rfl <| kpf rfl rfl <| kas rfl <| RunK.nil <| LWP.ret ?_)
    exact ⟨[_], ⟨rfl, trivial⟩, by simp [resOf]⟩
  · (refine LWP.seq <| LWP.region (by kernel_rfl) <| K.box rfl rfl rfl .plain <| K.box rfl rfl rfl .plain <| kas rfl <| RunK.nil <| LWP.seq <| LWP.region (by kernel_rfl) <| K.loadAll rfl rfl rfl .plain ?_; refine kca rfl rfl (Form_spec _ _ _ hM _ h1) <| kmv rfl <| K.loadAll rfl rfl rfl (.taken rfl rfl) ?_; refine gca rfl rfl (Form_spec _ _ _ hN _ rfl) rfl rfl <| kpt rfl rfl <| kas rfl <| RunK.nil <| LWP.ret ?_)
    exact ⟨[_], ⟨rfl, trivial⟩, by simp [resOf]⟩
def sg (b : Bool) (N : Int) : Bool := b && !(N == 0)
theorem number_spec (b : Bool) (N : Int) (hN : In2 N) (r : Bool) (hr : sg b N = r) : PSpec Tryz.prog X 116 [Lb b, LZ N] (LI r N) := by
  subst hr
  refine PSpec.intro Tryz.func116 rfl (by kernel_rfl) rfl rfl ?_
  intro C
  cases b
  · (refine LWP.seq <| LWP.region (by kernel_rfl) <| K.box rfl rfl rfl .plain <| K.alloc rfl .plain ?_; refine RunK.nil <| LWP.seq <| LWP.draws mixed (by kernel_rfl) <| kmv rfl <| kmv rfl <| RunK.passed rfl rfl rfl <| RunK.passed rfl rfl rfl <| RunK.passed rfl rfl rfl <| kpf rfl rfl <| kfa rfl rfl ?_; refine kl1 rfl rfl rfl <| kfa rfl rfl ?_; refine kl1 rfl rfl rfl <| K.build rfl rfl (by exact rfl) (by exact nl3 rfl rfl rfl rfl) .plain ?_; refine K.storeAll rfl rfl rfl rfl rfl rfl .plain ?_; refine RunK.nil <| And.intro (by kernel_rfl) ?_; refine LWP.ret ?_)
    exact ⟨[_], ⟨⟨_, _, rfl, rfl, rfl, .inl ⟨AggT.h, rfl⟩⟩, trivial⟩, rfl⟩
  · (refine LWP.seq <| LWP.region (by kernel_rfl) <| K.box rfl rfl rfl .plain <| K.alloc rfl .plain ?_; refine RunK.nil <| LWP.seq <| LWP.draws mixed (by kernel_rfl) <| kmv rfl <| kmv rfl <| K.loadAll rfl rfl rfl (.taken rfl rfl) ?_; refine gca rfl rfl (zero_spec _ _ hN _ rfl) rfl rfl <| K.not rfl rfl (.taken rfl rfl) ?_; refine kpt rfl rfl <| kfa rfl rfl ?_; refine kl1 rfl rfl rfl <| kfa rfl rfl ?_; refine kl1 rfl rfl rfl <| K.build rfl rfl (by exact rfl) (by exact nl3 rfl rfl rfl rfl) .plain ?_; refine K.storeAll rfl rfl rfl rfl rfl rfl .plain ?_; refine RunK.nil <| And.intro (by kernel_rfl) ?_; refine LWP.ret ?_)
    exact ⟨[_], ⟨⟨_, _, rfl, rfl, rfl, .inl ⟨AggT.h, rfl⟩⟩, trivial⟩, rfl⟩
end Go.Proofs.YtnomcmklhbjfjaaGreatDoor
end
section
namespace Go.Proofs.YtnomcmklhbjfjaaGreatDoor
open Go Go.Lg
variable (X : Nat → Option Obj)
theorem isNaN_spec (a : Int) : PSpec Tryz.prog X 134 [Ln .u64 a] (Lb false) := by
  refine PSpec.intro Tryz.func134 rfl (by kernel_rfl) rfl rfl ?_
  intro C
  (refine LWP.seq <| LWP.region (by kernel_rfl) <| kas rfl <| RunK.nil <| LWP.seq <| LWP.region (by kernel_rfl) <| kmv rfl <| kmv rfl <| kne rfl rfl ((bne_eq_false_iff_eq.2 (by omega))) <| kas rfl <| RunK.nil <| LWP.ret ?_)
  exact ⟨[_], ⟨rfl, trivial⟩, rfl⟩
def cmpI (a b : Int) : Int := if a < b then -1 else if b < a then 1 else 0
theorem Compare_spec (a b : Int) (r : Int) (hr : cmpI a b = r) : PSpec Tryz.prog X 129 [Ln .u64 a, Ln .u64 b] (Ln .i64 r) := by
  subst hr
  refine PSpec.intro Tryz.func129 rfl (by kernel_rfl) rfl rfl ?_
  intro C
  by_cases h : a < b
  · (refine LWP.seq <| LWP.region (by kernel_rfl) <| kas rfl <| RunK.nil <| LWP.seq <| LWP.region (by kernel_rfl) <| kmv rfl <| kca rfl rfl (isNaN_spec _ _) <| kas rfl <| RunK.nil <| LWP.seq <| LWP.region (by kernel_rfl) <| kmv rfl <| kca rfl rfl (isNaN_spec _ _) ?_; refine kas rfl <| RunK.nil <| LWP.seq <| LWP.seq <| LWP.region (by kernel_rfl) <| kmv rfl <| RunK.nil <| LWP.condF rfl ?_; refine LWP.skip ?_; refine LWP.seq <| LWP.seq <| LWP.region (by kernel_rfl) <| kmv rfl <| RunK.nil <| LWP.condF rfl ?_; refine LWP.skip ?_; refine LWP.seq <| LWP.seq <| LWP.region (by kernel_rfl) <| kmv rfl <| kmv rfl <| klt rfl rfl (decide_eq_true (by omega)) <| RunK.nil <| LWP.condT rfl ?_; refine LWP.seq <| LWP.region (by kernel_rfl) <| kas rfl <| RunK.nil <| LWP.ret ?_)
    exact ⟨[_], ⟨rfl, trivial⟩, by simp [cmpI, h, resOf]⟩
  · by_cases h' : b < a
    · (refine LWP.seq <| LWP.region (by kernel_rfl) <| kas rfl <| RunK.nil <| LWP.seq <| LWP.region (by kernel_rfl) <| kmv rfl <| kca rfl rfl (isNaN_spec _ _) <| kas rfl <| RunK.nil <| LWP.seq <| LWP.region (by kernel_rfl) <| kmv rfl <| kca rfl rfl (isNaN_spec _ _) ?_; refine kas rfl <| RunK.nil <| LWP.seq <| LWP.seq <| LWP.region (by kernel_rfl) <| kmv rfl <| RunK.nil <| LWP.condF rfl ?_; refine LWP.skip ?_; refine LWP.seq <| LWP.seq <| LWP.region (by kernel_rfl) <| kmv rfl <| RunK.nil <| LWP.condF rfl ?_; refine LWP.skip ?_; refine LWP.seq <| LWP.seq <| LWP.region (by kernel_rfl) <| kmv rfl <| kmv rfl <| klt rfl rfl (decide_eq_false (by omega)) <| RunK.nil <| LWP.condF rfl ?_; refine LWP.skip ?_; refine LWP.seq <| LWP.seq <| LWP.region (by kernel_rfl) <| kmv rfl <| kmv rfl <| K.gtr rfl rfl (decide_eq_true (by omega)) .plain <| RunK.nil <| LWP.condT rfl ?_; refine LWP.seq <| LWP.region (by kernel_rfl) <| kas rfl <| RunK.nil <| LWP.ret ?_)
      exact ⟨[_], ⟨rfl, trivial⟩, by simp [cmpI, h, h', resOf]⟩
    · (refine LWP.seq <| LWP.region (by kernel_rfl) <| kas rfl <| RunK.nil <| LWP.seq <| LWP.region (by kernel_rfl) <| kmv rfl <| kca rfl rfl (isNaN_spec _ _) <| kas rfl <| RunK.nil <| LWP.seq <| LWP.region (by kernel_rfl) <| kmv rfl <| kca rfl rfl (isNaN_spec _ _) ?_; refine kas rfl <| RunK.nil <| LWP.seq <| LWP.seq <| LWP.region (by kernel_rfl) <| kmv rfl <| RunK.nil <| LWP.condF rfl ?_; refine LWP.skip ?_; refine LWP.seq <| LWP.seq <| LWP.region (by kernel_rfl) <| kmv rfl <| RunK.nil <| LWP.condF rfl ?_; refine LWP.skip ?_; refine LWP.seq <| LWP.seq <| LWP.region (by kernel_rfl) <| kmv rfl <| kmv rfl <| klt rfl rfl (decide_eq_false (by omega)) <| RunK.nil <| LWP.condF rfl ?_; refine LWP.skip ?_; refine LWP.seq <| LWP.seq <| LWP.region (by kernel_rfl) <| kmv rfl <| kmv rfl <| K.gtr rfl rfl (decide_eq_false (by omega)) .plain <| RunK.nil <| LWP.condF rfl ?_; refine LWP.skip ?_; refine LWP.seq <| LWP.region (by kernel_rfl) <| kas rfl <| RunK.nil <| LWP.ret ?_)
      exact ⟨[_], ⟨rfl, trivial⟩, by simp [cmpI, h, h', resOf]⟩
theorem compare_spec (M N : Int) (r : Int) (hr : cmpI M N = r) : PSpec Tryz.prog X 125 [LZ M, LZ N] (Ln .i64 r) := by
  refine PSpec.intro Tryz.func125 rfl (by kernel_rfl) rfl rfl ?_
  intro C
  by_cases h : M / 18446744073709551616 = N / 18446744073709551616
  · (refine LWP.seq <| LWP.region (by kernel_rfl) <| K.box rfl rfl rfl .plain <| K.box rfl rfl rfl .plain <| kas rfl <| RunK.nil <| LWP.seq <| LWP.seq <| LWP.region (by kernel_rfl) <| kfa rfl rfl ?_; refine kl1 rfl rfl rfl <| kfa rfl rfl ?_; refine kl1 rfl rfl rfl <| kne rfl rfl ((bne_eq_false_iff_eq.2 (by omega))) <| RunK.nil <| LWP.condF rfl ?_; refine LWP.skip ?_; refine LWP.seq <| LWP.region (by kernel_rfl) <| kfa rfl rfl ?_; refine kl1 rfl rfl rfl <| kfa rfl rfl ?_; refine kl1 rfl rfl rfl <| kca rfl rfl (Compare_spec _ _ _ r (by subst hr; unfold cmpI; (repeat' split) <;> omega)) <| kas rfl <| RunK.nil <| LWP.ret ?_)
    exact ⟨[_], ⟨rfl, trivial⟩, rfl⟩
  · (refine LWP.seq <| LWP.region (by kernel_rfl) <| K.box rfl rfl rfl .plain <| K.box rfl rfl rfl .plain <| kas rfl <| RunK.nil <| LWP.seq <| LWP.seq <| LWP.region (by kernel_rfl) <| kfa rfl rfl ?_; refine kl1 rfl rfl rfl <| kfa rfl rfl ?_; refine kl1 rfl rfl rfl <| kne rfl rfl (bne_iff_ne.2 (by omega)) <| RunK.nil <| LWP.condT rfl ?_; refine LWP.seq <| LWP.region (by kernel_rfl) <| kfa rfl rfl ?_; refine kl1 rfl rfl rfl <| kfa rfl rfl ?_; refine kl1 rfl rfl rfl <| kca rfl rfl (Compare_spec _ _ _ r (by subst hr; unfold cmpI; (repeat' split) <;> omega)) <| kas rfl <| RunK.nil <| LWP.ret ?_)
    exact ⟨[_], ⟨rfl, trivial⟩, rfl⟩
abbrev S0 : SV := .agg [.val (.bool false), .val (.int .u64 0), .val (.int .u64 0)]
def Lim (N : Int) : Prop := 0 ≤ N ∧ N < 170141183460469231731687303715884105728
theorem Lim.in2 {N : Int} (h : Lim N) : In2 N := ⟨h.1, by have := h.2; omega⟩
theorem formB_lim {b : Bool} {N : Int} (hN : In2 N) (h : formB b N = true) : Lim N ∧ (b = true → N ≠ 0) := by
  simp only [formB, Bool.and_eq_true, decide_eq_true_eq, Bool.not_eq_true', Bool.and_eq_false_iff, beq_eq_false_iff_ne] at h
  refine ⟨⟨hN.1, h.1⟩, fun hb => ?_⟩
  rcases h.2 with h2 | h2
  · rw [hb] at h2; simp at h2
  · exact h2
end Go.Proofs.YtnomcmklhbjfjaaGreatDoor
end
section
namespace Go.Proofs.YtnomcmklhbjfjaaGreatDoor
open Go Go.Lg
variable (X : Nat → Option Obj)
def mg (z : Int) : Int := if z < 0 then -z else z
def R127 (z : Int) : Prop := -170141183460469231731687303715884105728 < z ∧ z < 170141183460469231731687303715884105728
abbrev LQ (z : Int) : LV := LI (decide (z < 0)) (mg z)
abbrev SQ (z : Int) : SV := SI (decide (z < 0)) (mg z)
theorem mg_neg {z : Int} (h : z < 0) : mg z = -z := if_pos h
theorem mg_pos {z : Int} (h : 0 ≤ z) : mg z = z := if_neg (by omega)
theorem mg_in2 {z : Int} (h : R127 z) : In2 (mg z) := by unfold mg In2 R127 at *; split <;> omega
theorem mg_lim {z : Int} (h : R127 z) : mg z < 170141183460469231731687303715884105728 := by unfold mg R127 at *; split <;> omega
theorem formB_q {z : Int} (h : R127 z) : formB (decide (z < 0)) (mg z) = true := by
  have := mg_lim h
  simp only [formB, decide_eq_true this, Bool.true_and, Bool.not_eq_true', Bool.and_eq_false_iff, decide_eq_false_iff_not, beq_eq_false_iff_ne]
  unfold mg
  split <;> omega
theorem both_q {x y : Int} (hx : R127 x) (hy : R127 y) : (formB (decide (x < 0)) (mg x) && formB (decide (y < 0)) (mg y)) = true := by rw [formB_q hx, formB_q hy]; rfl
def zv (b : Bool) (N : Int) : Int := if b = true then -N else N
theorem zv_in {b : Bool} {N : Int} (hN : In2 N) (h : formB b N = true) : R127 (zv b N) ∧ decide (zv b N < 0) = b ∧ mg (zv b N) = N := by
  obtain ⟨⟨h0, h1⟩, h2⟩ := formB_lim hN h
  cases b
  · refine ⟨?_, ?_, ?_⟩ <;> simp only [zv, Bool.false_eq_true, if_false, R127, mg, decide_eq_false_iff_not]
    · omega
    · omega
    · exact if_neg (by omega)
  · have := h2 rfl
    refine ⟨?_, ?_, ?_⟩ <;> simp only [zv, if_true, R127, mg, decide_eq_true_eq]
    · omega
    · omega
    · rw [if_pos (by omega)]; omega
theorem LI_q {b : Bool} {N : Int} (hN : In2 N) (h : formB b N = true) : LI b N = LQ (zv b N) := by
  obtain ⟨_, h1, h2⟩ := zv_in hN h
  unfold LQ
  rw [h1, h2]
theorem sg_q {b : Bool} {N z : Int} (hN : 0 ≤ N) (h : zv b N = z) : sg b N = decide (z < 0) ∧ N = mg z := by
  subst h
  cases b
  · simp only [zv, sg, Bool.false_and, Bool.false_eq_true, if_false, mg]
    exact ⟨(decide_eq_false (by omega)).symm, (if_neg (by omega)).symm⟩
  · simp only [zv, sg, Bool.true_and, if_true, mg]
    refine ⟨?_, by split <;> omega⟩
    by_cases h0 : N = 0
    · subst h0; rfl
    · rw [show (N == 0) = false from beq_eq_false_iff_ne.2 h0, decide_eq_true (by omega)]; rfl
theorem Neg_q (x : Int) (hx : R127 x) : PSpec Tryz.prog X 102 [LQ x] (LQ (-x)) := by
  have h1 := mg_in2 hx
  have hn := number_spec X (!decide (x < 0)) (mg x) h1 (decide (-x < 0)) (by
    have := sg_q (b := !decide (x < 0)) (N := mg x) (z := -x) h1.1 (by unfold zv mg; by_cases c : x < 0 <;> simp [c])
    exact this.1)
  have e : mg (-x) = mg x := by unfold mg; (repeat' split) <;> omega
  refine PSpec.intro Tryz.func102 rfl (by kernel_rfl) rfl rfl ?_
  intro C
  (refine LWP.seq <| LWP.region (by kernel_rfl) <| K.box rfl rfl rfl .plain <| K.alloc rfl .plain ?_; refine RunK.nil <| LWP.seq <| LWP.seq <| LWP.region (by kernel_rfl) <| K.loadAll rfl rfl rfl .plain ?_; refine kca rfl rfl (Form_spec _ _ _ h1 true (formB_q hx)) <| K.not rfl rfl .plain <| RunK.nil <| LWP.condF rfl ?_; refine LWP.skip ?_; refine LWP.seq <| LWP.draws mixed (by kernel_rfl) <| kfa rfl rfl ?_; refine kl1 rfl rfl rfl <| K.not rfl rfl .plain <| K.loadAll rfl rfl rfl .plain ?_; refine kca rfl rfl (sizeOf_spec _ _ _ _) <| kca rfl rfl (hn) <| K.storeAll rfl rfl rfl rfl rfl rfl .plain ?_; refine RunK.nil <| And.intro (by kernel_rfl) ?_; refine LWP.ret ?_)
  unfold LQ
  rw [e]
  exact ⟨[_], ⟨⟨_, _, rfl, rfl, rfl, .inl ⟨AggT.h, rfl⟩⟩, trivial⟩, rfl⟩
theorem Cmp_q (x y : Int) (hx : R127 x) (hy : R127 y) (r : Int) (hr : cmpI x y = r) : PSpec Tryz.prog X 113 [LQ x, LQ y] (Ln .i64 r) := by
  have hB := bothForm_spec X _ _ _ _ (mg_in2 hx) (mg_in2 hy) true (both_q hx hy)
  refine PSpec.intro Tryz.func113 rfl (by kernel_rfl) rfl rfl ?_
  intro C
  by_cases cx : x < 0 <;> by_cases cy : y < 0
  all_goals
    unfold LQ at hB ⊢
    simp only [cx, cy, decide_true, decide_false] at hB ⊢
  · have e : cmpI (mg y) (mg x) = r := by rw [mg_neg cx, mg_neg cy, ← hr]; unfold cmpI; (repeat' split) <;> omega
    (refine LWP.seq <| LWP.region (by kernel_rfl) <| K.box rfl rfl rfl .plain <| K.box rfl rfl rfl .plain <| kas rfl <| RunK.nil <| LWP.seq <| LWP.block <| LWP.seq <| LWP.region (by kernel_rfl) <| K.loadAll rfl rfl rfl .plain ?_; refine K.loadAll rfl rfl rfl .plain ?_; refine kca rfl rfl (hB) <| K.not rfl rfl .plain <| kas rfl <| RunK.nil <| LWP.condF rfl ?_; refine LWP.seq <| LWP.region (by kernel_rfl) <| kfa rfl rfl ?_; refine kl1 rfl rfl rfl <| kmv rfl <| K.fieldAddr rfl rfl (.taken rfl rfl) ?_; refine K.loadOne rfl rfl rfl (.taken rfl rfl) ?_; refine kpt rfl rfl <| kas rfl <| RunK.nil <| LWP.condT rfl ?_; refine LWP.seq <| LWP.draws mixed (by kernel_rfl) <| K.loadAll rfl rfl rfl .plain ?_; refine kca rfl rfl (sizeOf_spec _ _ _ _) <| K.loadAll rfl rfl rfl .plain ?_; refine kca rfl rfl (sizeOf_spec _ _ _ _) <| kca rfl rfl (compare_spec _ _ _ r e) <| kas rfl <| RunK.nil <| And.intro (by kernel_rfl) ?_; refine LWP.ret ?_)
    exact ⟨[_], ⟨rfl, trivial⟩, rfl⟩
  · have e : r = -1 := by rw [← hr]; unfold cmpI; rw [if_pos (by omega)]
    subst e
    (refine LWP.seq <| LWP.region (by kernel_rfl) <| K.box rfl rfl rfl .plain <| K.box rfl rfl rfl .plain <| kas rfl <| RunK.nil <| LWP.seq <| LWP.block <| LWP.seq <| LWP.region (by kernel_rfl) <| K.loadAll rfl rfl rfl .plain ?_; refine K.loadAll rfl rfl rfl .plain ?_; refine kca rfl rfl (hB) <| K.not rfl rfl .plain <| kas rfl <| RunK.nil <| LWP.condF rfl ?_; refine LWP.seq <| LWP.region (by kernel_rfl) <| kfa rfl rfl ?_; refine kl1 rfl rfl rfl <| kmv rfl <| K.fieldAddr rfl rfl (.taken rfl rfl) ?_; refine K.loadOne rfl rfl rfl (.taken rfl rfl) ?_; refine kpt rfl rfl <| kas rfl <| RunK.nil <| LWP.condF rfl ?_; refine LWP.seq <| LWP.region (by kernel_rfl) <| kfa rfl rfl ?_; refine kl1 rfl rfl rfl <| kas rfl <| RunK.nil <| LWP.condT rfl ?_; refine LWP.seq <| LWP.region (by kernel_rfl) <| kas rfl <| RunK.nil <| LWP.ret ?_)
    exact ⟨[_], ⟨rfl, trivial⟩, rfl⟩
  · have e : r = 1 := by rw [← hr]; unfold cmpI; rw [if_neg (by omega), if_pos (by omega)]
    subst e
    (refine LWP.seq <| LWP.region (by kernel_rfl) <| K.box rfl rfl rfl .plain <| K.box rfl rfl rfl .plain <| kas rfl <| RunK.nil <| LWP.seq <| LWP.block <| LWP.seq <| LWP.region (by kernel_rfl) <| K.loadAll rfl rfl rfl .plain ?_; refine K.loadAll rfl rfl rfl .plain ?_; refine kca rfl rfl (hB) <| K.not rfl rfl .plain <| kas rfl <| RunK.nil <| LWP.condF rfl ?_; refine LWP.seq <| LWP.region (by kernel_rfl) <| kfa rfl rfl ?_; refine kl1 rfl rfl rfl <| kmv rfl <| RunK.passed rfl rfl rfl <| RunK.passed rfl rfl rfl <| kpf rfl rfl <| kas rfl <| RunK.nil <| LWP.condF rfl ?_; refine LWP.seq <| LWP.region (by kernel_rfl) <| kfa rfl rfl ?_; refine kl1 rfl rfl rfl <| kas rfl <| RunK.nil <| LWP.condF rfl ?_; refine LWP.seq <| LWP.region (by kernel_rfl) <| kfa rfl rfl ?_; refine kl1 rfl rfl rfl <| kas rfl <| RunK.nil <| LWP.condT rfl ?_; refine LWP.seq <| LWP.region (by kernel_rfl) <| kas rfl <| RunK.nil <| LWP.ret ?_)
    exact ⟨[_], ⟨rfl, trivial⟩, rfl⟩
  · have e : cmpI (mg x) (mg y) = r := by rw [mg_pos (Int.not_lt.1 cx), mg_pos (Int.not_lt.1 cy), ← hr]
    (refine LWP.seq <| LWP.region (by kernel_rfl) <| K.box rfl rfl rfl .plain <| K.box rfl rfl rfl .plain <| kas rfl <| RunK.nil <| LWP.seq <| LWP.block <| LWP.seq <| LWP.region (by kernel_rfl) <| K.loadAll rfl rfl rfl .plain ?_; refine K.loadAll rfl rfl rfl .plain ?_; refine kca rfl rfl (hB) <| K.not rfl rfl .plain <| kas rfl <| RunK.nil <| LWP.condF rfl ?_; refine LWP.seq <| LWP.region (by kernel_rfl) <| kfa rfl rfl ?_; refine kl1 rfl rfl rfl <| kmv rfl <| RunK.passed rfl rfl rfl <| RunK.passed rfl rfl rfl <| kpf rfl rfl <| kas rfl <| RunK.nil <| LWP.condF rfl ?_; refine LWP.seq <| LWP.region (by kernel_rfl) <| kfa rfl rfl ?_; refine kl1 rfl rfl rfl <| kas rfl <| RunK.nil <| LWP.condF rfl ?_; refine LWP.seq <| LWP.region (by kernel_rfl) <| kfa rfl rfl ?_; refine kl1 rfl rfl rfl <| kas rfl <| RunK.nil <| LWP.condF rfl ?_; refine LWP.skip ?_; refine LWP.seq <| LWP.draws mixed (by kernel_rfl) <| K.loadAll rfl rfl rfl .plain ?_; refine kca rfl rfl (sizeOf_spec _ _ _ _) <| K.loadAll rfl rfl rfl .plain ?_; refine kca rfl rfl (sizeOf_spec _ _ _ _) <| kca rfl rfl (compare_spec _ _ _ r e) <| kas rfl <| RunK.nil <| And.intro (by kernel_rfl) ?_; refine LWP.ret ?_)
    exact ⟨[_], ⟨rfl, trivial⟩, rfl⟩
end Go.Proofs.YtnomcmklhbjfjaaGreatDoor
end
section
namespace Go.Proofs.YtnomcmklhbjfjaaGreatDoor
open Go Go.Lg Go.Lg.Arith Go.RowKit
variable (X : Nat → Option Obj)
theorem OfWord_spec (n : Int) : PSpec Tryz.prog X 48 [Ln .u64 n] (.sv (.agg [.val (.bool false), .val (.int .u64 0), .val (.int .u64 n)])) := by
  refine PSpec.intro Tryz.func48 rfl (by kernel_rfl) rfl rfl ?_
  intro C
  (refine LWP.seq <| LWP.region (by kernel_rfl) <| K.alloc rfl .plain ?_; refine RunK.nil <| LWP.seq <| LWP.region (by kernel_rfl) <| kmv rfl <| K.build rfl rfl (by exact rfl) (by exact nl3 rfl rfl rfl rfl) .plain ?_; refine K.storeAll rfl rfl rfl rfl rfl rfl .plain ?_; refine RunK.nil <| LWP.ret ?_)
  exact ⟨[_], ⟨⟨_, _, rfl, rfl, rfl, .inl ⟨AggT.h, rfl⟩⟩, trivial⟩, rfl⟩
theorem Of_spec (n : Int) (hn : -9223372036854775808 ≤ n ∧ n < 9223372036854775808) : PSpec Tryz.prog X 22 [Ln .i64 n] (LQ n) := by
  refine PSpec.intro Tryz.func22 rfl (by kernel_rfl) rfl rfl ?_
  intro C
  by_cases c : n < 0
  · have w1 : IntKind.u64.wrap n = n + 18446744073709551616 := by rw [IntKind.wrap_u64]; omega
    have w2 : IntKind.u64.wrap (0 - (n + 18446744073709551616)) = -n := by rw [IntKind.wrap_u64]; omega
    (refine LWP.seq <| LWP.region (by kernel_rfl) <| K.alloc rfl .plain ?_; refine RunK.nil <| LWP.seq <| LWP.seq <| LWP.region (by kernel_rfl) <| kmv rfl <| klt rfl rfl (decide_eq_true (by omega)) <| RunK.nil <| LWP.condT rfl ?_; refine LWP.seq <| LWP.region (by kernel_rfl) <| kmv rfl <| kcv rfl w1 ?_; refine K.neg rfl w2 .plain <| K.build rfl rfl (by exact rfl) (by exact nl3 rfl rfl rfl rfl) .plain ?_; refine K.storeAll rfl rfl rfl rfl rfl rfl .plain ?_; refine RunK.nil <| LWP.ret ?_)
    refine ⟨[_], ⟨⟨_, _, rfl, rfl, rfl, .inl ⟨AggT.h, rfl⟩⟩, trivial⟩, ?_⟩
    unfold LQ LI
    rw [mg_neg c, decide_eq_true c, show -n / 18446744073709551616 = 0 by omega, show -n % 18446744073709551616 = -n by omega]
    rfl
  · (refine LWP.seq <| LWP.region (by kernel_rfl) <| K.alloc rfl .plain ?_; refine RunK.nil <| LWP.seq <| LWP.seq <| LWP.region (by kernel_rfl) <| kmv rfl <| klt rfl rfl (decide_eq_false (by omega)) <| RunK.nil <| LWP.condF rfl ?_; refine LWP.skip ?_; refine LWP.seq <| LWP.region (by kernel_rfl) <| kmv rfl <| kcv rfl (by exact wrap_u64 (by omega)) ?_; refine kca rfl rfl (OfWord_spec _ _) <| K.storeAll rfl rfl rfl rfl rfl rfl .plain ?_; refine RunK.nil <| LWP.ret ?_)
    refine ⟨[_], ⟨⟨_, _, rfl, rfl, rfl, .inl ⟨AggT.h, rfl⟩⟩, trivial⟩, ?_⟩
    unfold LQ LI
    rw [mg_pos (by omega), decide_eq_false c, show n / 18446744073709551616 = 0 by omega, show n % 18446744073709551616 = n by omega]
    rfl
theorem eqI {b b' : Bool} {h l h' l' : Int} (r : Bool) (hr : (b == b' && (h == h' && l == l')) = r) (w : World) :
    (Op.equalIn 10000 63 (.agg [.bool b, .int .u64 h, .int .u64 l].toArray) (.agg [.bool b', .int .u64 h', .int .u64 l'].toArray)).run Tryz.prog w = .ok r w := by
  subst hr
  rw [show (10000 : Nat) = 9999 + 1 from rfl, run_equalIn_agg w 9999 63 _ _ (by kernel_rfl) (by kernel_rfl)]
  simp only [Program.fieldsOf, Tryz.underlying63]
  go_simp
  cases b <;> cases b' <;> by_cases h1 : h = h' <;> by_cases h2 : l = l' <;> simp [h1, h2]
theorem eqQ (x y : Int) (r : Bool) (hr : decide (x = y) = r) (w : World) :
    (Op.equalIn 10000 63 (.agg [.bool (decide (x < 0)), .int .u64 (mg x / 18446744073709551616), .int .u64 (mg x % 18446744073709551616)].toArray)
      (.agg [.bool (decide (y < 0)), .int .u64 (mg y / 18446744073709551616), .int .u64 (mg y % 18446744073709551616)].toArray)).run Tryz.prog w = .ok r w := by
  refine eqI r ?_ w
  rw [← hr]
  by_cases e : x = y
  · subst e; simp
  · rw [decide_eq_false e]
    have h : ¬ ((decide (x < 0) = decide (y < 0)) ∧ mg x / 18446744073709551616 = mg y / 18446744073709551616 ∧ mg x % 18446744073709551616 = mg y % 18446744073709551616) := by
      rintro ⟨h1, h2, h3⟩
      have : mg x = mg y := by omega
      unfold mg at this
      by_cases cx : x < 0 <;> by_cases cy : y < 0 <;> simp only [cx, cy, decide_true, decide_false, if_true, if_false] at h1 this <;> first | omega | cases h1
    cases hc : (decide (x < 0) == decide (y < 0) && (mg x / 18446744073709551616 == mg y / 18446744073709551616 && mg x % 18446744073709551616 == mg y % 18446744073709551616)) with
    | false => rfl
    | true =>
      simp only [Bool.and_eq_true, beq_iff_eq] at hc
      exact absurd hc h
end Go.Proofs.YtnomcmklhbjfjaaGreatDoor
end
section
namespace Go.Proofs.YtnomcmklhbjfjaaGreatDoor
open Go Go.Lg
abbrev rd (k : Nat) (l : List UInt8) (b : Bool) : List (Nat × Option Box) := [(k, some ⟨108, [vs l, .val (.bool b)], false⟩)]
variable (X : Nat → Option Obj)
def isW (n : Int) : Bool := decide (n = 1) || (decide (n = 2) || (decide (n = 4) || decide (n = 8)))
theorem isWidth_spec (n : Int) (r : Bool) (hr : isW n = r) : PSpec Tryz.prog X 49 [Ln .i64 n] (Lb r) := by
  refine PSpec.intro Tryz.func49 rfl (by kernel_rfl) rfl rfl ?_
  intro C
  subst hr
  by_cases h1 : n = 1
  · (refine LWP.seq <| LWP.region (by kernel_rfl) <| kas rfl <| RunK.nil <| LWP.seq <| LWP.region (by kernel_rfl) <| kmv rfl <| keq rfl rfl (beq_iff_eq.2 (by omega)) <| kmv rfl <| RunK.passed rfl rfl rfl <| RunK.passed rfl rfl rfl <| kpt rfl rfl <| kmv rfl <| RunK.passed rfl rfl rfl ?_; refine RunK.passed rfl rfl rfl <| kpt rfl rfl <| kmv rfl <| RunK.passed rfl rfl rfl <| RunK.passed rfl rfl rfl <| kpt rfl rfl <| kas rfl <| RunK.nil <| LWP.ret ?_)
    exact ⟨[_], ⟨rfl, trivial⟩, by unfold isW; rw [decide_eq_true h1]; rfl⟩
  · by_cases h2 : n = 2
    · (refine LWP.seq <| LWP.region (by kernel_rfl) <| kas rfl <| RunK.nil <| LWP.seq <| LWP.region (by kernel_rfl) <| kmv rfl <| keq rfl rfl (beq_eq_false_iff_ne.2 (by omega)) <| kmv rfl <| gmv rfl rfl rfl <| K.eql rfl rfl (beq_iff_eq.2 (by omega)) (.taken rfl rfl) ?_; refine kpf rfl rfl <| kmv rfl <| RunK.passed rfl rfl rfl <| RunK.passed rfl rfl rfl <| kpt rfl rfl <| kmv rfl <| RunK.passed rfl rfl rfl <| RunK.passed rfl rfl rfl <| kpt rfl rfl <| kas rfl <| RunK.nil <| LWP.ret ?_)
      exact ⟨[_], ⟨rfl, trivial⟩, by unfold isW; rw [decide_eq_false h1, decide_eq_true h2]; rfl⟩
    · by_cases h4 : n = 4
      · (refine LWP.seq <| LWP.region (by kernel_rfl) <| kas rfl <| RunK.nil <| LWP.seq <| LWP.region (by kernel_rfl) <| kmv rfl <| keq rfl rfl (beq_eq_false_iff_ne.2 (by omega)) <| kmv rfl <| gmv rfl rfl rfl <| K.eql rfl rfl (beq_eq_false_iff_ne.2 (by omega)) (.taken rfl rfl) ?_; refine kpf rfl rfl <| kmv rfl <| gmv rfl rfl rfl <| K.eql rfl rfl (beq_iff_eq.2 (by omega)) (.taken rfl rfl) ?_; refine kpf rfl rfl <| kmv rfl <| RunK.passed rfl rfl rfl <| RunK.passed rfl rfl rfl <| kpt rfl rfl <| kas rfl <| RunK.nil <| LWP.ret ?_)
        exact ⟨[_], ⟨rfl, trivial⟩, by unfold isW; rw [decide_eq_false h1, decide_eq_false h2, decide_eq_true h4]; rfl⟩
      · by_cases h8 : n = 8
        · (refine LWP.seq <| LWP.region (by kernel_rfl) <| kas rfl <| RunK.nil <| LWP.seq <| LWP.region (by kernel_rfl) <| kmv rfl <| keq rfl rfl (beq_eq_false_iff_ne.2 (by omega)) <| kmv rfl <| gmv rfl rfl rfl <| K.eql rfl rfl (beq_eq_false_iff_ne.2 (by omega)) (.taken rfl rfl) ?_; refine kpf rfl rfl <| kmv rfl <| gmv rfl rfl rfl <| K.eql rfl rfl (beq_eq_false_iff_ne.2 (by omega)) (.taken rfl rfl) ?_; refine kpf rfl rfl <| kmv rfl <| gmv rfl rfl rfl <| K.eql rfl rfl (beq_iff_eq.2 (by omega)) (.taken rfl rfl) ?_; refine kpf rfl rfl <| kas rfl <| RunK.nil <| LWP.ret ?_)
          exact ⟨[_], ⟨rfl, trivial⟩, by unfold isW; rw [decide_eq_false h1, decide_eq_false h2, decide_eq_false h4, decide_eq_true h8]; rfl⟩
        · (refine LWP.seq <| LWP.region (by kernel_rfl) <| kas rfl <| RunK.nil <| LWP.seq <| LWP.region (by kernel_rfl) <| kmv rfl <| keq rfl rfl (beq_eq_false_iff_ne.2 (by omega)) <| kmv rfl <| gmv rfl rfl rfl <| K.eql rfl rfl (beq_eq_false_iff_ne.2 (by omega)) (.taken rfl rfl) ?_; refine kpf rfl rfl <| kmv rfl <| gmv rfl rfl rfl <| K.eql rfl rfl (beq_eq_false_iff_ne.2 (by omega)) (.taken rfl rfl) ?_; refine kpf rfl rfl <| kmv rfl <| gmv rfl rfl rfl <| K.eql rfl rfl (beq_eq_false_iff_ne.2 (by omega)) (.taken rfl rfl) ?_; refine kpf rfl rfl <| kas rfl <| RunK.nil <| LWP.ret ?_)
          exact ⟨[_], ⟨rfl, trivial⟩, by unfold isW; rw [decide_eq_false h1, decide_eq_false h2, decide_eq_false h4, decide_eq_false h8]; rfl⟩
theorem Read_spec (l : List UInt8) : MSpec Tryz.prog X 29 [Ls l] [] (Lp 1000001) (rd 1000001 l false) := by
  refine MSpec.intro Tryz.func29 rfl (by kernel_rfl) rfl rfl rfl rfl rfl ?_
  intro C
  (refine LWP.seq <| LWP.region (by kernel_rfl) <| kas rfl <| RunK.nil <| LWP.seq <| LWP.region (by kernel_rfl) <| kmv rfl <| K.build rfl rfl (by exact rfl) (by exact nl2 rfl rfl rfl) .plain ?_; refine K.box rfl rfl rfl .plain <| kas rfl <| RunK.nil <| LWP.ret ?_)
  exact ⟨[(1000001, 5)], ⟨[_], ⟨rfl, trivial⟩, rfl⟩, ⟨⟨_, rfl, rfl⟩, trivial⟩, rfl, rfl⟩
theorem Bad_spec (l : List UInt8) (b : Bool) : MSpec Tryz.prog X 59 [Lp 1000000] (rd 1000000 l b) (Lb b) (rd 1000000 l b) := by
  refine MSpec.intro Tryz.func59 rfl (by kernel_rfl) rfl rfl rfl rfl rfl ?_
  intro C
  (refine LWP.seq <| LWP.region (by kernel_rfl) <| kas rfl <| RunK.nil <| LWP.seq <| LWP.region (by kernel_rfl) <| kmv rfl <| K.ptrNil rfl (by kernel_rfl) (.inl ⟨rfl, rfl⟩) .plain <| kmv rfl <| gmv rfl rfl rfl <| K.nilCheck rfl (.taken rfl rfl) ?_; refine K.fieldAddr rfl rfl (.taken rfl rfl) ?_; refine K.loadOne rfl rfl rfl (.taken rfl rfl) ?_; refine kpf rfl rfl <| kas rfl <| RunK.nil <| LWP.ret ?_)
  exact ⟨[], ⟨[_], ⟨rfl, trivial⟩, rfl⟩, ⟨⟨_, rfl, rfl⟩, trivial⟩, rfl, rfl⟩
theorem spoil_spec (l : List UInt8) (b : Bool) : MSpec Tryz.prog X 54 [Lp 1000000] (rd 1000000 l b) (.tup []) (rd 1000000 l true) := by
  refine MSpec.intro Tryz.func54 rfl (by kernel_rfl) rfl rfl rfl rfl rfl ?_
  intro C
  (refine LWP.seq <| LWP.region (by kernel_rfl) <| kmv rfl <| K.ptrNil rfl (by kernel_rfl) (.inr ⟨rfl, rfl⟩) .plain <| RunK.nil <| LWP.condT rfl ?_; refine LWP.region (by kernel_rfl) <| kmv rfl <| K.nilCheck rfl .plain <| kfa rfl rfl ?_; refine K.storeOne rfl rfl rfl rfl rfl (nl2 rfl rfl rfl) .plain <| RunK.nil ?_)
  exact ⟨[], ⟨[], trivial, rfl⟩, ⟨⟨_, rfl, rfl⟩, trivial⟩, rfl, rfl⟩
end Go.Proofs.YtnomcmklhbjfjaaGreatDoor
end
section
namespace Go.Lg
open Go
def le : List UInt8 → Nat
  | [] => 0
  | c :: t => c.toNat + 256 * le t
theorem le_lt : ∀ (l : List UInt8), le l < 256 ^ l.length
  | [] => by simp [le]
  | c :: t => by
    have := le_lt t
    have hc := c.toNat_lt
    simp only [le, List.length_cons, Nat.pow_succ]
    omega
theorem le_snoc : ∀ (l : List UInt8) (c : UInt8), le (l ++ [c]) = le l + c.toNat * 256 ^ l.length
  | [], c => by simp [le]
  | d :: t, c => by
    have e : 256 * (c.toNat * 256 ^ t.length) = c.toNat * (256 ^ t.length * 256) := by rw [Nat.mul_left_comm, Nat.mul_comm 256]
    simp only [List.cons_append, le, le_snoc t c, List.length_cons, Nat.pow_succ, Nat.mul_add]
    omega
theorem le_take {l : List UInt8} {i : Nat} {c : UInt8} (h : l[i]? = some c) : le (l.take (i + 1)) = le (l.take i) + c.toNat * 256 ^ i := by
  have hi := (List.getElem?_eq_some_iff.1 h).1
  rw [List.take_add_one, h]
  have := le_snoc (l.take i) c
  rw [List.length_take, Nat.min_eq_left (by omega)] at this
  exact this
def leB : Nat → Nat → List UInt8
  | 0, _ => []
  | k + 1, n => UInt8.ofNat (n % 256) :: leB k (n / 256)
theorem leB_length : ∀ (k n : Nat), (leB k n).length = k
  | 0, _ => rfl
  | k + 1, n => by simp [leB, leB_length k]
theorem leB_get : ∀ (k n i : Nat), i < k → (leB k n)[i]? = some (UInt8.ofNat (n / 256 ^ i % 256))
  | 0, _, _, h => by omega
  | k + 1, n, 0, _ => by simp [leB]
  | k + 1, n, i + 1, h => by
    simp only [leB, List.getElem?_cons_succ]
    rw [leB_get k (n / 256) i (by omega), Nat.pow_succ, Nat.mul_comm, Nat.div_div_eq_div_mul]
theorem le_leB : ∀ (k n : Nat), n < 256 ^ k → le (leB k n) = n
  | 0, n, h => by simp at h; subst h; rfl
  | k + 1, n, h => by
    have e : (UInt8.ofNat (n % 256)).toNat = n % 256 := by rw [UInt8.toNat_ofNat']; exact Nat.mod_eq_of_lt (by omega)
    simp only [leB, le, e, le_leB k (n / 256) (by rw [Nat.pow_succ] at h; omega)]
    omega
def lo (w n i : Nat) : List UInt8 := (leB w n).take i ++ List.replicate (w - i) 0
theorem lo_set {w n i : Nat} (h : i < w) : (((lo w n i).map bc).set (0 + i * 1) (bc (UInt8.ofNat (n / 256 ^ i % 256)))) = (lo w n (i + 1)).map bc := by
  rw [Nat.zero_add, Nat.mul_one, ← List.map_set]
  congr 1
  unfold lo
  have hl : ((leB w n).take i).length = i := by rw [List.length_take, leB_length]; omega
  rw [List.set_append_right _ _ (by omega), hl, Nat.sub_self, List.take_add_one, leB_get w n i h]
  have : w - i = (w - (i + 1)) + 1 := by omega
  rw [this, List.replicate_succ]
  simp
theorem lo_len (w n i : Nat) (h : i ≤ w) : ((lo w n i).map bc).length = w := by
  unfold lo
  rw [List.length_map, List.length_append, List.length_take, leB_length, List.length_replicate]
  omega
theorem lo_all (w n : Nat) : lo w n w = leB w n := by
  unfold lo
  rw [Nat.sub_self, List.take_of_length_le (by rw [leB_length]; exact Nat.le_refl _)]
  simp
theorem or_low {x y c : Int} {s : Nat} (hs : s ≤ 64) (hx : 0 ≤ x ∧ x * 2 ^ s < 18446744073709551616) (hy : 0 ≤ y ∧ y < 2 ^ s) (hc : y + x * 2 ^ s = c) : bits .or .u64 y (x * 2 ^ s) = c := by
  have h := or_apart hs hx hy
  obtain ⟨A, rfl⟩ := Int.eq_ofNat_of_zero_le hx.1
  obtain ⟨B, rfl⟩ := Int.eq_ofNat_of_zero_le hy.1
  have e : ((A : Int) * 2 ^ s) = ((A * 2 ^ s : Nat) : Int) := by rw [Int.natCast_mul, Int.natCast_pow]; rfl
  have e' : ((2 : Int) ^ s) = ((2 ^ s : Nat) : Int) := by rw [Int.natCast_pow]; rfl
  have h1 : A * 2 ^ s < 18446744073709551616 := by have := hx.2; rw [e] at this; omega
  have h3 : 2 ^ s ≤ 18446744073709551616 := by
    have : 2 ^ s ≤ 2 ^ 64 := Nat.pow_le_pow_right (by decide) hs
    exact this
  have h2 : B < 18446744073709551616 := by have := hy.2; rw [e'] at this; omega
  have hcomm : bits .or .u64 (B : Int) ((A : Int) * 2 ^ s) = bits .or .u64 ((A : Int) * 2 ^ s) B := by
    rw [e, u64_or_nat _ _ h2 h1, u64_or_nat _ _ h1 h2, Nat.or_comm]
  rw [hcomm, h]
  omega
end Go.Lg
namespace Go.Proofs.YtnomcmklhbjfjaaGreatDoor
open Go Go.Lg
variable (X : Nat → Option Obj)
theorem p256 (i : Nat) : (256 : Nat) ^ i = 2 ^ (8 * i) := by rw [Nat.pow_mul]
theorem onumber_spec (l : List UInt8) (hl : l.length ≤ 8) : PSpec Tryz.prog X 55 [Ls l] (Ln .u64 (le l : Nat)) := by
  refine PSpec.intro Tryz.func55 rfl (by kernel_rfl) rfl rfl ?_
  intro C
  (refine LWP.seq <| LWP.region (by kernel_rfl) <| kas rfl <| RunK.nil <| LWP.seq <| LWP.region (by kernel_rfl) <| kas rfl <| RunK.nil <| LWP.seq <| LWP.seq <| LWP.region (by kernel_rfl) <| kmv rfl <| kln rfl <| kmv rfl ?_; refine RunK.nil <| LWP.block ?_)
  refine LWP.loop (fun m σ => ∃ i : Nat, i ≤ l.length ∧ m = l.length - i ∧ σ = ⟨[(0, Ls l), (3, Ln .u64 (le (l.take i) : Nat)), (6, Ln .i64 (l.length : Nat)), (7, Ln .i64 (i : Nat))], [], X⟩) l.length
    ⟨_, Le.of (by exact ⟨rfl, rfl, rfl, rfl, trivial⟩) (by exact trivial) (by exact rfl) (by exact rfl) (by exact rfl), 0, Nat.zero_le _, rfl, rfl⟩ ?_
  rintro m σ ⟨i, hi, rfl, rfl⟩
  by_cases hlt : i < l.length
  · obtain ⟨b, hb⟩ : ∃ b, l[i]? = some b := ⟨_, List.getElem?_eq_getElem hlt⟩
    have hb' : (⟨l.toArray⟩ : ByteArray)[Int.toNat (i : Int)]? = some b := str_at hb
    have hnx := le_take hb
    have h8 : 8 * i ≤ 56 := by omega
    have w8 : IntKind.i64.wrap (8 * (i : Int)) = ((8 * i : Nat) : Int) := by rw [wrap_i64 (by omega)]; omega
    have hc := b.toNat_lt
    have hlo := le_lt (l.take i)
    rw [List.length_take, Nat.min_eq_left hi, p256] at hlo
    have hp : 2 ^ (8 * i) ≤ 2 ^ 56 := Nat.pow_le_pow_right (by decide) h8
    have hbb : b.toNat * 2 ^ (8 * i) ≤ 255 * 2 ^ 56 := Nat.mul_le_mul (by omega) hp
    have ec : ((b.toNat : Int)) * 2 ^ (8 * i) = ((b.toNat * 2 ^ (8 * i) : Nat) : Int) := by rw [Int.natCast_mul, Int.natCast_pow]; rfl
    have ep : ((2 : Int) ^ (8 * i)) = ((2 ^ (8 * i) : Nat) : Int) := by rw [Int.natCast_pow]; rfl
    have hs := shl_s (a := (b.toNat : Int)) (s := 8 * i) (c := (b.toNat : Int) * 2 ^ (8 * i)) (by omega) rfl (by rw [ec]; omega)
    have ho := or_low (x := (b.toNat : Int)) (y := (le (l.take i) : Nat)) (s := 8 * i) (c := (le (l.take (i + 1)) : Nat)) (by omega) (by rw [ec]; omega) (by rw [ep]; omega) (by rw [ec, hnx, p256]; omega)
    (refine LWP.seq <| LWP.region (by kernel_rfl) <| klt rfl rfl (decide_eq_true (by omega)) <| RunK.nil <| LWP.seq <| LWP.condT rfl ?_; refine LWP.skip ?_; refine LWP.seq <| LWP.block <| LWP.seq <| LWP.region (by kernel_rfl) <| kmv rfl <| kas rfl <| RunK.nil <| LWP.region (by kernel_rfl) <| kmv rfl <| kmv rfl <| kmv rfl <| K.indexStr rfl rfl (by omega) hb' .plain <| kcv rfl (by exact wrap_u64 (by omega)) ?_; refine kmv rfl <| K.mul rfl rfl w8 .plain <| K.shl rfl rfl (by omega) hs .plain <| K.bitop (by simp) rfl rfl ho .plain <| kas rfl <| RunK.nil <| LWP.region (by kernel_rfl) <| kad rfl rfl (wrap_i64 (by omega)) <| kmv rfl <| RunK.nil ?_)
    exact ⟨_, _, by omega, Le.of (by exact ⟨rfl, rfl, rfl, rfl, trivial⟩) (by exact trivial) (by exact rfl) (by exact rfl) (by exact rfl), i + 1, by omega, rfl, rfl⟩
  · have e : i = l.length := by omega
    subst e
    rw [List.take_length]
    (refine LWP.seq <| LWP.region (by kernel_rfl) <| klt rfl rfl (decide_eq_false (by omega)) <| RunK.nil <| LWP.seq <| LWP.condF rfl ?_; refine LWP.exit <| LWP.seq <| LWP.region (by kernel_rfl) <| kmv rfl <| kas rfl <| RunK.nil <| LWP.ret ?_)
    exact ⟨[_], ⟨rfl, trivial⟩, rfl⟩
end Go.Proofs.YtnomcmklhbjfjaaGreatDoor
end
section
namespace Go.Proofs.YtnomcmklhbjfjaaGreatDoor
open Go Go.Lg
variable (X : Nat → Option Obj)
theorem low_1 (n : Nat) (hn : n < 18446744073709551616) : PSpec Tryz.prog X 51 [Ln .i64 1, Ln .u64 (n : Nat)] (Ls (leB 1 n)) := by
  refine PSpec.intro Tryz.func51 rfl (by kernel_rfl) rfl rfl ?_
  intro C
  (refine LWP.seq <| LWP.region (by kernel_rfl) <| kas rfl <| RunK.nil <| LWP.seq <| LWP.region (by kernel_rfl) <| kmv rfl <| K.makeSlc (m := 1) (zs := List.replicate 1 (.int .u8 0)) (sz := 1) (e := 5) (bytes := 1) (zc := (lo 1 n 0).map bc) rfl rfl (by kernel_rfl) (by kernel_rfl) (by decide) rfl rfl .plain <| kas rfl <| RunK.nil <| LWP.seq <| LWP.seq <| LWP.region (by kernel_rfl) <| kmv rfl ?_; refine K.lenSlc rfl SliceT.h rfl .plain ?_; refine kmv rfl <| RunK.nil <| LWP.block ?_)
  refine LWP.loop (fun m σ => ∃ i : Nat, i ≤ 1 ∧ m = 1 - i ∧ σ = ⟨[(1, Ln .u64 (n : Nat)), (5, .sv (.one (.slc 8 0 1))), (10, Ln .i64 1), (11, Ln .i64 (i : Nat))], [(8, some ⟨5, (lo 1 n i).map bc, false⟩)], X⟩) 1
    ⟨_, Le.of (by exact ⟨rfl, rfl, rfl, rfl, trivial⟩) (by exact ⟨rfl, trivial⟩) (by exact rfl) (by exact rfl) (by repeat' (first | refine all_cons_true ?_ ?_ | rfl | exact bytes_inUse | exact vals_inUse | exact mid_inUse rfl)), 0, Nat.zero_le _, rfl, rfl⟩ ?_
  rintro m σ ⟨i, hi, rfl, rfl⟩
  by_cases hlt : i < 1
  · have w8 : IntKind.i64.wrap (8 * (i : Int)) = ((8 * i : Nat) : Int) := by rw [wrap_i64 (by omega)]; omega
    have ed : ((n : Nat) : Int) / 2 ^ (8 * i) = ((n / 256 ^ i : Nat) : Int) := by rw [p256, Int.natCast_ediv, Int.natCast_pow]; rfl
    have hs := (shr_s (a := ((n : Nat) : Int)) (s := 8 * i) (by omega)).trans ed
    have hv : IntKind.u8.wrap ((n / 256 ^ i : Nat) : Int) = ((UInt8.ofNat (n / 256 ^ i % 256)).toNat : Nat) := by
      rw [UInt8.toNat_ofNat', Nat.mod_eq_of_lt (Nat.mod_lt _ (by decide)), IntKind.wrap_u8]
      omega
    have hbl : Nat.blt (0 + i * 1) ((lo 1 n i).map bc).length = true := by rw [lo_len _ _ _ hi, Nat.blt_eq]; omega
    (refine LWP.seq <| LWP.region (by kernel_rfl) <| klt rfl rfl (decide_eq_true (by omega)) <| RunK.nil <| LWP.seq <| LWP.condT rfl ?_; refine LWP.skip ?_; refine LWP.seq <| LWP.block <| LWP.seq <| LWP.region (by kernel_rfl) <| kmv rfl <| kas rfl <| RunK.nil <| LWP.region (by kernel_rfl) <| kmv rfl <| kmv rfl <| kmv rfl <| kmv rfl <| K.mul rfl rfl w8 .plain <| K.shr rfl rfl (by omega) hs .plain ?_; refine kcv rfl hv ?_; refine K.indexSlc rfl rfl (by omega) rfl .plain ?_; refine K.storeOne rfl rfl rfl rfl hbl (lo_set hlt) .plain <| RunK.nil <| LWP.region (by kernel_rfl) <| kad rfl rfl (wrap_i64 (by omega)) <| kmv rfl <| RunK.nil ?_)
    exact ⟨_, _, by omega, Le.of (by exact ⟨rfl, rfl, rfl, rfl, trivial⟩) (by exact ⟨rfl, trivial⟩) (by exact rfl) (by exact rfl) (by repeat' (first | refine all_cons_true ?_ ?_ | rfl | exact bytes_inUse | exact vals_inUse | exact mid_inUse rfl)), i + 1, by omega, rfl, rfl⟩
  · have e : i = 1 := by omega
    subst e
    have hlen : 0 + 1 ≤ ((lo 1 n 1).map bc).length := by rw [lo_len _ _ _ (Nat.le_refl _)]; omega
    have hcut : (((lo 1 n 1).map bc).drop 0).take 1 = (leB 1 n).map bc := by
      rw [List.drop_zero, List.take_of_length_le (by rw [lo_len _ _ _ (Nat.le_refl _)]; exact Nat.le_refl _), lo_all]
    (refine LWP.seq <| LWP.region (by kernel_rfl) <| klt rfl rfl (decide_eq_false (by omega)) <| RunK.nil <| LWP.seq <| LWP.condF rfl ?_; refine LWP.exit <| LWP.seq <| LWP.region (by kernel_rfl) <| kmv rfl <| K.convStr rfl rfl (by kernel_rfl) StrT.u hlen hcut .plain <| kas rfl <| RunK.nil <| LWP.ret ?_)
    exact ⟨[_], ⟨rfl, trivial⟩, rfl⟩
theorem low_2 (n : Nat) (hn : n < 18446744073709551616) : PSpec Tryz.prog X 51 [Ln .i64 2, Ln .u64 (n : Nat)] (Ls (leB 2 n)) := by
  refine PSpec.intro Tryz.func51 rfl (by kernel_rfl) rfl rfl ?_
  intro C
  (refine LWP.seq <| LWP.region (by kernel_rfl) <| kas rfl <| RunK.nil <| LWP.seq <| LWP.region (by kernel_rfl) <| kmv rfl <| K.makeSlc (m := 2) (zs := List.replicate 2 (.int .u8 0)) (sz := 1) (e := 5) (bytes := 1) (zc := (lo 2 n 0).map bc) rfl rfl (by kernel_rfl) (by kernel_rfl) (by decide) rfl rfl .plain <| kas rfl <| RunK.nil <| LWP.seq <| LWP.seq <| LWP.region (by kernel_rfl) <| kmv rfl ?_; refine K.lenSlc rfl SliceT.h rfl .plain ?_; refine kmv rfl <| RunK.nil <| LWP.block ?_)
  refine LWP.loop (fun m σ => ∃ i : Nat, i ≤ 2 ∧ m = 2 - i ∧ σ = ⟨[(1, Ln .u64 (n : Nat)), (5, .sv (.one (.slc 8 0 2))), (10, Ln .i64 2), (11, Ln .i64 (i : Nat))], [(8, some ⟨5, (lo 2 n i).map bc, false⟩)], X⟩) 2
    ⟨_, Le.of (by exact ⟨rfl, rfl, rfl, rfl, trivial⟩) (by exact ⟨rfl, trivial⟩) (by exact rfl) (by exact rfl) (by repeat' (first | refine all_cons_true ?_ ?_ | rfl | exact bytes_inUse | exact vals_inUse | exact mid_inUse rfl)), 0, Nat.zero_le _, rfl, rfl⟩ ?_
  rintro m σ ⟨i, hi, rfl, rfl⟩
  by_cases hlt : i < 2
  · have w8 : IntKind.i64.wrap (8 * (i : Int)) = ((8 * i : Nat) : Int) := by rw [wrap_i64 (by omega)]; omega
    have ed : ((n : Nat) : Int) / 2 ^ (8 * i) = ((n / 256 ^ i : Nat) : Int) := by rw [p256, Int.natCast_ediv, Int.natCast_pow]; rfl
    have hs := (shr_s (a := ((n : Nat) : Int)) (s := 8 * i) (by omega)).trans ed
    have hv : IntKind.u8.wrap ((n / 256 ^ i : Nat) : Int) = ((UInt8.ofNat (n / 256 ^ i % 256)).toNat : Nat) := by
      rw [UInt8.toNat_ofNat', Nat.mod_eq_of_lt (Nat.mod_lt _ (by decide)), IntKind.wrap_u8]
      omega
    have hbl : Nat.blt (0 + i * 1) ((lo 2 n i).map bc).length = true := by rw [lo_len _ _ _ hi, Nat.blt_eq]; omega
    (refine LWP.seq <| LWP.region (by kernel_rfl) <| klt rfl rfl (decide_eq_true (by omega)) <| RunK.nil <| LWP.seq <| LWP.condT rfl ?_; refine LWP.skip ?_; refine LWP.seq <| LWP.block <| LWP.seq <| LWP.region (by kernel_rfl) <| kmv rfl <| kas rfl <| RunK.nil <| LWP.region (by kernel_rfl) <| kmv rfl <| kmv rfl <| kmv rfl <| kmv rfl <| K.mul rfl rfl w8 .plain <| K.shr rfl rfl (by omega) hs .plain ?_; refine kcv rfl hv ?_; refine K.indexSlc rfl rfl (by omega) rfl .plain ?_; refine K.storeOne rfl rfl rfl rfl hbl (lo_set hlt) .plain <| RunK.nil <| LWP.region (by kernel_rfl) <| kad rfl rfl (wrap_i64 (by omega)) <| kmv rfl <| RunK.nil ?_)
    exact ⟨_, _, by omega, Le.of (by exact ⟨rfl, rfl, rfl, rfl, trivial⟩) (by exact ⟨rfl, trivial⟩) (by exact rfl) (by exact rfl) (by repeat' (first | refine all_cons_true ?_ ?_ | rfl | exact bytes_inUse | exact vals_inUse | exact mid_inUse rfl)), i + 1, by omega, rfl, rfl⟩
  · have e : i = 2 := by omega
    subst e
    have hlen : 0 + 2 ≤ ((lo 2 n 2).map bc).length := by rw [lo_len _ _ _ (Nat.le_refl _)]; omega
    have hcut : (((lo 2 n 2).map bc).drop 0).take 2 = (leB 2 n).map bc := by
      rw [List.drop_zero, List.take_of_length_le (by rw [lo_len _ _ _ (Nat.le_refl _)]; exact Nat.le_refl _), lo_all]
    (refine LWP.seq <| LWP.region (by kernel_rfl) <| klt rfl rfl (decide_eq_false (by omega)) <| RunK.nil <| LWP.seq <| LWP.condF rfl ?_; refine LWP.exit <| LWP.seq <| LWP.region (by kernel_rfl) <| kmv rfl <| K.convStr rfl rfl (by kernel_rfl) StrT.u hlen hcut .plain <| kas rfl <| RunK.nil <| LWP.ret ?_)
    exact ⟨[_], ⟨rfl, trivial⟩, rfl⟩
theorem low_4 (n : Nat) (hn : n < 18446744073709551616) : PSpec Tryz.prog X 51 [Ln .i64 4, Ln .u64 (n : Nat)] (Ls (leB 4 n)) := by
  refine PSpec.intro Tryz.func51 rfl (by kernel_rfl) rfl rfl ?_
  intro C
  (refine LWP.seq <| LWP.region (by kernel_rfl) <| kas rfl <| RunK.nil <| LWP.seq <| LWP.region (by kernel_rfl) <| kmv rfl <| K.makeSlc (m := 4) (zs := List.replicate 4 (.int .u8 0)) (sz := 1) (e := 5) (bytes := 1) (zc := (lo 4 n 0).map bc) rfl rfl (by kernel_rfl) (by kernel_rfl) (by decide) rfl rfl .plain <| kas rfl <| RunK.nil <| LWP.seq <| LWP.seq <| LWP.region (by kernel_rfl) <| kmv rfl ?_; refine K.lenSlc rfl SliceT.h rfl .plain ?_; refine kmv rfl <| RunK.nil <| LWP.block ?_)
  refine LWP.loop (fun m σ => ∃ i : Nat, i ≤ 4 ∧ m = 4 - i ∧ σ = ⟨[(1, Ln .u64 (n : Nat)), (5, .sv (.one (.slc 8 0 4))), (10, Ln .i64 4), (11, Ln .i64 (i : Nat))], [(8, some ⟨5, (lo 4 n i).map bc, false⟩)], X⟩) 4
    ⟨_, Le.of (by exact ⟨rfl, rfl, rfl, rfl, trivial⟩) (by exact ⟨rfl, trivial⟩) (by exact rfl) (by exact rfl) (by repeat' (first | refine all_cons_true ?_ ?_ | rfl | exact bytes_inUse | exact vals_inUse | exact mid_inUse rfl)), 0, Nat.zero_le _, rfl, rfl⟩ ?_
  rintro m σ ⟨i, hi, rfl, rfl⟩
  by_cases hlt : i < 4
  · have w8 : IntKind.i64.wrap (8 * (i : Int)) = ((8 * i : Nat) : Int) := by rw [wrap_i64 (by omega)]; omega
    have ed : ((n : Nat) : Int) / 2 ^ (8 * i) = ((n / 256 ^ i : Nat) : Int) := by rw [p256, Int.natCast_ediv, Int.natCast_pow]; rfl
    have hs := (shr_s (a := ((n : Nat) : Int)) (s := 8 * i) (by omega)).trans ed
    have hv : IntKind.u8.wrap ((n / 256 ^ i : Nat) : Int) = ((UInt8.ofNat (n / 256 ^ i % 256)).toNat : Nat) := by
      rw [UInt8.toNat_ofNat', Nat.mod_eq_of_lt (Nat.mod_lt _ (by decide)), IntKind.wrap_u8]
      omega
    have hbl : Nat.blt (0 + i * 1) ((lo 4 n i).map bc).length = true := by rw [lo_len _ _ _ hi, Nat.blt_eq]; omega
    (refine LWP.seq <| LWP.region (by kernel_rfl) <| klt rfl rfl (decide_eq_true (by omega)) <| RunK.nil <| LWP.seq <| LWP.condT rfl ?_; refine LWP.skip ?_; refine LWP.seq <| LWP.block <| LWP.seq <| LWP.region (by kernel_rfl) <| kmv rfl <| kas rfl <| RunK.nil <| LWP.region (by kernel_rfl) <| kmv rfl <| kmv rfl <| kmv rfl <| kmv rfl <| K.mul rfl rfl w8 .plain <| K.shr rfl rfl (by omega) hs .plain ?_; refine kcv rfl hv ?_; refine K.indexSlc rfl rfl (by omega) rfl .plain ?_; refine K.storeOne rfl rfl rfl rfl hbl (lo_set hlt) .plain <| RunK.nil <| LWP.region (by kernel_rfl) <| kad rfl rfl (wrap_i64 (by omega)) <| kmv rfl <| RunK.nil ?_)
    exact ⟨_, _, by omega, Le.of (by exact ⟨rfl, rfl, rfl, rfl, trivial⟩) (by exact ⟨rfl, trivial⟩) (by exact rfl) (by exact rfl) (by repeat' (first | refine all_cons_true ?_ ?_ | rfl | exact bytes_inUse | exact vals_inUse | exact mid_inUse rfl)), i + 1, by omega, rfl, rfl⟩
  · have e : i = 4 := by omega
    subst e
    have hlen : 0 + 4 ≤ ((lo 4 n 4).map bc).length := by rw [lo_len _ _ _ (Nat.le_refl _)]; omega
    have hcut : (((lo 4 n 4).map bc).drop 0).take 4 = (leB 4 n).map bc := by
      rw [List.drop_zero, List.take_of_length_le (by rw [lo_len _ _ _ (Nat.le_refl _)]; exact Nat.le_refl _), lo_all]
    (refine LWP.seq <| LWP.region (by kernel_rfl) <| klt rfl rfl (decide_eq_false (by omega)) <| RunK.nil <| LWP.seq <| LWP.condF rfl ?_; refine LWP.exit <| LWP.seq <| LWP.region (by kernel_rfl) <| kmv rfl <| K.convStr rfl rfl (by kernel_rfl) StrT.u hlen hcut .plain <| kas rfl <| RunK.nil <| LWP.ret ?_)
    exact ⟨[_], ⟨rfl, trivial⟩, rfl⟩
theorem low_8 (n : Nat) (hn : n < 18446744073709551616) : PSpec Tryz.prog X 51 [Ln .i64 8, Ln .u64 (n : Nat)] (Ls (leB 8 n)) := by
  refine PSpec.intro Tryz.func51 rfl (by kernel_rfl) rfl rfl ?_
  intro C
  (refine LWP.seq <| LWP.region (by kernel_rfl) <| kas rfl <| RunK.nil <| LWP.seq <| LWP.region (by kernel_rfl) <| kmv rfl <| K.makeSlc (m := 8) (zs := List.replicate 8 (.int .u8 0)) (sz := 1) (e := 5) (bytes := 1) (zc := (lo 8 n 0).map bc) rfl rfl (by kernel_rfl) (by kernel_rfl) (by decide) rfl rfl .plain <| kas rfl <| RunK.nil <| LWP.seq <| LWP.seq <| LWP.region (by kernel_rfl) <| kmv rfl ?_; refine K.lenSlc rfl SliceT.h rfl .plain ?_; refine kmv rfl <| RunK.nil <| LWP.block ?_)
  refine LWP.loop (fun m σ => ∃ i : Nat, i ≤ 8 ∧ m = 8 - i ∧ σ = ⟨[(1, Ln .u64 (n : Nat)), (5, .sv (.one (.slc 8 0 8))), (10, Ln .i64 8), (11, Ln .i64 (i : Nat))], [(8, some ⟨5, (lo 8 n i).map bc, false⟩)], X⟩) 8
    ⟨_, Le.of (by exact ⟨rfl, rfl, rfl, rfl, trivial⟩) (by exact ⟨rfl, trivial⟩) (by exact rfl) (by exact rfl) (by repeat' (first | refine all_cons_true ?_ ?_ | rfl | exact bytes_inUse | exact vals_inUse | exact mid_inUse rfl)), 0, Nat.zero_le _, rfl, rfl⟩ ?_
  rintro m σ ⟨i, hi, rfl, rfl⟩
  by_cases hlt : i < 8
  · have w8 : IntKind.i64.wrap (8 * (i : Int)) = ((8 * i : Nat) : Int) := by rw [wrap_i64 (by omega)]; omega
    have ed : ((n : Nat) : Int) / 2 ^ (8 * i) = ((n / 256 ^ i : Nat) : Int) := by rw [p256, Int.natCast_ediv, Int.natCast_pow]; rfl
    have hs := (shr_s (a := ((n : Nat) : Int)) (s := 8 * i) (by omega)).trans ed
    have hv : IntKind.u8.wrap ((n / 256 ^ i : Nat) : Int) = ((UInt8.ofNat (n / 256 ^ i % 256)).toNat : Nat) := by
      rw [UInt8.toNat_ofNat', Nat.mod_eq_of_lt (Nat.mod_lt _ (by decide)), IntKind.wrap_u8]
      omega
    have hbl : Nat.blt (0 + i * 1) ((lo 8 n i).map bc).length = true := by rw [lo_len _ _ _ hi, Nat.blt_eq]; omega
    (refine LWP.seq <| LWP.region (by kernel_rfl) <| klt rfl rfl (decide_eq_true (by omega)) <| RunK.nil <| LWP.seq <| LWP.condT rfl ?_; refine LWP.skip ?_; refine LWP.seq <| LWP.block <| LWP.seq <| LWP.region (by kernel_rfl) <| kmv rfl <| kas rfl <| RunK.nil <| LWP.region (by kernel_rfl) <| kmv rfl <| kmv rfl <| kmv rfl <| kmv rfl <| K.mul rfl rfl w8 .plain <| K.shr rfl rfl (by omega) hs .plain ?_; refine kcv rfl hv ?_; refine K.indexSlc rfl rfl (by omega) rfl .plain ?_; refine K.storeOne rfl rfl rfl rfl hbl (lo_set hlt) .plain <| RunK.nil <| LWP.region (by kernel_rfl) <| kad rfl rfl (wrap_i64 (by omega)) <| kmv rfl <| RunK.nil ?_)
    exact ⟨_, _, by omega, Le.of (by exact ⟨rfl, rfl, rfl, rfl, trivial⟩) (by exact ⟨rfl, trivial⟩) (by exact rfl) (by exact rfl) (by repeat' (first | refine all_cons_true ?_ ?_ | rfl | exact bytes_inUse | exact vals_inUse | exact mid_inUse rfl)), i + 1, by omega, rfl, rfl⟩
  · have e : i = 8 := by omega
    subst e
    have hlen : 0 + 8 ≤ ((lo 8 n 8).map bc).length := by rw [lo_len _ _ _ (Nat.le_refl _)]; omega
    have hcut : (((lo 8 n 8).map bc).drop 0).take 8 = (leB 8 n).map bc := by
      rw [List.drop_zero, List.take_of_length_le (by rw [lo_len _ _ _ (Nat.le_refl _)]; exact Nat.le_refl _), lo_all]
    (refine LWP.seq <| LWP.region (by kernel_rfl) <| klt rfl rfl (decide_eq_false (by omega)) <| RunK.nil <| LWP.seq <| LWP.condF rfl ?_; refine LWP.exit <| LWP.seq <| LWP.region (by kernel_rfl) <| kmv rfl <| K.convStr rfl rfl (by kernel_rfl) StrT.u hlen hcut .plain <| kas rfl <| RunK.nil <| LWP.ret ?_)
    exact ⟨[_], ⟨rfl, trivial⟩, rfl⟩
end Go.Proofs.YtnomcmklhbjfjaaGreatDoor
end
section
namespace Go.Proofs.YtnomcmklhbjfjaaGreatDoor
open Go Go.Lg
variable (X : Nat → Option Obj)
abbrev w0 (k : Nat) : List (Nat × Option Box) := [(k, some ⟨68, [.val (.pointer none), .val (.int .i64 0)], false⟩)]
abbrev w1 (k ks kb : Nat) (l : List UInt8) : List (Nat × Option Box) :=
  [(k, some ⟨68, [.ptr ks 0, .val (.int .i64 (l.length : Nat))], false⟩), (ks, some ⟨103, [.slc kb 0 l.length], false⟩), (kb, some ⟨5, l.map bc, true⟩)]
theorem String_0 : MSpec Tryz.prog X 26 [Lp 1000000] (w0 1000000) (Ls []) (w0 1000000) := by
  refine MSpec.intro Tryz.func26 rfl (by kernel_rfl) rfl rfl rfl rfl rfl ?_
  intro C
  (refine LWP.seq <| LWP.region (by kernel_rfl) <| kas rfl <| RunK.nil <| LWP.seq <| LWP.seq <| LWP.region (by kernel_rfl) <| kmv rfl <| K.ptrNil rfl (by kernel_rfl) (.inl ⟨rfl, rfl⟩) .plain <| kmv rfl <| gmv rfl rfl rfl <| K.nilCheck rfl (.taken rfl rfl) ?_; refine K.fieldAddr rfl rfl (.taken rfl rfl) ?_; refine K.loadOne rfl rfl rfl (.taken rfl rfl) ?_; refine K.nilNil rfl (by kernel_rfl) (.inl ⟨rfl, rfl⟩) (.taken rfl rfl) ?_; refine kpf rfl rfl <| RunK.nil <| LWP.condT rfl ?_; refine LWP.seq <| LWP.region (by kernel_rfl) <| kas rfl <| RunK.nil <| LWP.ret ?_)
  exact ⟨[], ⟨[_], ⟨rfl, trivial⟩, rfl⟩, ⟨⟨_, rfl, rfl⟩, trivial⟩, rfl, rfl⟩
theorem String_1 (l : List UInt8) : MSpec Tryz.prog X 26 [Lp 1000000] (w1 1000000 1000001 1000002 l) (Ls l) (w1 1000000 1000001 1000002 l) := by
  refine MSpec.intro Tryz.func26 rfl (by kernel_rfl) rfl rfl (by repeat' (first | refine all_cons_true ?_ ?_ | rfl | exact bytes_inUse | exact vals_inUse | exact mid_inUse rfl)) rfl rfl ?_
  intro C
  have hlen : 0 + l.length ≤ (l.map bc).length := by rw [List.length_map]; omega
  have hcut : ((l.map bc).drop 0).take l.length = l.map bc := by rw [List.drop_zero, List.take_of_length_le (by rw [List.length_map]; exact Nat.le_refl _)]
  (refine LWP.seq <| LWP.region (by kernel_rfl) <| kas rfl <| RunK.nil <| LWP.seq <| LWP.seq <| LWP.region (by kernel_rfl) <| kmv rfl <| K.ptrNil rfl (by kernel_rfl) (.inl ⟨rfl, rfl⟩) .plain <| kmv rfl <| gmv rfl rfl rfl <| K.nilCheck rfl (.taken rfl rfl) ?_; refine K.fieldAddr rfl rfl (.taken rfl rfl) ?_; refine K.loadOne rfl rfl rfl (.taken rfl rfl) ?_; refine K.ptrNil rfl (by kernel_rfl) (.inl ⟨rfl, rfl⟩) (.taken rfl rfl) ?_; refine kpf rfl rfl <| RunK.nil <| LWP.condF rfl ?_; refine LWP.skip ?_; refine LWP.seq <| LWP.draws mixed (by kernel_rfl) <| kmv rfl <| K.nilCheck rfl .plain <| kfa rfl rfl ?_; refine kl1 rfl rfl rfl <| K.nilCheck rfl .plain <| kfa rfl rfl ?_; refine kl1 rfl rfl rfl <| kmv rfl <| K.nilCheck rfl .plain <| kfa rfl rfl ?_; refine kl1 rfl rfl rfl <| K.cutSlc rfl rfl SliceT.h (Nat.le_refl _) .plain <| K.convStr rfl rfl (by kernel_rfl) StrT.u hlen hcut .plain <| kas rfl <| RunK.nil <| And.intro (by kernel_rfl) ?_; refine LWP.ret ?_)
  exact ⟨[], ⟨[_], ⟨rfl, trivial⟩, rfl⟩, (by repeat' (first | exact trivial | refine And.intro ⟨_, rfl, ?_⟩ ?_ | refine And.intro ⟨_, rfl⟩ ?_ | rfl | exact Box.ren_bytes _ _ _ _ | exact Box.ren_vals _ _ _ _ | exact Box.ren_mid rfl)), rfl, rfl⟩
theorem WRaw_0 (s : List UInt8) (hs : s.length < 1000000000) : MSpec Tryz.prog X 50 [Lp 1000000, Ls s] (w0 1000000) (Lb true) (w1 1000000 1000001 1000002 s) := by
  refine MSpec.intro Tryz.func50 rfl (by kernel_rfl) rfl rfl (by repeat' (first | refine all_cons_true ?_ ?_ | rfl | exact bytes_inUse | exact vals_inUse | exact mid_inUse rfl)) rfl rfl ?_
  intro C
  (refine LWP.seq <| LWP.region (by kernel_rfl) <| kas rfl <| RunK.nil <| LWP.seq <| LWP.seq <| LWP.region (by kernel_rfl) <| kmv rfl <| K.ptrNil rfl (by kernel_rfl) (.inl ⟨rfl, rfl⟩) .plain <| RunK.nil <| LWP.condF rfl ?_; refine LWP.skip ?_; refine LWP.seq <| LWP.seq <| LWP.draws mixed (by kernel_rfl) <| kmv rfl <| K.nilCheck rfl .plain <| kfa rfl rfl ?_; refine kl1 rfl rfl rfl <| K.nilNil rfl (by kernel_rfl) (.inl ⟨rfl, rfl⟩) .plain <| kmv rfl <| RunK.passed rfl rfl rfl <| RunK.passed rfl rfl rfl <| RunK.passed rfl rfl rfl <| RunK.passed rfl rfl rfl <| RunK.passed rfl rfl rfl <| RunK.passed rfl rfl rfl <| RunK.passed rfl rfl rfl <| RunK.passed rfl rfl rfl <| RunK.passed rfl rfl rfl <| RunK.passed rfl rfl rfl <| RunK.passed rfl rfl rfl ?_; refine RunK.passed rfl rfl rfl <| RunK.passed rfl rfl rfl <| kpt rfl rfl <| RunK.nil <| And.intro (by kernel_rfl) ?_; refine LWP.condT rfl ?_; refine LWP.region (by kernel_rfl) <| kmv rfl <| kmv rfl <| K.callM [] (w0 1000000) (String_0 X) rfl rfl (by exact (And.intro ⟨_, rfl, rfl⟩ trivial)) (by exact (all_cons_true (all_cons_true rfl (all_cons_true rfl rfl)) rfl)) rfl rfl rfl rfl (by exact (.box rfl rfl .nil)) .plain <| K.strBytes (e := 5) rfl StrT.u (by kernel_rfl) (by kernel_rfl) rfl .plain <| K.build rfl rfl (by exact rfl) (by exact nl1 rfl rfl) .plain ?_; refine K.box rfl rfl rfl .plain <| K.nilCheck rfl .plain <| kfa rfl rfl ?_; refine K.storeOne rfl rfl rfl rfl rfl (nl2 rfl rfl rfl) .plain <| RunK.nil <| LWP.seq <| LWP.draws mixed (by kernel_rfl) <| kmv rfl <| K.nilCheck rfl .plain <| kfa rfl rfl ?_; refine kl1 rfl rfl rfl <| kmv rfl <| K.nilCheck rfl .plain <| kfa rfl rfl ?_; refine kl1 rfl rfl rfl <| K.nilCheck rfl .plain <| kfa rfl rfl ?_; refine kl1 rfl rfl rfl <| kmv rfl <| K.appendStr (by_ := 1) rfl rfl rfl rfl (by kernel_rfl) StrT.u (by simp only [List.length_nil]; omega) (by simp only [List.length_nil]; omega) rfl (Nat.zero_add _) (List.nil_append _) .plain <| K.nilCheck rfl .plain <| kfa rfl rfl ?_; refine K.storeOne rfl rfl rfl rfl rfl (nl1 rfl rfl) .plain <| RunK.nil <| And.intro (by kernel_rfl) ?_; refine LWP.seq <| LWP.region (by kernel_rfl) <| kmv rfl <| kmv rfl <| K.nilCheck rfl .plain <| kfa rfl rfl ?_; refine kl1 rfl rfl rfl <| K.nilCheck rfl .plain <| kfa rfl rfl ?_; refine kl1 rfl rfl rfl <| K.lenSlc rfl SliceT.h rfl .plain ?_; refine K.nilCheck rfl .plain <| kfa rfl rfl ?_; refine K.storeOne rfl rfl rfl rfl rfl (nl2 rfl rfl rfl) .plain <| RunK.nil <| LWP.seq <| LWP.region (by kernel_rfl) <| kas rfl <| RunK.nil <| LWP.ret ?_)
  exact ⟨[(1000001, 32), (1000002, 47)], ⟨[_], ⟨rfl, trivial⟩, rfl⟩, (by repeat' (first | exact trivial | refine And.intro ⟨_, rfl, ?_⟩ ?_ | refine And.intro ⟨_, rfl⟩ ?_ | rfl | exact Box.ren_bytes _ _ _ _ | exact Box.ren_vals _ _ _ _ | exact Box.ren_mid rfl)), rfl, rfl⟩
theorem WRaw_1 (l s : List UInt8) (hs : l.length + s.length < 1000000000) : MSpec Tryz.prog X 50 [Lp 1000000, Ls s] (w1 1000000 1000001 1000002 l) (Lb true) (w1 1000000 1000001 1000003 (l ++ s) ++ [(1000002, none)]) := by
  refine MSpec.intro Tryz.func50 rfl (by kernel_rfl) rfl rfl (by repeat' (first | refine all_cons_true ?_ ?_ | rfl | exact bytes_inUse | exact vals_inUse | exact mid_inUse rfl)) rfl rfl ?_
  intro C
  ((refine LWP.seq <| LWP.region (by kernel_rfl) <| kas rfl <| RunK.nil <| LWP.seq <| LWP.seq <| LWP.region (by kernel_rfl) <| kmv rfl <| K.ptrNil rfl (by kernel_rfl) (.inl ⟨rfl, rfl⟩) .plain <| RunK.nil <| LWP.condF rfl ?_; refine LWP.skip ?_; refine LWP.seq <| LWP.seq <| LWP.draws mixed (by kernel_rfl) <| kmv rfl <| K.nilCheck rfl .plain <| kfa rfl rfl ?_; refine kl1 rfl rfl rfl <| K.ptrNil rfl (by kernel_rfl) (.inl ⟨rfl, rfl⟩) .plain <| kmv rfl <| gmv rfl rfl rfl <| K.nilCheck rfl (.taken rfl rfl) ?_; refine K.fieldAddr rfl rfl (.taken rfl rfl) ?_; refine K.loadOne rfl rfl rfl (.taken rfl rfl) ?_; refine gmv rfl rfl rfl <| K.nilCheck rfl (.taken rfl rfl) ?_; refine K.fieldAddr rfl rfl (.taken rfl rfl) ?_; refine K.loadOne rfl rfl rfl (.taken rfl rfl) ?_; refine K.nilCheck rfl (.taken rfl rfl) ?_; refine K.fieldAddr rfl rfl (.taken rfl rfl) ?_; refine K.loadOne rfl rfl rfl (.taken rfl rfl) ?_); (refine K.lenSlc rfl SliceT.h rfl (.taken rfl rfl) ?_; refine K.neq rfl rfl ((bne_eq_false_iff_eq.2 (by omega))) (.taken rfl rfl) ?_; refine kpf rfl rfl <| RunK.nil <| And.intro (by kernel_rfl) ?_; refine LWP.condF rfl ?_; refine LWP.skip ?_; refine LWP.seq <| LWP.draws mixed (by kernel_rfl) <| kmv rfl <| K.nilCheck rfl .plain <| kfa rfl rfl ?_; refine kl1 rfl rfl rfl <| kmv rfl <| K.nilCheck rfl .plain <| kfa rfl rfl ?_; refine kl1 rfl rfl rfl <| K.nilCheck rfl .plain <| kfa rfl rfl ?_; refine kl1 rfl rfl rfl <| kmv rfl <| K.appendStr (by_ := 1) rfl rfl (List.length_map _) rfl (by kernel_rfl) StrT.u (by omega) (by omega) rfl (List.length_append).symm (List.map_append).symm .plain <| K.nilCheck rfl .plain <| kfa rfl rfl ?_; refine K.storeOne rfl rfl rfl rfl rfl (nl1 rfl rfl) .plain <| RunK.nil <| And.intro (by kernel_rfl) ?_; refine LWP.seq <| LWP.region (by kernel_rfl) <| kmv rfl <| kmv rfl <| K.nilCheck rfl .plain <| kfa rfl rfl ?_; refine kl1 rfl rfl rfl <| K.nilCheck rfl .plain <| kfa rfl rfl ?_); (refine kl1 rfl rfl rfl <| K.lenSlc rfl SliceT.h rfl .plain ?_; refine K.nilCheck rfl .plain <| kfa rfl rfl ?_; refine K.storeOne rfl rfl rfl rfl rfl (nl2 rfl rfl rfl) .plain <| RunK.nil <| LWP.seq <| LWP.region (by kernel_rfl) <| kas rfl <| RunK.nil <| LWP.ret ?_))
  exact ⟨[(1000003, 47)], ⟨[_], ⟨rfl, trivial⟩, rfl⟩, (by repeat' (first | exact trivial | refine And.intro ⟨_, rfl, ?_⟩ ?_ | refine And.intro ⟨_, rfl⟩ ?_ | rfl | exact Box.ren_bytes _ _ _ _ | exact Box.ren_vals _ _ _ _ | exact Box.ren_mid rfl)), rfl, rfl⟩
end Go.Proofs.YtnomcmklhbjfjaaGreatDoor
end
section
namespace Go.Proofs.YtnomcmklhbjfjaaGreatDoor
open Go Go.Lg
variable (X : Nat → Option Obj)
def fitW (w : Int) (n : Nat) : Bool := isW w && decide (n < 256 ^ w.toNat)
theorem shr_1 (n : Nat) : ((n : Nat) : Int).fdiv (2 ^ (min (((8 * 1 : Nat) : Int)).toNat IntKind.u64.bits)) = ((n / 256 ^ 1 : Nat) : Int) := by
  have ed : ((n : Nat) : Int) / 2 ^ (8 * 1) = ((n / 256 ^ 1 : Nat) : Int) := by rw [p256, Int.natCast_ediv, Int.natCast_pow]; rfl
  exact (shr_s (a := ((n : Nat) : Int)) (s := 8 * 1) (by omega)).trans ed
theorem WNum_0_1 (n : Nat) (hn : n < 18446744073709551616) (h : n < 256 ^ 1) : MSpec Tryz.prog X 24 [Lp 1000000, Ln .i64 1, Ln .u64 (n : Nat)] (w0 1000000) (Lb true) (w1 1000000 1000001 1000002 (leB 1 n)) := by
  refine MSpec.intro Tryz.func24 rfl (by kernel_rfl) rfl rfl (by repeat' (first | refine all_cons_true ?_ ?_ | rfl | exact bytes_inUse | exact vals_inUse | exact mid_inUse rfl)) rfl rfl ?_
  intro C
  have hz : ((n / 256 ^ 1 : Nat) : Int) = 0 := by rw [Nat.div_eq_of_lt h]; rfl
  have hs := (shr_1 n).trans hz
  (refine LWP.seq <| LWP.region (by kernel_rfl) <| kas rfl <| RunK.nil <| LWP.seq <| LWP.seq <| LWP.region (by kernel_rfl) <| kmv rfl <| kca rfl rfl (isWidth_spec X _ true rfl) <| K.not rfl rfl .plain <| kmv rfl <| gmv rfl rfl rfl <| gmv rfl rfl rfl <| K.mul rfl rfl (c := ((8 * 1 : Nat) : Int)) rfl (.taken rfl rfl) ?_; refine K.shr rfl rfl (by decide) hs (.taken rfl rfl) ?_; refine K.neq rfl rfl ((bne_eq_false_iff_eq.2 (by omega))) (.taken rfl rfl) ?_; refine kpf rfl rfl <| RunK.nil <| LWP.condF rfl ?_; refine LWP.skip ?_; refine LWP.seq <| LWP.region (by kernel_rfl) <| kmv rfl <| kmv rfl <| kmv rfl <| kca rfl rfl (low_1 X n hn) <| K.callM [(1000001, 501), (1000002, 502)] (w1 1000000 501 502 (leB 1 n)) (WRaw_0 X _ (by rw [leB_length]; decide)) rfl rfl (by exact (And.intro ⟨_, rfl, rfl⟩ trivial)) (by exact (all_cons_true (all_cons_true rfl (all_cons_true rfl rfl)) rfl)) rfl rfl rfl rfl (by exact (.box rfl rfl (.box rfl rfl (.box rfl rfl .nil)))) .plain <| kas rfl <| RunK.nil <| LWP.ret ?_)
  exact ⟨[(1000001, 501), (1000002, 502)], ⟨[_], ⟨rfl, trivial⟩, rfl⟩, (by repeat' (first | exact trivial | refine And.intro ⟨_, rfl, ?_⟩ ?_ | refine And.intro ⟨_, rfl⟩ ?_ | rfl | exact Box.ren_bytes _ _ _ _ | exact Box.ren_vals _ _ _ _ | exact Box.ren_mid rfl)), rfl, rfl⟩
theorem WNum_1_1 (l : List UInt8) (n : Nat) (hn : n < 18446744073709551616) (h : n < 256 ^ 1) (hl : l.length < 900000000) : MSpec Tryz.prog X 24 [Lp 1000000, Ln .i64 1, Ln .u64 (n : Nat)] (w1 1000000 1000001 1000002 l) (Lb true) (w1 1000000 1000001 1000003 (l ++ leB 1 n) ++ [(1000002, none)]) := by
  refine MSpec.intro Tryz.func24 rfl (by kernel_rfl) rfl rfl (by repeat' (first | refine all_cons_true ?_ ?_ | rfl | exact bytes_inUse | exact vals_inUse | exact mid_inUse rfl)) rfl rfl ?_
  intro C
  have hz : ((n / 256 ^ 1 : Nat) : Int) = 0 := by rw [Nat.div_eq_of_lt h]; rfl
  have hs := (shr_1 n).trans hz
  (refine LWP.seq <| LWP.region (by kernel_rfl) <| kas rfl <| RunK.nil <| LWP.seq <| LWP.seq <| LWP.region (by kernel_rfl) <| kmv rfl <| kca rfl rfl (isWidth_spec X _ true rfl) <| K.not rfl rfl .plain <| kmv rfl <| gmv rfl rfl rfl <| gmv rfl rfl rfl <| K.mul rfl rfl (c := ((8 * 1 : Nat) : Int)) rfl (.taken rfl rfl) ?_; refine K.shr rfl rfl (by decide) hs (.taken rfl rfl) ?_; refine K.neq rfl rfl ((bne_eq_false_iff_eq.2 (by omega))) (.taken rfl rfl) ?_; refine kpf rfl rfl <| RunK.nil <| LWP.condF rfl ?_; refine LWP.skip ?_; refine LWP.seq <| LWP.region (by kernel_rfl) <| kmv rfl <| kmv rfl <| kmv rfl <| kca rfl rfl (low_1 X n hn) <| K.callM [(1000003, 503)] (w1 1000000 1000001 503 (l ++ leB 1 n) ++ [(1000002, none)]) (WRaw_1 X l _ (by rw [leB_length]; omega)) rfl rfl (by exact (And.intro ⟨_, rfl, rfl⟩ (And.intro ⟨_, rfl, rfl⟩ (And.intro ⟨_, rfl, (Box.ren_bytes _ _ _ _)⟩ trivial)))) (by exact (all_cons_true (all_cons_true rfl (all_cons_true rfl rfl)) (all_cons_true (all_cons_true rfl rfl) (all_cons_true bytes_inUse rfl)))) rfl rfl rfl rfl (by exact (.box rfl rfl (.box rfl rfl (.box rfl (Box.ren_bytes _ _ _ _) (.dead rfl .nil))))) .plain <| kas rfl <| RunK.nil <| LWP.ret ?_)
  exact ⟨[(1000003, 503)], ⟨[_], ⟨rfl, trivial⟩, rfl⟩, (by repeat' (first | exact trivial | refine And.intro ⟨_, rfl, ?_⟩ ?_ | refine And.intro ⟨_, rfl⟩ ?_ | rfl | exact Box.ren_bytes _ _ _ _ | exact Box.ren_vals _ _ _ _ | exact Box.ren_mid rfl)), rfl, rfl⟩
theorem shr_2 (n : Nat) : ((n : Nat) : Int).fdiv (2 ^ (min (((8 * 2 : Nat) : Int)).toNat IntKind.u64.bits)) = ((n / 256 ^ 2 : Nat) : Int) := by
  have ed : ((n : Nat) : Int) / 2 ^ (8 * 2) = ((n / 256 ^ 2 : Nat) : Int) := by rw [p256, Int.natCast_ediv, Int.natCast_pow]; rfl
  exact (shr_s (a := ((n : Nat) : Int)) (s := 8 * 2) (by omega)).trans ed
theorem WNum_0_2 (n : Nat) (hn : n < 18446744073709551616) (h : n < 256 ^ 2) : MSpec Tryz.prog X 24 [Lp 1000000, Ln .i64 2, Ln .u64 (n : Nat)] (w0 1000000) (Lb true) (w1 1000000 1000001 1000002 (leB 2 n)) := by
  refine MSpec.intro Tryz.func24 rfl (by kernel_rfl) rfl rfl (by repeat' (first | refine all_cons_true ?_ ?_ | rfl | exact bytes_inUse | exact vals_inUse | exact mid_inUse rfl)) rfl rfl ?_
  intro C
  have hz : ((n / 256 ^ 2 : Nat) : Int) = 0 := by rw [Nat.div_eq_of_lt h]; rfl
  have hs := (shr_2 n).trans hz
  (refine LWP.seq <| LWP.region (by kernel_rfl) <| kas rfl <| RunK.nil <| LWP.seq <| LWP.seq <| LWP.region (by kernel_rfl) <| kmv rfl <| kca rfl rfl (isWidth_spec X _ true rfl) <| K.not rfl rfl .plain <| kmv rfl <| gmv rfl rfl rfl <| gmv rfl rfl rfl <| K.mul rfl rfl (c := ((8 * 2 : Nat) : Int)) rfl (.taken rfl rfl) ?_; refine K.shr rfl rfl (by decide) hs (.taken rfl rfl) ?_; refine K.neq rfl rfl ((bne_eq_false_iff_eq.2 (by omega))) (.taken rfl rfl) ?_; refine kpf rfl rfl <| RunK.nil <| LWP.condF rfl ?_; refine LWP.skip ?_; refine LWP.seq <| LWP.region (by kernel_rfl) <| kmv rfl <| kmv rfl <| kmv rfl <| kca rfl rfl (low_2 X n hn) <| K.callM [(1000001, 501), (1000002, 502)] (w1 1000000 501 502 (leB 2 n)) (WRaw_0 X _ (by rw [leB_length]; decide)) rfl rfl (by exact (And.intro ⟨_, rfl, rfl⟩ trivial)) (by exact (all_cons_true (all_cons_true rfl (all_cons_true rfl rfl)) rfl)) rfl rfl rfl rfl (by exact (.box rfl rfl (.box rfl rfl (.box rfl rfl .nil)))) .plain <| kas rfl <| RunK.nil <| LWP.ret ?_)
  exact ⟨[(1000001, 501), (1000002, 502)], ⟨[_], ⟨rfl, trivial⟩, rfl⟩, (by repeat' (first | exact trivial | refine And.intro ⟨_, rfl, ?_⟩ ?_ | refine And.intro ⟨_, rfl⟩ ?_ | rfl | exact Box.ren_bytes _ _ _ _ | exact Box.ren_vals _ _ _ _ | exact Box.ren_mid rfl)), rfl, rfl⟩
theorem shr_4 (n : Nat) : ((n : Nat) : Int).fdiv (2 ^ (min (((8 * 4 : Nat) : Int)).toNat IntKind.u64.bits)) = ((n / 256 ^ 4 : Nat) : Int) := by
  have ed : ((n : Nat) : Int) / 2 ^ (8 * 4) = ((n / 256 ^ 4 : Nat) : Int) := by rw [p256, Int.natCast_ediv, Int.natCast_pow]; rfl
  exact (shr_s (a := ((n : Nat) : Int)) (s := 8 * 4) (by omega)).trans ed
theorem WNum_0_4 (n : Nat) (hn : n < 18446744073709551616) (h : n < 256 ^ 4) : MSpec Tryz.prog X 24 [Lp 1000000, Ln .i64 4, Ln .u64 (n : Nat)] (w0 1000000) (Lb true) (w1 1000000 1000001 1000002 (leB 4 n)) := by
  refine MSpec.intro Tryz.func24 rfl (by kernel_rfl) rfl rfl (by repeat' (first | refine all_cons_true ?_ ?_ | rfl | exact bytes_inUse | exact vals_inUse | exact mid_inUse rfl)) rfl rfl ?_
  intro C
  have hz : ((n / 256 ^ 4 : Nat) : Int) = 0 := by rw [Nat.div_eq_of_lt h]; rfl
  have hs := (shr_4 n).trans hz
  (refine LWP.seq <| LWP.region (by kernel_rfl) <| kas rfl <| RunK.nil <| LWP.seq <| LWP.seq <| LWP.region (by kernel_rfl) <| kmv rfl <| kca rfl rfl (isWidth_spec X _ true rfl) <| K.not rfl rfl .plain <| kmv rfl <| gmv rfl rfl rfl <| gmv rfl rfl rfl <| K.mul rfl rfl (c := ((8 * 4 : Nat) : Int)) rfl (.taken rfl rfl) ?_; refine K.shr rfl rfl (by decide) hs (.taken rfl rfl) ?_; refine K.neq rfl rfl ((bne_eq_false_iff_eq.2 (by omega))) (.taken rfl rfl) ?_; refine kpf rfl rfl <| RunK.nil <| LWP.condF rfl ?_; refine LWP.skip ?_; refine LWP.seq <| LWP.region (by kernel_rfl) <| kmv rfl <| kmv rfl <| kmv rfl <| kca rfl rfl (low_4 X n hn) <| K.callM [(1000001, 501), (1000002, 502)] (w1 1000000 501 502 (leB 4 n)) (WRaw_0 X _ (by rw [leB_length]; decide)) rfl rfl (by exact (And.intro ⟨_, rfl, rfl⟩ trivial)) (by exact (all_cons_true (all_cons_true rfl (all_cons_true rfl rfl)) rfl)) rfl rfl rfl rfl (by exact (.box rfl rfl (.box rfl rfl (.box rfl rfl .nil)))) .plain <| kas rfl <| RunK.nil <| LWP.ret ?_)
  exact ⟨[(1000001, 501), (1000002, 502)], ⟨[_], ⟨rfl, trivial⟩, rfl⟩, (by repeat' (first | exact trivial | refine And.intro ⟨_, rfl, ?_⟩ ?_ | refine And.intro ⟨_, rfl⟩ ?_ | rfl | exact Box.ren_bytes _ _ _ _ | exact Box.ren_vals _ _ _ _ | exact Box.ren_mid rfl)), rfl, rfl⟩
theorem WNum_1_4 (l : List UInt8) (n : Nat) (hn : n < 18446744073709551616) (h : n < 256 ^ 4) (hl : l.length < 900000000) : MSpec Tryz.prog X 24 [Lp 1000000, Ln .i64 4, Ln .u64 (n : Nat)] (w1 1000000 1000001 1000002 l) (Lb true) (w1 1000000 1000001 1000003 (l ++ leB 4 n) ++ [(1000002, none)]) := by
  refine MSpec.intro Tryz.func24 rfl (by kernel_rfl) rfl rfl (by repeat' (first | refine all_cons_true ?_ ?_ | rfl | exact bytes_inUse | exact vals_inUse | exact mid_inUse rfl)) rfl rfl ?_
  intro C
  have hz : ((n / 256 ^ 4 : Nat) : Int) = 0 := by rw [Nat.div_eq_of_lt h]; rfl
  have hs := (shr_4 n).trans hz
  (refine LWP.seq <| LWP.region (by kernel_rfl) <| kas rfl <| RunK.nil <| LWP.seq <| LWP.seq <| LWP.region (by kernel_rfl) <| kmv rfl <| kca rfl rfl (isWidth_spec X _ true rfl) <| K.not rfl rfl .plain <| kmv rfl <| gmv rfl rfl rfl <| gmv rfl rfl rfl <| K.mul rfl rfl (c := ((8 * 4 : Nat) : Int)) rfl (.taken rfl rfl) ?_; refine K.shr rfl rfl (by decide) hs (.taken rfl rfl) ?_; refine K.neq rfl rfl ((bne_eq_false_iff_eq.2 (by omega))) (.taken rfl rfl) ?_; refine kpf rfl rfl <| RunK.nil <| LWP.condF rfl ?_; refine LWP.skip ?_; refine LWP.seq <| LWP.region (by kernel_rfl) <| kmv rfl <| kmv rfl <| kmv rfl <| kca rfl rfl (low_4 X n hn) <| K.callM [(1000003, 503)] (w1 1000000 1000001 503 (l ++ leB 4 n) ++ [(1000002, none)]) (WRaw_1 X l _ (by rw [leB_length]; omega)) rfl rfl (by exact (And.intro ⟨_, rfl, rfl⟩ (And.intro ⟨_, rfl, rfl⟩ (And.intro ⟨_, rfl, (Box.ren_bytes _ _ _ _)⟩ trivial)))) (by exact (all_cons_true (all_cons_true rfl (all_cons_true rfl rfl)) (all_cons_true (all_cons_true rfl rfl) (all_cons_true bytes_inUse rfl)))) rfl rfl rfl rfl (by exact (.box rfl rfl (.box rfl rfl (.box rfl (Box.ren_bytes _ _ _ _) (.dead rfl .nil))))) .plain <| kas rfl <| RunK.nil <| LWP.ret ?_)
  exact ⟨[(1000003, 503)], ⟨[_], ⟨rfl, trivial⟩, rfl⟩, (by repeat' (first | exact trivial | refine And.intro ⟨_, rfl, ?_⟩ ?_ | refine And.intro ⟨_, rfl⟩ ?_ | rfl | exact Box.ren_bytes _ _ _ _ | exact Box.ren_vals _ _ _ _ | exact Box.ren_mid rfl)), rfl, rfl⟩
theorem shr_8 (n : Nat) : ((n : Nat) : Int).fdiv (2 ^ (min (((8 * 8 : Nat) : Int)).toNat IntKind.u64.bits)) = ((n / 256 ^ 8 : Nat) : Int) := by
  have ed : ((n : Nat) : Int) / 2 ^ (8 * 8) = ((n / 256 ^ 8 : Nat) : Int) := by rw [p256, Int.natCast_ediv, Int.natCast_pow]; rfl
  exact (shr_s (a := ((n : Nat) : Int)) (s := 8 * 8) (by omega)).trans ed
theorem WNum_0_8 (n : Nat) (hn : n < 18446744073709551616) (h : n < 256 ^ 8) : MSpec Tryz.prog X 24 [Lp 1000000, Ln .i64 8, Ln .u64 (n : Nat)] (w0 1000000) (Lb true) (w1 1000000 1000001 1000002 (leB 8 n)) := by
  refine MSpec.intro Tryz.func24 rfl (by kernel_rfl) rfl rfl (by repeat' (first | refine all_cons_true ?_ ?_ | rfl | exact bytes_inUse | exact vals_inUse | exact mid_inUse rfl)) rfl rfl ?_
  intro C
  have hz : ((n / 256 ^ 8 : Nat) : Int) = 0 := by rw [Nat.div_eq_of_lt h]; rfl
  have hs := (shr_8 n).trans hz
  (refine LWP.seq <| LWP.region (by kernel_rfl) <| kas rfl <| RunK.nil <| LWP.seq <| LWP.seq <| LWP.region (by kernel_rfl) <| kmv rfl <| kca rfl rfl (isWidth_spec X _ true rfl) <| K.not rfl rfl .plain <| kmv rfl <| gmv rfl rfl rfl <| gmv rfl rfl rfl <| K.mul rfl rfl (c := ((8 * 8 : Nat) : Int)) rfl (.taken rfl rfl) ?_; refine K.shr rfl rfl (by decide) hs (.taken rfl rfl) ?_; refine K.neq rfl rfl ((bne_eq_false_iff_eq.2 (by omega))) (.taken rfl rfl) ?_; refine kpf rfl rfl <| RunK.nil <| LWP.condF rfl ?_; refine LWP.skip ?_; refine LWP.seq <| LWP.region (by kernel_rfl) <| kmv rfl <| kmv rfl <| kmv rfl <| kca rfl rfl (low_8 X n hn) <| K.callM [(1000001, 501), (1000002, 502)] (w1 1000000 501 502 (leB 8 n)) (WRaw_0 X _ (by rw [leB_length]; decide)) rfl rfl (by exact (And.intro ⟨_, rfl, rfl⟩ trivial)) (by exact (all_cons_true (all_cons_true rfl (all_cons_true rfl rfl)) rfl)) rfl rfl rfl rfl (by exact (.box rfl rfl (.box rfl rfl (.box rfl rfl .nil)))) .plain <| kas rfl <| RunK.nil <| LWP.ret ?_)
  exact ⟨[(1000001, 501), (1000002, 502)], ⟨[_], ⟨rfl, trivial⟩, rfl⟩, (by repeat' (first | exact trivial | refine And.intro ⟨_, rfl, ?_⟩ ?_ | refine And.intro ⟨_, rfl⟩ ?_ | rfl | exact Box.ren_bytes _ _ _ _ | exact Box.ren_vals _ _ _ _ | exact Box.ren_mid rfl)), rfl, rfl⟩
end Go.Proofs.YtnomcmklhbjfjaaGreatDoor
end
section
namespace Go.Proofs.YtnomcmklhbjfjaaGreatDoor
open Go Go.Lg
variable (X : Nat → Option Obj)
theorem rlen (l : List UInt8) : (⟨l.toArray⟩ : ByteArray).size = l.length := rfl
theorem Left_spec (l : List UInt8) (b : Bool) : MSpec Tryz.prog X 72 [Lp 1000000] (rd 1000000 l b) (Ln .i64 (if b = true then 0 else (l.length : Nat))) (rd 1000000 l b) := by
  refine MSpec.intro Tryz.func72 rfl (by kernel_rfl) rfl rfl rfl rfl rfl ?_
  intro C
  cases b with
  | false =>
    (refine LWP.seq <| LWP.region (by kernel_rfl) <| kas rfl <| RunK.nil <| LWP.seq <| LWP.seq <| LWP.region (by kernel_rfl) <| kmv rfl <| K.callM [] (rd 1000000 l false) (Bad_spec X l false) rfl rfl (by exact (And.intro ⟨_, rfl, rfl⟩ trivial)) (by exact (all_cons_true (all_cons_true rfl (all_cons_true rfl rfl)) rfl)) rfl rfl rfl rfl (by exact (.box rfl rfl .nil)) .plain <| RunK.nil <| LWP.condF rfl ?_; refine LWP.skip ?_; refine LWP.seq <| LWP.region (by kernel_rfl) <| kmv rfl <| K.nilCheck rfl .plain <| kfa rfl rfl ?_; refine kl1 rfl rfl rfl <| kln rfl <| kas rfl <| RunK.nil <| LWP.ret ?_)
    exact ⟨[], ⟨[_], ⟨rfl, trivial⟩, rfl⟩, ⟨⟨_, rfl, rfl⟩, trivial⟩, rfl, rfl⟩
  | true =>
    (refine LWP.seq <| LWP.region (by kernel_rfl) <| kas rfl <| RunK.nil <| LWP.seq <| LWP.seq <| LWP.region (by kernel_rfl) <| kmv rfl <| K.callM [] (rd 1000000 l true) (Bad_spec X l true) rfl rfl (by exact (And.intro ⟨_, rfl, rfl⟩ trivial)) (by exact (all_cons_true (all_cons_true rfl (all_cons_true rfl rfl)) rfl)) rfl rfl rfl rfl (by exact (.box rfl rfl .nil)) .plain <| RunK.nil <| LWP.condT rfl ?_; refine LWP.seq <| LWP.region (by kernel_rfl) <| kas rfl <| RunK.nil <| LWP.ret ?_)
    exact ⟨[], ⟨[_], ⟨rfl, trivial⟩, rfl⟩, ⟨⟨_, rfl, rfl⟩, trivial⟩, rfl, rfl⟩
theorem Done_spec (l : List UInt8) (b : Bool) (e : Bool) (he : (l == []) = e) : MSpec Tryz.prog X 33 [Lp 1000000] (rd 1000000 l b) (Lb (!b && e)) (rd 1000000 l b) := by
  refine MSpec.intro Tryz.func33 rfl (by kernel_rfl) rfl rfl rfl rfl rfl ?_
  intro C
  cases b with
  | false =>
    (refine LWP.seq <| LWP.region (by kernel_rfl) <| kas rfl <| RunK.nil <| LWP.seq <| LWP.region (by kernel_rfl) <| kmv rfl <| K.callM [] (rd 1000000 l false) (Bad_spec X l false) rfl rfl (by exact (And.intro ⟨_, rfl, rfl⟩ trivial)) (by exact (all_cons_true (all_cons_true rfl (all_cons_true rfl rfl)) rfl)) rfl rfl rfl rfl (by exact (.box rfl rfl .nil)) .plain <| K.not rfl rfl .plain <| kmv rfl <| gmv rfl rfl rfl <| K.nilCheck rfl (.taken rfl rfl) ?_; refine K.fieldAddr rfl rfl (.taken rfl rfl) ?_; refine K.loadOne rfl rfl rfl (.taken rfl rfl) ?_; refine K.strEq rfl rfl (strs_eq he) (.taken rfl rfl) ?_; refine kpt rfl rfl <| kas rfl <| RunK.nil <| LWP.ret ?_)
    exact ⟨[], ⟨[_], ⟨rfl, trivial⟩, rfl⟩, ⟨⟨_, rfl, rfl⟩, trivial⟩, rfl, rfl⟩
  | true =>
    (refine LWP.seq <| LWP.region (by kernel_rfl) <| kas rfl <| RunK.nil <| LWP.seq <| LWP.region (by kernel_rfl) <| kmv rfl <| K.callM [] (rd 1000000 l true) (Bad_spec X l true) rfl rfl (by exact (And.intro ⟨_, rfl, rfl⟩ trivial)) (by exact (all_cons_true (all_cons_true rfl (all_cons_true rfl rfl)) rfl)) rfl rfl rfl rfl (by exact (.box rfl rfl .nil)) .plain <| K.not rfl rfl .plain <| kmv rfl <| RunK.passed rfl rfl rfl <| RunK.passed rfl rfl rfl <| RunK.passed rfl rfl rfl <| RunK.passed rfl rfl rfl ?_; refine RunK.passed rfl rfl rfl <| kpf rfl rfl <| kas rfl <| RunK.nil <| LWP.ret ?_)
    exact ⟨[], ⟨[_], ⟨rfl, trivial⟩, rfl⟩, ⟨⟨_, rfl, rfl⟩, trivial⟩, rfl, rfl⟩
def rawOk (l : List UInt8) (b : Bool) (n : Int) : Bool := !b && decide (0 ≤ n ∧ n ≤ l.length)
theorem Raw_ok (l : List UInt8) (n : Nat) (hn : n ≤ l.length) (hl : l.length < 4611686018427387904) : MSpec Tryz.prog X 56 [Lp 1000000, Ln .i64 (n : Nat)] (rd 1000000 l false) (Ls (l.take n)) (rd 1000000 (l.drop n) false) := by
  refine MSpec.intro Tryz.func56 rfl (by kernel_rfl) rfl rfl rfl rfl rfl ?_
  intro C
  have hz := rlen l
  have c1 : (⟨l.toArray⟩ : ByteArray).extract 0 n = ⟨(l.take n).toArray⟩ := by rw [str_cut, List.drop_zero, Nat.sub_zero]
  have c2 : (⟨l.toArray⟩ : ByteArray).extract n (⟨l.toArray⟩ : ByteArray).size = ⟨(l.drop n).toArray⟩ := by
    rw [str_cut, hz, List.take_of_length_le (by rw [List.length_drop]; exact Nat.le_refl _)]
  have hL := Left_spec X l false
  rw [if_neg (by simp)] at hL
  (refine LWP.seq <| LWP.region (by kernel_rfl) <| kas rfl <| RunK.nil <| LWP.seq <| LWP.seq <| LWP.region (by kernel_rfl) <| kmv rfl <| klt rfl rfl (decide_eq_false (by omega)) <| kmv rfl <| gmv rfl rfl rfl <| gmv rfl rfl rfl <| K.callM [] (rd 1000000 l false) (hL) rfl rfl (by exact (And.intro ⟨_, rfl, rfl⟩ trivial)) (by exact (all_cons_true (all_cons_true rfl (all_cons_true rfl rfl)) rfl)) rfl rfl rfl rfl (by exact (.box rfl rfl .nil)) (.taken rfl rfl) ?_; refine K.gtr rfl rfl (decide_eq_false (by omega)) (.taken rfl rfl) ?_; refine kpf rfl rfl <| RunK.nil <| LWP.condF rfl ?_; refine LWP.skip ?_; refine LWP.seq <| LWP.seq <| LWP.region (by kernel_rfl) <| kmv rfl <| K.callM [] (rd 1000000 l false) (Bad_spec X l false) rfl rfl (by exact (And.intro ⟨_, rfl, rfl⟩ trivial)) (by exact (all_cons_true (all_cons_true rfl (all_cons_true rfl rfl)) rfl)) rfl rfl rfl rfl (by exact (.box rfl rfl .nil)) .plain <| RunK.nil <| LWP.condF rfl ?_; refine LWP.skip ?_; refine LWP.seq <| LWP.region (by kernel_rfl) <| kmv rfl <| K.nilCheck rfl .plain <| kfa rfl rfl ?_; refine kl1 rfl rfl rfl <| kmv rfl <| K.sliceStr (l := 0) (h := n) (kl := .i64) (kh := .i64) rfl StrT.u rfl rfl ⟨(by omega), (by omega)⟩ c1 .plain <| kas rfl <| RunK.nil <| LWP.seq <| LWP.region (by kernel_rfl) <| kmv rfl <| kmv rfl <| K.nilCheck rfl .plain <| kfa rfl rfl ?_; refine kl1 rfl rfl rfl <| kmv rfl <| K.sliceStr (l := n) (h := (⟨l.toArray⟩ : ByteArray).size) (kl := .i64) (kh := .i64) rfl StrT.u rfl rfl ⟨(by omega), (by omega)⟩ c2 .plain <| K.nilCheck rfl .plain <| kfa rfl rfl ?_; refine K.storeOne rfl rfl rfl rfl rfl (nl2 rfl rfl rfl) .plain <| RunK.nil <| LWP.seq <| LWP.region (by kernel_rfl) <| kmv rfl <| kas rfl <| RunK.nil <| LWP.ret ?_)
  exact ⟨[], ⟨[_], ⟨rfl, trivial⟩, rfl⟩, ⟨⟨_, rfl, rfl⟩, trivial⟩, rfl, rfl⟩
theorem Raw_no (l : List UInt8) (b : Bool) (n : Int) (h : rawOk l b n = false) : MSpec Tryz.prog X 56 [Lp 1000000, Ln .i64 n] (rd 1000000 l b) (Ls []) (rd 1000000 l true) := by
  refine MSpec.intro Tryz.func56 rfl (by kernel_rfl) rfl rfl rfl rfl rfl ?_
  intro C
  have hL := Left_spec X l b
  by_cases h0 : n < 0
  · (refine LWP.seq <| LWP.region (by kernel_rfl) <| kas rfl <| RunK.nil <| LWP.seq <| LWP.seq <| LWP.region (by kernel_rfl) <| kmv rfl <| klt rfl rfl (decide_eq_true (by omega)) <| kmv rfl <| RunK.passed rfl rfl rfl <| RunK.passed rfl rfl rfl <| RunK.passed rfl rfl rfl <| RunK.passed rfl rfl rfl ?_; refine kpt rfl rfl <| RunK.nil <| LWP.condT rfl ?_; refine LWP.region (by kernel_rfl) <| kmv rfl <| K.callM [] (rd 1000000 l true) (spoil_spec X l b) rfl rfl (by exact (And.intro ⟨_, rfl, rfl⟩ trivial)) (by exact (all_cons_true (all_cons_true rfl (all_cons_true rfl rfl)) rfl)) rfl rfl rfl rfl (by exact (.box rfl rfl .nil)) .plain <| RunK.nil <| LWP.seq <| LWP.seq <| LWP.region (by kernel_rfl) <| kmv rfl <| K.callM [] (rd 1000000 l true) (Bad_spec X l true) rfl rfl (by exact (And.intro ⟨_, rfl, rfl⟩ trivial)) (by exact (all_cons_true (all_cons_true rfl (all_cons_true rfl rfl)) rfl)) rfl rfl rfl rfl (by exact (.box rfl rfl .nil)) .plain <| RunK.nil <| LWP.condT rfl ?_; refine LWP.seq <| LWP.region (by kernel_rfl) <| kas rfl <| RunK.nil <| LWP.ret ?_)
    exact ⟨[], ⟨[_], ⟨rfl, trivial⟩, rfl⟩, ⟨⟨_, rfl, rfl⟩, trivial⟩, rfl, rfl⟩
  · cases b with
    | false =>
      rw [if_neg (by simp)] at hL
      have hgt : (l.length : Int) < n := by
        have : ¬ (0 ≤ n ∧ n ≤ l.length) := by simpa [rawOk] using h
        omega
      (refine LWP.seq <| LWP.region (by kernel_rfl) <| kas rfl <| RunK.nil <| LWP.seq <| LWP.seq <| LWP.region (by kernel_rfl) <| kmv rfl <| klt rfl rfl (decide_eq_false (by omega)) <| kmv rfl <| gmv rfl rfl rfl <| gmv rfl rfl rfl <| K.callM [] (rd 1000000 l false) (hL) rfl rfl (by exact (And.intro ⟨_, rfl, rfl⟩ trivial)) (by exact (all_cons_true (all_cons_true rfl (all_cons_true rfl rfl)) rfl)) rfl rfl rfl rfl (by exact (.box rfl rfl .nil)) (.taken rfl rfl) ?_; refine K.gtr rfl rfl (decide_eq_true (by omega)) (.taken rfl rfl) ?_; refine kpf rfl rfl <| RunK.nil <| LWP.condT rfl ?_; refine LWP.region (by kernel_rfl) <| kmv rfl <| K.callM [] (rd 1000000 l true) (spoil_spec X l false) rfl rfl (by exact (And.intro ⟨_, rfl, rfl⟩ trivial)) (by exact (all_cons_true (all_cons_true rfl (all_cons_true rfl rfl)) rfl)) rfl rfl rfl rfl (by exact (.box rfl rfl .nil)) .plain <| RunK.nil <| LWP.seq <| LWP.seq <| LWP.region (by kernel_rfl) <| kmv rfl <| K.callM [] (rd 1000000 l true) (Bad_spec X l true) rfl rfl (by exact (And.intro ⟨_, rfl, rfl⟩ trivial)) (by exact (all_cons_true (all_cons_true rfl (all_cons_true rfl rfl)) rfl)) rfl rfl rfl rfl (by exact (.box rfl rfl .nil)) .plain <| RunK.nil <| LWP.condT rfl ?_; refine LWP.seq <| LWP.region (by kernel_rfl) <| kas rfl <| RunK.nil <| LWP.ret ?_)
      exact ⟨[], ⟨[_], ⟨rfl, trivial⟩, rfl⟩, ⟨⟨_, rfl, rfl⟩, trivial⟩, rfl, rfl⟩
    | true =>
      rw [if_pos rfl] at hL
      by_cases hp : 0 < n
      · (refine LWP.seq <| LWP.region (by kernel_rfl) <| kas rfl <| RunK.nil <| LWP.seq <| LWP.seq <| LWP.region (by kernel_rfl) <| kmv rfl <| klt rfl rfl (decide_eq_false (by omega)) <| kmv rfl <| gmv rfl rfl rfl <| gmv rfl rfl rfl <| K.callM [] (rd 1000000 l true) (hL) rfl rfl (by exact (And.intro ⟨_, rfl, rfl⟩ trivial)) (by exact (all_cons_true (all_cons_true rfl (all_cons_true rfl rfl)) rfl)) rfl rfl rfl rfl (by exact (.box rfl rfl .nil)) (.taken rfl rfl) ?_; refine K.gtr rfl rfl (decide_eq_true (by omega)) (.taken rfl rfl) ?_; refine kpf rfl rfl <| RunK.nil <| LWP.condT rfl ?_; refine LWP.region (by kernel_rfl) <| kmv rfl <| K.callM [] (rd 1000000 l true) (spoil_spec X l true) rfl rfl (by exact (And.intro ⟨_, rfl, rfl⟩ trivial)) (by exact (all_cons_true (all_cons_true rfl (all_cons_true rfl rfl)) rfl)) rfl rfl rfl rfl (by exact (.box rfl rfl .nil)) .plain <| RunK.nil <| LWP.seq <| LWP.seq <| LWP.region (by kernel_rfl) <| kmv rfl <| K.callM [] (rd 1000000 l true) (Bad_spec X l true) rfl rfl (by exact (And.intro ⟨_, rfl, rfl⟩ trivial)) (by exact (all_cons_true (all_cons_true rfl (all_cons_true rfl rfl)) rfl)) rfl rfl rfl rfl (by exact (.box rfl rfl .nil)) .plain <| RunK.nil <| LWP.condT rfl ?_; refine LWP.seq <| LWP.region (by kernel_rfl) <| kas rfl <| RunK.nil <| LWP.ret ?_)
        exact ⟨[], ⟨[_], ⟨rfl, trivial⟩, rfl⟩, ⟨⟨_, rfl, rfl⟩, trivial⟩, rfl, rfl⟩
      · (refine LWP.seq <| LWP.region (by kernel_rfl) <| kas rfl <| RunK.nil <| LWP.seq <| LWP.seq <| LWP.region (by kernel_rfl) <| kmv rfl <| klt rfl rfl (decide_eq_false (by omega)) <| kmv rfl <| gmv rfl rfl rfl <| gmv rfl rfl rfl <| K.callM [] (rd 1000000 l true) (hL) rfl rfl (by exact (And.intro ⟨_, rfl, rfl⟩ trivial)) (by exact (all_cons_true (all_cons_true rfl (all_cons_true rfl rfl)) rfl)) rfl rfl rfl rfl (by exact (.box rfl rfl .nil)) (.taken rfl rfl) ?_; refine K.gtr rfl rfl (decide_eq_false (by omega)) (.taken rfl rfl) ?_; refine kpf rfl rfl <| RunK.nil <| LWP.condF rfl ?_; refine LWP.skip ?_; refine LWP.seq <| LWP.seq <| LWP.region (by kernel_rfl) <| kmv rfl <| K.callM [] (rd 1000000 l true) (Bad_spec X l true) rfl rfl (by exact (And.intro ⟨_, rfl, rfl⟩ trivial)) (by exact (all_cons_true (all_cons_true rfl (all_cons_true rfl rfl)) rfl)) rfl rfl rfl rfl (by exact (.box rfl rfl .nil)) .plain <| RunK.nil <| LWP.condT rfl ?_; refine LWP.seq <| LWP.region (by kernel_rfl) <| kas rfl <| RunK.nil <| LWP.ret ?_)
        exact ⟨[], ⟨[_], ⟨rfl, trivial⟩, rfl⟩, ⟨⟨_, rfl, rfl⟩, trivial⟩, rfl, rfl⟩
end Go.Proofs.YtnomcmklhbjfjaaGreatDoor
end
section
namespace Go.Proofs.YtnomcmklhbjfjaaGreatDoor
open Go Go.Lg
variable (X : Nat → Option Obj)
theorem isW_bound {n : Int} (h : isW n = true) : 1 ≤ n ∧ n ≤ 8 := by
  unfold isW at h
  simp only [Bool.or_eq_true, decide_eq_true_eq] at h
  omega
theorem Num_ok (l : List UInt8) (w : Nat) (hw : isW (w : Int) = true) (hn : w ≤ l.length) (hl : l.length < 4611686018427387904) : MSpec Tryz.prog X 31 [Lp 1000000, Ln .i64 (w : Nat)] (rd 1000000 l false) (Ln .u64 (le (l.take w) : Nat)) (rd 1000000 (l.drop w) false) := by
  have hb := isW_bound hw
  refine MSpec.intro Tryz.func31 rfl (by kernel_rfl) rfl rfl rfl rfl rfl ?_
  intro C
  (refine LWP.seq <| LWP.region (by kernel_rfl) <| kas rfl <| RunK.nil <| LWP.seq <| LWP.seq <| LWP.region (by kernel_rfl) <| kmv rfl <| kca rfl rfl (isWidth_spec X _ true hw) <| K.not rfl rfl .plain <| RunK.nil <| LWP.condF rfl ?_; refine LWP.skip ?_; refine LWP.seq <| LWP.region (by kernel_rfl) <| kmv rfl <| kmv rfl <| K.callM [] (rd 1000000 (l.drop w) false) (Raw_ok X l w hn hl) rfl rfl (by exact (And.intro ⟨_, rfl, rfl⟩ trivial)) (by exact (all_cons_true (all_cons_true rfl (all_cons_true rfl rfl)) rfl)) rfl rfl rfl rfl (by exact (.box rfl rfl .nil)) .plain <| kca rfl rfl (onumber_spec X _ (by rw [List.length_take]; omega)) <| kas rfl <| RunK.nil <| LWP.ret ?_)
  exact ⟨[], ⟨[_], ⟨rfl, trivial⟩, rfl⟩, ⟨⟨_, rfl, rfl⟩, trivial⟩, rfl, rfl⟩
theorem Num_no (l : List UInt8) (b : Bool) (w : Int) (h : (isW w && rawOk l b w) = false) : MSpec Tryz.prog X 31 [Lp 1000000, Ln .i64 w] (rd 1000000 l b) (Ln .u64 0) (rd 1000000 l true) := by
  refine MSpec.intro Tryz.func31 rfl (by kernel_rfl) rfl rfl rfl rfl rfl ?_
  intro C
  cases hw : isW w with
  | false =>
    (refine LWP.seq <| LWP.region (by kernel_rfl) <| kas rfl <| RunK.nil <| LWP.seq <| LWP.seq <| LWP.region (by kernel_rfl) <| kmv rfl <| kca rfl rfl (isWidth_spec X _ false hw) <| K.not rfl rfl .plain <| RunK.nil <| LWP.condT rfl ?_; refine LWP.seq <| LWP.region (by kernel_rfl) <| kmv rfl <| K.callM [] (rd 1000000 l true) (spoil_spec X l b) rfl rfl (by exact (And.intro ⟨_, rfl, rfl⟩ trivial)) (by exact (all_cons_true (all_cons_true rfl (all_cons_true rfl rfl)) rfl)) rfl rfl rfl rfl (by exact (.box rfl rfl .nil)) .plain <| RunK.nil <| LWP.seq <| LWP.region (by kernel_rfl) <| kas rfl <| RunK.nil <| LWP.ret ?_)
    exact ⟨[], ⟨[_], ⟨rfl, trivial⟩, rfl⟩, ⟨⟨_, rfl, rfl⟩, trivial⟩, rfl, rfl⟩
  | true =>
    have h2 : rawOk l b w = false := by rw [hw] at h; simpa using h
    (refine LWP.seq <| LWP.region (by kernel_rfl) <| kas rfl <| RunK.nil <| LWP.seq <| LWP.seq <| LWP.region (by kernel_rfl) <| kmv rfl <| kca rfl rfl (isWidth_spec X _ true hw) <| K.not rfl rfl .plain <| RunK.nil <| LWP.condF rfl ?_; refine LWP.skip ?_; refine LWP.seq <| LWP.region (by kernel_rfl) <| kmv rfl <| kmv rfl <| K.callM [] (rd 1000000 l true) (Raw_no X l b w h2) rfl rfl (by exact (And.intro ⟨_, rfl, rfl⟩ trivial)) (by exact (all_cons_true (all_cons_true rfl (all_cons_true rfl rfl)) rfl)) rfl rfl rfl rfl (by exact (.box rfl rfl .nil)) .plain <| kca rfl rfl (onumber_spec X [] (by decide)) <| kas rfl <| RunK.nil <| LWP.ret ?_)
    exact ⟨[], ⟨[_], ⟨rfl, trivial⟩, rfl⟩, ⟨⟨_, rfl, rfl⟩, trivial⟩, rfl, rfl⟩
theorem Name_ok (c : UInt8) (t : List UInt8) (hn : c.toNat ≤ t.length) (hl : (c :: t).length < 4611686018427387904) : MSpec Tryz.prog X 57 [Lp 1000000] (rd 1000000 (c :: t) false) (Ls (t.take c.toNat)) (rd 1000000 (t.drop c.toNat) false) := by
  have hc := c.toNat_lt
  have hl2 : t.length < 4611686018427387904 := by rw [List.length_cons] at hl; omega
  have h1 := Num_ok X (c :: t) 1 rfl (by simp) hl
  rw [show ((c :: t).take 1) = [c] from rfl, show ((c :: t).drop 1) = t from rfl, show le [c] = c.toNat by simp [le]] at h1
  refine MSpec.intro Tryz.func57 rfl (by kernel_rfl) rfl rfl rfl rfl rfl ?_
  intro C
  (refine LWP.seq <| LWP.region (by kernel_rfl) <| kas rfl <| RunK.nil <| LWP.seq <| LWP.region (by kernel_rfl) <| kmv rfl <| kmv rfl <| K.callM [] (rd 1000000 t false) (h1) rfl rfl (by exact (And.intro ⟨_, rfl, rfl⟩ trivial)) (by exact (all_cons_true (all_cons_true rfl (all_cons_true rfl rfl)) rfl)) rfl rfl rfl rfl (by exact (.box rfl rfl .nil)) .plain <| kcv rfl (by exact wrap_i64 (by omega)) ?_; refine K.callM [] (rd 1000000 (t.drop c.toNat) false) (Raw_ok X t c.toNat hn hl2) rfl rfl (by exact (And.intro ⟨_, rfl, rfl⟩ trivial)) (by exact (all_cons_true (all_cons_true rfl (all_cons_true rfl rfl)) rfl)) rfl rfl rfl rfl (by exact (.box rfl rfl .nil)) .plain <| kas rfl <| RunK.nil <| LWP.ret ?_)
  exact ⟨[], ⟨[_], ⟨rfl, trivial⟩, rfl⟩, ⟨⟨_, rfl, rfl⟩, trivial⟩, rfl, rfl⟩
end Go.Proofs.YtnomcmklhbjfjaaGreatDoor
end
section
namespace Go.Lg.Fld
open Go Go.Lg
def kN (k : Int) : List UInt8 := if k = 1 then [98, 111, 111, 108] else if k = 2 then [105, 56] else if k = 3 then [105, 49, 54] else if k = 4 then [105, 51, 50] else if k = 5 then [105, 54, 52] else if k = 6 then [117, 56] else if k = 7 then [117, 49, 54] else if k = 8 then [117, 51, 50] else if k = 9 then [117, 54, 52] else if k = 10 then [114, 101, 102] else []
def kW (k : Int) : Nat := if k = 1 then 1 else if k = 2 then 1 else if k = 3 then 2 else if k = 4 then 4 else if k = 5 then 8 else if k = 6 then 1 else if k = 7 then 2 else if k = 8 then 4 else if k = 9 then 8 else if k = 10 then 8 else 0
def kB (k : Int) : Int := if k = 1 then 0 else if k = 2 then 128 else if k = 3 then 32768 else if k = 4 then 2147483648 else if k = 5 then 9223372036854775808 else if k = 6 then 0 else if k = 7 then 0 else if k = 8 then 0 else if k = 9 then 0 else if k = 10 then 0 else 0
def kA (k : Int) : Int := if k = 1 then 1 else if k = 2 then 127 else if k = 3 then 32767 else if k = 4 then 2147483647 else if k = 5 then 9223372036854775807 else if k = 6 then 255 else if k = 7 then 65535 else if k = 8 then 4294967295 else if k = 9 then 18446744073709551615 else if k = 10 then 18446744073709551615 else 0
def kK (k : Int) : Bool := decide (1 ≤ k) && decide (k ≤ 10)
theorem kcases (k : Int) : k = 1 ∨ k = 2 ∨ k = 3 ∨ k = 4 ∨ k = 5 ∨ k = 6 ∨ k = 7 ∨ k = 8 ∨ k = 9 ∨ k = 10 ∨ (k < 1 ∨ 10 < k) := by omega
theorem kin {k : Int} (h : kK k = true) : k = 1 ∨ k = 2 ∨ k = 3 ∨ k = 4 ∨ k = 5 ∨ k = 6 ∨ k = 7 ∨ k = 8 ∨ k = 9 ∨ k = 10 := by
  simp only [kK, Bool.and_eq_true, decide_eq_true_eq] at h; omega
theorem knot {k : Int} (h : kK k = false) : k < 1 ∨ 10 < k := by
  by_cases h1 : 1 ≤ k <;> by_cases h2 : k ≤ 10 <;> first | omega | (rw [kK, decide_eq_true h1, decide_eq_true h2] at h; cases h)
theorem kK_iff (k : Int) : kK k = true ↔ 1 ≤ k ∧ k ≤ 10 := by simp only [kK, Bool.and_eq_true, decide_eq_true_eq]
theorem kN_no {k : Int} (h : k < 1 ∨ 10 < k) : kN k = [] := by
  unfold kN
  rw [if_neg (show ¬ k = 1 by omega), if_neg (show ¬ k = 2 by omega), if_neg (show ¬ k = 3 by omega), if_neg (show ¬ k = 4 by omega), if_neg (show ¬ k = 5 by omega), if_neg (show ¬ k = 6 by omega), if_neg (show ¬ k = 7 by omega), if_neg (show ¬ k = 8 by omega), if_neg (show ¬ k = 9 by omega), if_neg (show ¬ k = 10 by omega)]
theorem kW_no {k : Int} (h : k < 1 ∨ 10 < k) : kW k = 0 := by
  unfold kW
  rw [if_neg (show ¬ k = 1 by omega), if_neg (show ¬ k = 2 by omega), if_neg (show ¬ k = 3 by omega), if_neg (show ¬ k = 4 by omega), if_neg (show ¬ k = 5 by omega), if_neg (show ¬ k = 6 by omega), if_neg (show ¬ k = 7 by omega), if_neg (show ¬ k = 8 by omega), if_neg (show ¬ k = 9 by omega), if_neg (show ¬ k = 10 by omega)]
theorem kB_no {k : Int} (h : k < 1 ∨ 10 < k) : kB k = 0 := by
  unfold kB
  rw [if_neg (show ¬ k = 1 by omega), if_neg (show ¬ k = 2 by omega), if_neg (show ¬ k = 3 by omega), if_neg (show ¬ k = 4 by omega), if_neg (show ¬ k = 5 by omega), if_neg (show ¬ k = 6 by omega), if_neg (show ¬ k = 7 by omega), if_neg (show ¬ k = 8 by omega), if_neg (show ¬ k = 9 by omega), if_neg (show ¬ k = 10 by omega)]
theorem kA_no {k : Int} (h : k < 1 ∨ 10 < k) : kA k = 0 := by
  unfold kA
  rw [if_neg (show ¬ k = 1 by omega), if_neg (show ¬ k = 2 by omega), if_neg (show ¬ k = 3 by omega), if_neg (show ¬ k = 4 by omega), if_neg (show ¬ k = 5 by omega), if_neg (show ¬ k = 6 by omega), if_neg (show ¬ k = 7 by omega), if_neg (show ¬ k = 8 by omega), if_neg (show ¬ k = 9 by omega), if_neg (show ¬ k = 10 by omega)]
theorem kfacts (k : Int) : 0 ≤ kB k ∧ kB k ≤ 9223372036854775808 ∧ 0 ≤ kA k ∧ kA k < 18446744073709551616 ∧ kW k ≤ 8 := by
  rcases kcases k with rfl | rfl | rfl | rfl | rfl | rfl | rfl | rfl | rfl | rfl | h
  all_goals first | (rw [kW_no h, kB_no h, kA_no h]; omega) | decide
theorem kW_in {k : Int} (h : kK k = true) : kW k = 1 ∨ kW k = 2 ∨ kW k = 4 ∨ kW k = 8 := by
  rcases kin h with rfl | rfl | rfl | rfl | rfl | rfl | rfl | rfl | rfl | rfl <;> decide
theorem kW_zero (k : Int) : kW k = 0 ↔ kK k = false := by
  cases h : kK k with
  | false => simp [kW_no (knot h)]
  | true => rcases kW_in h with e | e | e | e <;> simp [e]
end Go.Lg.Fld
namespace Go.Proofs.YtnomcmklhbjfjaaGreatDoor
open Go Go.Lg Go.Lg.Fld
set_option maxRecDepth 100000
variable (X : Nat → Option Obj)
theorem shapeOf_spec (k : Int) : PSpec Tryz.prog X 93 [Ln .i64 k] (.sv (.agg [.val (.string ⟨(kN k).toArray⟩), .val (.int .i64 (kW k : Nat)), .val (.int .u64 (kB k)), .val (.int .u64 (kA k))])) := by
  refine PSpec.intro Tryz.func93 rfl (by kernel_rfl) rfl rfl ?_
  intro C
  rcases kcases k with rfl | rfl | rfl | rfl | rfl | rfl | rfl | rfl | rfl | rfl | h
  · (refine LWP.seq <| LWP.region (by kernel_rfl) <| K.alloc rfl .plain ?_; refine RunK.nil <| LWP.seq <| LWP.seq <| LWP.region (by kernel_rfl) <| kmv rfl <| RunK.nil <| LWP.block <| LWP.seq <| LWP.region (by kernel_rfl) <| keq rfl rfl (beq_iff_eq.2 (by omega)) <| kas rfl <| RunK.nil <| LWP.condT rfl ?_; refine LWP.seq <| LWP.region (by kernel_rfl) <| K.build rfl rfl (by exact rfl) (by exact nl4 rfl rfl rfl rfl rfl) .plain ?_; refine K.storeAll rfl rfl rfl rfl rfl rfl .plain ?_; refine RunK.nil <| LWP.ret ?_)
    exact ⟨[_], ⟨⟨_, _, rfl, rfl, rfl, .inl ⟨AggT.h, rfl⟩⟩, trivial⟩, rfl⟩
  · (refine LWP.seq <| LWP.region (by kernel_rfl) <| K.alloc rfl .plain ?_; refine RunK.nil <| LWP.seq <| LWP.seq <| LWP.region (by kernel_rfl) <| kmv rfl <| RunK.nil <| LWP.block <| LWP.seq <| LWP.region (by kernel_rfl) <| keq rfl rfl (beq_eq_false_iff_ne.2 (by omega)) <| kas rfl <| RunK.nil <| LWP.condF rfl ?_; refine LWP.seq <| LWP.region (by kernel_rfl) <| keq rfl rfl (beq_iff_eq.2 (by omega)) <| kas rfl <| RunK.nil <| LWP.condT rfl ?_; refine LWP.seq <| LWP.region (by kernel_rfl) <| K.build rfl rfl (by exact rfl) (by exact nl4 rfl rfl rfl rfl rfl) .plain ?_; refine K.storeAll rfl rfl rfl rfl rfl rfl .plain ?_; refine RunK.nil <| LWP.ret ?_)
    exact ⟨[_], ⟨⟨_, _, rfl, rfl, rfl, .inl ⟨AggT.h, rfl⟩⟩, trivial⟩, rfl⟩
  · (refine LWP.seq <| LWP.region (by kernel_rfl) <| K.alloc rfl .plain ?_; refine RunK.nil <| LWP.seq <| LWP.seq <| LWP.region (by kernel_rfl) <| kmv rfl <| RunK.nil <| LWP.block <| LWP.seq <| LWP.region (by kernel_rfl) <| keq rfl rfl (beq_eq_false_iff_ne.2 (by omega)) <| kas rfl <| RunK.nil <| LWP.condF rfl ?_; refine LWP.seq <| LWP.region (by kernel_rfl) <| keq rfl rfl (beq_eq_false_iff_ne.2 (by omega)) <| kas rfl <| RunK.nil <| LWP.condF rfl ?_; refine LWP.seq <| LWP.region (by kernel_rfl) <| keq rfl rfl (beq_iff_eq.2 (by omega)) <| kas rfl <| RunK.nil <| LWP.condT rfl ?_; refine LWP.seq <| LWP.region (by kernel_rfl) <| K.build rfl rfl (by exact rfl) (by exact nl4 rfl rfl rfl rfl rfl) .plain ?_; refine K.storeAll rfl rfl rfl rfl rfl rfl .plain ?_; refine RunK.nil <| LWP.ret ?_)
    exact ⟨[_], ⟨⟨_, _, rfl, rfl, rfl, .inl ⟨AggT.h, rfl⟩⟩, trivial⟩, rfl⟩
  · (refine LWP.seq <| LWP.region (by kernel_rfl) <| K.alloc rfl .plain ?_; refine RunK.nil <| LWP.seq <| LWP.seq <| LWP.region (by kernel_rfl) <| kmv rfl <| RunK.nil <| LWP.block <| LWP.seq <| LWP.region (by kernel_rfl) <| keq rfl rfl (beq_eq_false_iff_ne.2 (by omega)) <| kas rfl <| RunK.nil <| LWP.condF rfl ?_; refine LWP.seq <| LWP.region (by kernel_rfl) <| keq rfl rfl (beq_eq_false_iff_ne.2 (by omega)) <| kas rfl <| RunK.nil <| LWP.condF rfl ?_; refine LWP.seq <| LWP.region (by kernel_rfl) <| keq rfl rfl (beq_eq_false_iff_ne.2 (by omega)) <| kas rfl <| RunK.nil <| LWP.condF rfl ?_; refine LWP.seq <| LWP.region (by kernel_rfl) <| keq rfl rfl (beq_iff_eq.2 (by omega)) <| kas rfl <| RunK.nil <| LWP.condT rfl ?_; refine LWP.seq <| LWP.region (by kernel_rfl) <| K.build rfl rfl (by exact rfl) (by exact nl4 rfl rfl rfl rfl rfl) .plain ?_; refine K.storeAll rfl rfl rfl rfl rfl rfl .plain ?_; refine RunK.nil <| LWP.ret ?_)
    exact ⟨[_], ⟨⟨_, _, rfl, rfl, rfl, .inl ⟨AggT.h, rfl⟩⟩, trivial⟩, rfl⟩
  · (refine LWP.seq <| LWP.region (by kernel_rfl) <| K.alloc rfl .plain ?_; refine RunK.nil <| LWP.seq <| LWP.seq <| LWP.region (by kernel_rfl) <| kmv rfl <| RunK.nil <| LWP.block <| LWP.seq <| LWP.region (by kernel_rfl) <| keq rfl rfl (beq_eq_false_iff_ne.2 (by omega)) <| kas rfl <| RunK.nil <| LWP.condF rfl ?_; refine LWP.seq <| LWP.region (by kernel_rfl) <| keq rfl rfl (beq_eq_false_iff_ne.2 (by omega)) <| kas rfl <| RunK.nil <| LWP.condF rfl ?_; refine LWP.seq <| LWP.region (by kernel_rfl) <| keq rfl rfl (beq_eq_false_iff_ne.2 (by omega)) <| kas rfl <| RunK.nil <| LWP.condF rfl ?_; refine LWP.seq <| LWP.region (by kernel_rfl) <| keq rfl rfl (beq_eq_false_iff_ne.2 (by omega)) <| kas rfl <| RunK.nil <| LWP.condF rfl ?_; refine LWP.seq <| LWP.region (by kernel_rfl) <| keq rfl rfl (beq_iff_eq.2 (by omega)) <| kas rfl <| RunK.nil <| LWP.condT rfl ?_; refine LWP.seq <| LWP.region (by kernel_rfl) <| K.build rfl rfl (by exact rfl) (by exact nl4 rfl rfl rfl rfl rfl) .plain ?_; refine K.storeAll rfl rfl rfl rfl rfl rfl .plain ?_; refine RunK.nil <| LWP.ret ?_)
    exact ⟨[_], ⟨⟨_, _, rfl, rfl, rfl, .inl ⟨AggT.h, rfl⟩⟩, trivial⟩, rfl⟩
  · (refine LWP.seq <| LWP.region (by kernel_rfl) <| K.alloc rfl .plain ?_; refine RunK.nil <| LWP.seq <| LWP.seq <| LWP.region (by kernel_rfl) <| kmv rfl <| RunK.nil <| LWP.block <| LWP.seq <| LWP.region (by kernel_rfl) <| keq rfl rfl (beq_eq_false_iff_ne.2 (by omega)) <| kas rfl <| RunK.nil <| LWP.condF rfl ?_; refine LWP.seq <| LWP.region (by kernel_rfl) <| keq rfl rfl (beq_eq_false_iff_ne.2 (by omega)) <| kas rfl <| RunK.nil <| LWP.condF rfl ?_; refine LWP.seq <| LWP.region (by kernel_rfl) <| keq rfl rfl (beq_eq_false_iff_ne.2 (by omega)) <| kas rfl <| RunK.nil <| LWP.condF rfl ?_; refine LWP.seq <| LWP.region (by kernel_rfl) <| keq rfl rfl (beq_eq_false_iff_ne.2 (by omega)) <| kas rfl <| RunK.nil <| LWP.condF rfl ?_; refine LWP.seq <| LWP.region (by kernel_rfl) <| keq rfl rfl (beq_eq_false_iff_ne.2 (by omega)) <| kas rfl <| RunK.nil <| LWP.condF rfl ?_; refine LWP.seq <| LWP.region (by kernel_rfl) <| keq rfl rfl (beq_iff_eq.2 (by omega)) <| kas rfl <| RunK.nil <| LWP.condT rfl ?_; refine LWP.seq <| LWP.region (by kernel_rfl) <| K.build rfl rfl (by exact rfl) (by exact nl4 rfl rfl rfl rfl rfl) .plain ?_; refine K.storeAll rfl rfl rfl rfl rfl rfl .plain ?_; refine RunK.nil <| LWP.ret ?_)
    exact ⟨[_], ⟨⟨_, _, rfl, rfl, rfl, .inl ⟨AggT.h, rfl⟩⟩, trivial⟩, rfl⟩
  · (refine LWP.seq <| LWP.region (by kernel_rfl) <| K.alloc rfl .plain ?_; refine RunK.nil <| LWP.seq <| LWP.seq <| LWP.region (by kernel_rfl) <| kmv rfl <| RunK.nil <| LWP.block <| LWP.seq <| LWP.region (by kernel_rfl) <| keq rfl rfl (beq_eq_false_iff_ne.2 (by omega)) <| kas rfl <| RunK.nil <| LWP.condF rfl ?_; refine LWP.seq <| LWP.region (by kernel_rfl) <| keq rfl rfl (beq_eq_false_iff_ne.2 (by omega)) <| kas rfl <| RunK.nil <| LWP.condF rfl ?_; refine LWP.seq <| LWP.region (by kernel_rfl) <| keq rfl rfl (beq_eq_false_iff_ne.2 (by omega)) <| kas rfl <| RunK.nil <| LWP.condF rfl ?_; refine LWP.seq <| LWP.region (by kernel_rfl) <| keq rfl rfl (beq_eq_false_iff_ne.2 (by omega)) <| kas rfl <| RunK.nil <| LWP.condF rfl ?_; refine LWP.seq <| LWP.region (by kernel_rfl) <| keq rfl rfl (beq_eq_false_iff_ne.2 (by omega)) <| kas rfl <| RunK.nil <| LWP.condF rfl ?_; refine LWP.seq <| LWP.region (by kernel_rfl) <| keq rfl rfl (beq_eq_false_iff_ne.2 (by omega)) <| kas rfl <| RunK.nil <| LWP.condF rfl ?_; refine LWP.seq <| LWP.region (by kernel_rfl) <| keq rfl rfl (beq_iff_eq.2 (by omega)) <| kas rfl <| RunK.nil <| LWP.condT rfl ?_; refine LWP.seq <| LWP.region (by kernel_rfl) <| K.build rfl rfl (by exact rfl) (by exact nl4 rfl rfl rfl rfl rfl) .plain ?_; refine K.storeAll rfl rfl rfl rfl rfl rfl .plain ?_; refine RunK.nil <| LWP.ret ?_)
    exact ⟨[_], ⟨⟨_, _, rfl, rfl, rfl, .inl ⟨AggT.h, rfl⟩⟩, trivial⟩, rfl⟩
  · (refine LWP.seq <| LWP.region (by kernel_rfl) <| K.alloc rfl .plain ?_; refine RunK.nil <| LWP.seq <| LWP.seq <| LWP.region (by kernel_rfl) <| kmv rfl <| RunK.nil <| LWP.block <| LWP.seq <| LWP.region (by kernel_rfl) <| keq rfl rfl (beq_eq_false_iff_ne.2 (by omega)) <| kas rfl <| RunK.nil <| LWP.condF rfl ?_; refine LWP.seq <| LWP.region (by kernel_rfl) <| keq rfl rfl (beq_eq_false_iff_ne.2 (by omega)) <| kas rfl <| RunK.nil <| LWP.condF rfl ?_; refine LWP.seq <| LWP.region (by kernel_rfl) <| keq rfl rfl (beq_eq_false_iff_ne.2 (by omega)) <| kas rfl <| RunK.nil <| LWP.condF rfl ?_; refine LWP.seq <| LWP.region (by kernel_rfl) <| keq rfl rfl (beq_eq_false_iff_ne.2 (by omega)) <| kas rfl <| RunK.nil <| LWP.condF rfl ?_; refine LWP.seq <| LWP.region (by kernel_rfl) <| keq rfl rfl (beq_eq_false_iff_ne.2 (by omega)) <| kas rfl <| RunK.nil <| LWP.condF rfl ?_; refine LWP.seq <| LWP.region (by kernel_rfl) <| keq rfl rfl (beq_eq_false_iff_ne.2 (by omega)) <| kas rfl <| RunK.nil <| LWP.condF rfl ?_; refine LWP.seq <| LWP.region (by kernel_rfl) <| keq rfl rfl (beq_eq_false_iff_ne.2 (by omega)) <| kas rfl <| RunK.nil <| LWP.condF rfl ?_; refine LWP.seq <| LWP.region (by kernel_rfl) <| keq rfl rfl (beq_iff_eq.2 (by omega)) <| kas rfl <| RunK.nil <| LWP.condT rfl ?_; refine LWP.seq <| LWP.region (by kernel_rfl) <| K.build rfl rfl (by exact rfl) (by exact nl4 rfl rfl rfl rfl rfl) .plain ?_; refine K.storeAll rfl rfl rfl rfl rfl rfl .plain ?_; refine RunK.nil <| LWP.ret ?_)
    exact ⟨[_], ⟨⟨_, _, rfl, rfl, rfl, .inl ⟨AggT.h, rfl⟩⟩, trivial⟩, rfl⟩
  · (refine LWP.seq <| LWP.region (by kernel_rfl) <| K.alloc rfl .plain ?_; refine RunK.nil <| LWP.seq <| LWP.seq <| LWP.region (by kernel_rfl) <| kmv rfl <| RunK.nil <| LWP.block <| LWP.seq <| LWP.region (by kernel_rfl) <| keq rfl rfl (beq_eq_false_iff_ne.2 (by omega)) <| kas rfl <| RunK.nil <| LWP.condF rfl ?_; refine LWP.seq <| LWP.region (by kernel_rfl) <| keq rfl rfl (beq_eq_false_iff_ne.2 (by omega)) <| kas rfl <| RunK.nil <| LWP.condF rfl ?_; refine LWP.seq <| LWP.region (by kernel_rfl) <| keq rfl rfl (beq_eq_false_iff_ne.2 (by omega)) <| kas rfl <| RunK.nil <| LWP.condF rfl ?_; refine LWP.seq <| LWP.region (by kernel_rfl) <| keq rfl rfl (beq_eq_false_iff_ne.2 (by omega)) <| kas rfl <| RunK.nil <| LWP.condF rfl ?_; refine LWP.seq <| LWP.region (by kernel_rfl) <| keq rfl rfl (beq_eq_false_iff_ne.2 (by omega)) <| kas rfl <| RunK.nil <| LWP.condF rfl ?_; refine LWP.seq <| LWP.region (by kernel_rfl) <| keq rfl rfl (beq_eq_false_iff_ne.2 (by omega)) <| kas rfl <| RunK.nil <| LWP.condF rfl ?_; refine LWP.seq <| LWP.region (by kernel_rfl) <| keq rfl rfl (beq_eq_false_iff_ne.2 (by omega)) <| kas rfl <| RunK.nil <| LWP.condF rfl ?_; refine LWP.seq <| LWP.region (by kernel_rfl) <| keq rfl rfl (beq_eq_false_iff_ne.2 (by omega)) <| kas rfl <| RunK.nil <| LWP.condF rfl ?_; refine LWP.seq <| LWP.region (by kernel_rfl) <| keq rfl rfl (beq_iff_eq.2 (by omega)) <| kas rfl <| RunK.nil <| LWP.condT rfl ?_; refine LWP.seq <| LWP.region (by kernel_rfl) <| K.build rfl rfl (by exact rfl) (by exact nl4 rfl rfl rfl rfl rfl) .plain ?_; refine K.storeAll rfl rfl rfl rfl rfl rfl .plain ?_; refine RunK.nil <| LWP.ret ?_)
    exact ⟨[_], ⟨⟨_, _, rfl, rfl, rfl, .inl ⟨AggT.h, rfl⟩⟩, trivial⟩, rfl⟩
  · (refine LWP.seq <| LWP.region (by kernel_rfl) <| K.alloc rfl .plain ?_; refine RunK.nil <| LWP.seq <| LWP.seq <| LWP.region (by kernel_rfl) <| kmv rfl <| RunK.nil <| LWP.block <| LWP.seq <| LWP.region (by kernel_rfl) <| keq rfl rfl (beq_eq_false_iff_ne.2 (by omega)) <| kas rfl <| RunK.nil <| LWP.condF rfl ?_; refine LWP.seq <| LWP.region (by kernel_rfl) <| keq rfl rfl (beq_eq_false_iff_ne.2 (by omega)) <| kas rfl <| RunK.nil <| LWP.condF rfl ?_; refine LWP.seq <| LWP.region (by kernel_rfl) <| keq rfl rfl (beq_eq_false_iff_ne.2 (by omega)) <| kas rfl <| RunK.nil <| LWP.condF rfl ?_; refine LWP.seq <| LWP.region (by kernel_rfl) <| keq rfl rfl (beq_eq_false_iff_ne.2 (by omega)) <| kas rfl <| RunK.nil <| LWP.condF rfl ?_; refine LWP.seq <| LWP.region (by kernel_rfl) <| keq rfl rfl (beq_eq_false_iff_ne.2 (by omega)) <| kas rfl <| RunK.nil <| LWP.condF rfl ?_; refine LWP.seq <| LWP.region (by kernel_rfl) <| keq rfl rfl (beq_eq_false_iff_ne.2 (by omega)) <| kas rfl <| RunK.nil <| LWP.condF rfl ?_; refine LWP.seq <| LWP.region (by kernel_rfl) <| keq rfl rfl (beq_eq_false_iff_ne.2 (by omega)) <| kas rfl <| RunK.nil <| LWP.condF rfl ?_; refine LWP.seq <| LWP.region (by kernel_rfl) <| keq rfl rfl (beq_eq_false_iff_ne.2 (by omega)) <| kas rfl <| RunK.nil <| LWP.condF rfl ?_; refine LWP.seq <| LWP.region (by kernel_rfl) <| keq rfl rfl (beq_eq_false_iff_ne.2 (by omega)) <| kas rfl <| RunK.nil <| LWP.condF rfl ?_; refine LWP.seq <| LWP.region (by kernel_rfl) <| keq rfl rfl (beq_iff_eq.2 (by omega)) <| kas rfl <| RunK.nil <| LWP.condT rfl ?_; refine LWP.seq <| LWP.region (by kernel_rfl) <| K.build rfl rfl (by exact rfl) (by exact nl4 rfl rfl rfl rfl rfl) .plain ?_; refine K.storeAll rfl rfl rfl rfl rfl rfl .plain ?_; refine RunK.nil <| LWP.ret ?_)
    exact ⟨[_], ⟨⟨_, _, rfl, rfl, rfl, .inl ⟨AggT.h, rfl⟩⟩, trivial⟩, rfl⟩
  · rw [kN_no h, kW_no h, kB_no h, kA_no h]
    (refine LWP.seq <| LWP.region (by kernel_rfl) <| K.alloc rfl .plain ?_; refine RunK.nil <| LWP.seq <| LWP.seq <| LWP.region (by kernel_rfl) <| kmv rfl <| RunK.nil <| LWP.block <| LWP.seq <| LWP.region (by kernel_rfl) <| keq rfl rfl (beq_eq_false_iff_ne.2 (by omega)) <| kas rfl <| RunK.nil <| LWP.condF rfl ?_; refine LWP.seq <| LWP.region (by kernel_rfl) <| keq rfl rfl (beq_eq_false_iff_ne.2 (by omega)) <| kas rfl <| RunK.nil <| LWP.condF rfl ?_; refine LWP.seq <| LWP.region (by kernel_rfl) <| keq rfl rfl (beq_eq_false_iff_ne.2 (by omega)) <| kas rfl <| RunK.nil <| LWP.condF rfl ?_; refine LWP.seq <| LWP.region (by kernel_rfl) <| keq rfl rfl (beq_eq_false_iff_ne.2 (by omega)) <| kas rfl <| RunK.nil <| LWP.condF rfl ?_; refine LWP.seq <| LWP.region (by kernel_rfl) <| keq rfl rfl (beq_eq_false_iff_ne.2 (by omega)) <| kas rfl <| RunK.nil <| LWP.condF rfl ?_; refine LWP.seq <| LWP.region (by kernel_rfl) <| keq rfl rfl (beq_eq_false_iff_ne.2 (by omega)) <| kas rfl <| RunK.nil <| LWP.condF rfl ?_; refine LWP.seq <| LWP.region (by kernel_rfl) <| keq rfl rfl (beq_eq_false_iff_ne.2 (by omega)) <| kas rfl <| RunK.nil <| LWP.condF rfl ?_; refine LWP.seq <| LWP.region (by kernel_rfl) <| keq rfl rfl (beq_eq_false_iff_ne.2 (by omega)) <| kas rfl <| RunK.nil <| LWP.condF rfl ?_; refine LWP.seq <| LWP.region (by kernel_rfl) <| keq rfl rfl (beq_eq_false_iff_ne.2 (by omega)) <| kas rfl <| RunK.nil <| LWP.condF rfl ?_; refine LWP.seq <| LWP.region (by kernel_rfl) <| keq rfl rfl (beq_eq_false_iff_ne.2 (by omega)) <| kas rfl <| RunK.nil <| LWP.condF rfl ?_; refine LWP.skip ?_; refine LWP.seq <| LWP.region (by kernel_rfl) <| K.build rfl rfl (by exact rfl) (by exact nl4 rfl rfl rfl rfl rfl) .plain ?_; refine K.storeAll rfl rfl rfl rfl rfl rfl .plain ?_; refine RunK.nil <| LWP.ret ?_)
    exact ⟨[_], ⟨⟨_, _, rfl, rfl, rfl, .inl ⟨AggT.h, rfl⟩⟩, trivial⟩, rfl⟩
theorem fSize_spec (k : Int) : PSpec Tryz.prog X 80 [Ln .i64 k] (Ln .i64 (kW k : Nat)) := by
  refine PSpec.intro Tryz.func80 rfl (by kernel_rfl) rfl rfl ?_
  intro C
  (refine LWP.seq <| LWP.region (by kernel_rfl) <| kas rfl <| RunK.nil <| LWP.seq <| LWP.region (by kernel_rfl) <| kmv rfl <| kca rfl rfl (shapeOf_spec X k) <| K.fieldOne rfl Tryz.underlying152 rfl (by kernel_rfl) rfl .plain <| kas rfl <| RunK.nil <| LWP.ret ?_)
  exact ⟨[_], ⟨rfl, trivial⟩, rfl⟩
theorem OfWord_q (n : Int) (hn : 0 ≤ n ∧ n < 18446744073709551616) : PSpec Tryz.prog X 48 [Ln .u64 n] (LQ n) := by
  have h := OfWord_spec X n
  unfold LQ LI
  rw [mg_pos hn.1, decide_eq_false (by omega), show n / 18446744073709551616 = 0 by omega, show n % 18446744073709551616 = n by omega]
  exact h
theorem Greatest_spec (k : Int) : PSpec Tryz.prog X 111 [Ln .i64 k] (LQ (kA k)) := by
  obtain ⟨_, _, h2, h3, _⟩ := kfacts k
  refine PSpec.intro Tryz.func111 rfl (by kernel_rfl) rfl rfl ?_
  intro C
  (refine LWP.seq <| LWP.region (by kernel_rfl) <| K.alloc rfl .plain ?_; refine RunK.nil <| LWP.seq <| LWP.region (by kernel_rfl) <| kmv rfl <| kca rfl rfl (shapeOf_spec X k) <| K.fieldOne rfl Tryz.underlying152 rfl (by kernel_rfl) rfl .plain <| kca rfl rfl (OfWord_q X (kA k) ⟨h2, h3⟩) <| K.storeAll rfl rfl rfl rfl rfl rfl .plain ?_; refine RunK.nil <| LWP.ret ?_)
  exact ⟨[_], ⟨⟨_, _, rfl, rfl, rfl, .inl ⟨AggT.h, rfl⟩⟩, trivial⟩, rfl⟩
theorem kB_R (k : Int) : R127 (kB k) := by
  have := kfacts k
  unfold R127; omega
theorem kBn_R (k : Int) : R127 (-kB k) := by
  have := kfacts k
  unfold R127; omega
theorem kA_R (k : Int) : R127 (kA k) := by
  have := kfacts k
  unfold R127; omega
theorem Least_spec (k : Int) : PSpec Tryz.prog X 110 [Ln .i64 k] (LQ (-kB k)) := by
  obtain ⟨h0, h1, _⟩ := kfacts k
  refine PSpec.intro Tryz.func110 rfl (by kernel_rfl) rfl rfl ?_
  intro C
  (refine LWP.seq <| LWP.region (by kernel_rfl) <| K.alloc rfl .plain ?_; refine RunK.nil <| LWP.seq <| LWP.region (by kernel_rfl) <| kmv rfl <| kca rfl rfl (shapeOf_spec X k) <| K.fieldOne rfl Tryz.underlying152 rfl (by kernel_rfl) rfl .plain <| kca rfl rfl (OfWord_q X (kB k) ⟨h0, by omega⟩) <| kca rfl rfl (Neg_q X (kB k) (kB_R k)) <| K.storeAll rfl rfl rfl rfl rfl rfl .plain ?_; refine RunK.nil <| LWP.ret ?_)
  exact ⟨[_], ⟨⟨_, _, rfl, rfl, rfl, .inl ⟨AggT.h, rfl⟩⟩, trivial⟩, rfl⟩
theorem isKind_spec (k : Int) (r : Bool) (hr : kK k = r) : PSpec Tryz.prog X 90 [Ln .i64 k] (Lb r) := by
  subst hr
  refine PSpec.intro Tryz.func90 rfl (by kernel_rfl) rfl rfl ?_
  intro C
  by_cases h1 : 1 ≤ k
  · (refine LWP.seq <| LWP.region (by kernel_rfl) <| kas rfl <| RunK.nil <| LWP.seq <| LWP.region (by kernel_rfl) <| kmv rfl <| K.leq rfl rfl (decide_eq_true (by omega)) .plain <| kmv rfl <| gmv rfl rfl rfl <| K.leq rfl rfl rfl (.taken rfl rfl) ?_; refine kpt rfl rfl <| kas rfl <| RunK.nil <| LWP.ret ?_)
    exact ⟨[_], ⟨rfl, trivial⟩, by unfold kK; rw [decide_eq_true h1]; rfl⟩
  · (refine LWP.seq <| LWP.region (by kernel_rfl) <| kas rfl <| RunK.nil <| LWP.seq <| LWP.region (by kernel_rfl) <| kmv rfl <| K.leq rfl rfl (decide_eq_false (by omega)) .plain <| kmv rfl <| RunK.passed rfl rfl rfl <| RunK.passed rfl rfl rfl <| kpf rfl rfl <| kas rfl <| RunK.nil ?_; refine LWP.ret ?_)
    exact ⟨[_], ⟨rfl, trivial⟩, by unfold kK; rw [decide_eq_false h1]; rfl⟩
end Go.Proofs.YtnomcmklhbjfjaaGreatDoor
end
section
namespace Go.Lg.Fld
open Go Go.Lg
def clampK (k x : Int) : Int := if x < -kB k then -kB k else if kA k < x then kA k else x
def fitZ (k x : Int) : Bool := decide (-kB k ≤ x) && decide (x ≤ kA k)
theorem fitZ_iff (k x : Int) : fitZ k x = true ↔ -kB k ≤ x ∧ x ≤ kA k := by simp only [fitZ, Bool.and_eq_true, decide_eq_true_eq]
theorem clamp_same (k x : Int) : decide (clampK k x = x) = fitZ k x := by
  obtain ⟨h0, _, h2, _, _⟩ := kfacts k
  rw [Bool.eq_iff_iff, decide_eq_true_eq, fitZ_iff]
  unfold clampK
  (repeat' split) <;> omega
end Go.Lg.Fld
namespace Go.Proofs.YtnomcmklhbjfjaaGreatDoor
open Go Go.Lg Go.Lg.Fld
set_option maxRecDepth 100000
variable (X : Nat → Option Obj)
theorem Clamp_bad (k : Int) (b : Bool) (N : Int) (hN : In2 N) (hf : formB b N = false) : PSpec Tryz.prog X 96 [Ln .i64 k, LI b N] (.sv S0) := by
  refine PSpec.intro Tryz.func96 rfl (by kernel_rfl) rfl rfl ?_
  intro C
  (refine LWP.seq <| LWP.region (by kernel_rfl) <| K.box rfl rfl rfl .plain <| K.alloc rfl .plain ?_; refine RunK.nil <| LWP.seq <| LWP.region (by kernel_rfl) <| kmv rfl <| kca rfl rfl (Least_spec X k) <| kmv rfl <| kca rfl rfl (Greatest_spec X k) <| K.alloc rfl .plain ?_; refine K.alloc rfl .plain ?_; refine K.storeAll rfl rfl rfl rfl rfl rfl .plain ?_; refine K.storeAll rfl rfl rfl rfl rfl rfl .plain ?_; refine RunK.nil <| LWP.seq <| LWP.block <| LWP.seq <| LWP.region (by kernel_rfl) <| K.loadAll rfl rfl rfl .plain ?_; refine kca rfl rfl (Form_spec X b N hN false hf) <| K.not rfl rfl .plain <| kas rfl <| RunK.nil <| LWP.condT rfl ?_; refine LWP.seq <| LWP.region (by kernel_rfl) <| K.build rfl rfl (by exact rfl) (by exact nl3 rfl rfl rfl rfl) .plain ?_; refine K.storeAll rfl rfl rfl rfl rfl rfl .plain ?_; refine RunK.nil <| LWP.ret ?_)
  exact ⟨[_], ⟨⟨_, _, rfl, rfl, rfl, .inl ⟨AggT.h, rfl⟩⟩, trivial⟩, rfl⟩
theorem Clamp_spec (k x : Int) (hx : R127 x) : PSpec Tryz.prog X 96 [Ln .i64 k, LQ x] (LQ (clampK k x)) := by
  have hF := Form_spec X (decide (x < 0)) (mg x) (mg_in2 hx) true (formB_q hx)
  have c1 := Cmp_q X x (-kB k) hx (kBn_R k)
  have c2 := Cmp_q X x (kA k) hx (kA_R k)
  have hL := Least_spec X k
  have hG := Greatest_spec X k
  have hk := kfacts k
  refine PSpec.intro Tryz.func96 rfl (by kernel_rfl) rfl rfl ?_
  intro C
  by_cases h1 : x < -kB k
  · have e : clampK k x = -kB k := if_pos h1
    rw [e]
    have c1' := c1 (-1) (by unfold cmpI; rw [if_pos h1])
    (refine LWP.seq <| LWP.region (by kernel_rfl) <| K.box rfl rfl rfl .plain <| K.alloc rfl .plain ?_; refine RunK.nil <| LWP.seq <| LWP.region (by kernel_rfl) <| kmv rfl <| kca rfl rfl (hL) <| kmv rfl <| kca rfl rfl (hG) <| K.alloc rfl .plain ?_; refine K.alloc rfl .plain ?_; refine K.storeAll rfl rfl rfl rfl rfl rfl .plain ?_; refine K.storeAll rfl rfl rfl rfl rfl rfl .plain ?_; refine RunK.nil <| LWP.seq <| LWP.block <| LWP.seq <| LWP.region (by kernel_rfl) <| K.loadAll rfl rfl rfl .plain ?_; refine kca rfl rfl (hF) <| K.not rfl rfl .plain <| kas rfl <| RunK.nil <| LWP.condF rfl ?_; refine LWP.seq <| LWP.region (by kernel_rfl) <| K.loadAll rfl rfl rfl .plain ?_; refine K.loadAll rfl rfl rfl .plain ?_; refine kca rfl rfl (c1') <| klt rfl rfl (decide_eq_true (by omega)) <| kas rfl <| RunK.nil <| LWP.condT rfl ?_; refine LWP.seq <| LWP.region (by kernel_rfl) <| K.loadAll rfl rfl rfl .plain ?_; refine K.storeAll rfl rfl rfl rfl rfl rfl .plain ?_; refine RunK.nil <| LWP.ret ?_)
    exact ⟨[_], ⟨⟨_, _, rfl, rfl, rfl, .inl ⟨AggT.h, rfl⟩⟩, trivial⟩, rfl⟩
  · have c1' : ∃ r : Int, 0 ≤ r ∧ cmpI x (-kB k) = r := ⟨_, (by unfold cmpI; rw [if_neg h1]; split <;> decide), rfl⟩
    obtain ⟨r, hr0, hr⟩ := c1'
    have c1' := c1 r hr
    by_cases h2 : kA k < x
    · have e : clampK k x = kA k := by unfold clampK; rw [if_neg h1, if_pos h2]
      rw [e]
      have c2' := c2 1 (by unfold cmpI; rw [if_neg (show ¬ x < kA k by omega), if_pos h2])
      (refine LWP.seq <| LWP.region (by kernel_rfl) <| K.box rfl rfl rfl .plain <| K.alloc rfl .plain ?_; refine RunK.nil <| LWP.seq <| LWP.region (by kernel_rfl) <| kmv rfl <| kca rfl rfl (hL) <| kmv rfl <| kca rfl rfl (hG) <| K.alloc rfl .plain ?_; refine K.alloc rfl .plain ?_; refine K.storeAll rfl rfl rfl rfl rfl rfl .plain ?_; refine K.storeAll rfl rfl rfl rfl rfl rfl .plain ?_; refine RunK.nil <| LWP.seq <| LWP.block <| LWP.seq <| LWP.region (by kernel_rfl) <| K.loadAll rfl rfl rfl .plain ?_; refine kca rfl rfl (hF) <| K.not rfl rfl .plain <| kas rfl <| RunK.nil <| LWP.condF rfl ?_; refine LWP.seq <| LWP.region (by kernel_rfl) <| K.loadAll rfl rfl rfl .plain ?_; refine K.loadAll rfl rfl rfl .plain ?_; refine kca rfl rfl c1' <| klt rfl rfl (decide_eq_false (by omega)) <| kas rfl <| RunK.nil <| LWP.condF rfl ?_; refine LWP.seq <| LWP.region (by kernel_rfl) <| K.loadAll rfl rfl rfl .plain ?_; refine K.loadAll rfl rfl rfl .plain ?_; refine kca rfl rfl c2' <| K.gtr rfl rfl (decide_eq_true (by omega)) .plain <| kas rfl <| RunK.nil <| LWP.condT rfl ?_; refine LWP.seq <| LWP.region (by kernel_rfl) <| K.loadAll rfl rfl rfl .plain ?_; refine K.storeAll rfl rfl rfl rfl rfl rfl .plain ?_; refine RunK.nil <| LWP.ret ?_)
      exact ⟨[_], ⟨⟨_, _, rfl, rfl, rfl, .inl ⟨AggT.h, rfl⟩⟩, trivial⟩, rfl⟩
    · have e : clampK k x = x := by unfold clampK; rw [if_neg h1, if_neg h2]
      rw [e]
      obtain ⟨s, hs0, hs⟩ : ∃ s : Int, s ≤ 0 ∧ cmpI x (kA k) = s := ⟨_, (by unfold cmpI; rw [if_neg h2]; split <;> decide), rfl⟩
      have c2' := c2 s hs
      (refine LWP.seq <| LWP.region (by kernel_rfl) <| K.box rfl rfl rfl .plain <| K.alloc rfl .plain ?_; refine RunK.nil <| LWP.seq <| LWP.region (by kernel_rfl) <| kmv rfl <| kca rfl rfl (hL) <| kmv rfl <| kca rfl rfl (hG) <| K.alloc rfl .plain ?_; refine K.alloc rfl .plain ?_; refine K.storeAll rfl rfl rfl rfl rfl rfl .plain ?_; refine K.storeAll rfl rfl rfl rfl rfl rfl .plain ?_; refine RunK.nil <| LWP.seq <| LWP.block <| LWP.seq <| LWP.region (by kernel_rfl) <| K.loadAll rfl rfl rfl .plain ?_; refine kca rfl rfl (hF) <| K.not rfl rfl .plain <| kas rfl <| RunK.nil <| LWP.condF rfl ?_; refine LWP.seq <| LWP.region (by kernel_rfl) <| K.loadAll rfl rfl rfl .plain ?_; refine K.loadAll rfl rfl rfl .plain ?_; refine kca rfl rfl c1' <| klt rfl rfl (decide_eq_false (by omega)) <| kas rfl <| RunK.nil <| LWP.condF rfl ?_; refine LWP.seq <| LWP.region (by kernel_rfl) <| K.loadAll rfl rfl rfl .plain ?_; refine K.loadAll rfl rfl rfl .plain ?_; refine kca rfl rfl c2' <| K.gtr rfl rfl (decide_eq_false (by omega)) .plain <| kas rfl <| RunK.nil <| LWP.condF rfl ?_; refine LWP.skip ?_; refine LWP.seq <| LWP.region (by kernel_rfl) <| K.loadAll rfl rfl rfl .plain ?_; refine K.storeAll rfl rfl rfl rfl rfl rfl .plain ?_; refine RunK.nil <| LWP.ret ?_)
      exact ⟨[_], ⟨⟨_, _, rfl, rfl, rfl, .inl ⟨AggT.h, rfl⟩⟩, trivial⟩, rfl⟩
def fitB (k : Int) (b : Bool) (N : Int) : Bool := kK k && (formB b N && fitZ k (zv b N))
theorem Fits_no (k : Int) (b : Bool) (N : Int) (hk : kK k = false) : PSpec Tryz.prog X 87 [Ln .i64 k, LI b N] (Lb false) := by
  refine PSpec.intro Tryz.func87 rfl (by kernel_rfl) rfl rfl ?_
  intro C
  (refine LWP.seq <| LWP.region (by kernel_rfl) <| K.box rfl rfl rfl .plain <| kas rfl <| RunK.nil <| LWP.seq <| LWP.draws mixed (by kernel_rfl) <| kmv rfl <| kca rfl rfl (isKind_spec X k false hk) <| kmv rfl <| RunK.passed rfl rfl rfl <| RunK.passed rfl rfl rfl <| RunK.passed rfl rfl rfl <| RunK.passed rfl rfl rfl ?_; refine RunK.passed rfl rfl rfl <| kpf rfl rfl <| kas rfl <| RunK.nil <| And.intro (by kernel_rfl) ?_; refine LWP.ret ?_)
  exact ⟨[_], ⟨rfl, trivial⟩, rfl⟩
theorem Fits_bad (k : Int) (b : Bool) (N : Int) (hk : kK k = true) (hN : In2 N) (hf : formB b N = false) : PSpec Tryz.prog X 87 [Ln .i64 k, LI b N] (Lb false) := by
  have hC := Clamp_bad X k b N hN hf
  have hq : (false == b && ((0 : Int) == N / 18446744073709551616 && (0 : Int) == N % 18446744073709551616)) = false := by
    cases hb : (false == b && ((0 : Int) == N / 18446744073709551616 && (0 : Int) == N % 18446744073709551616)) with
    | false => rfl
    | true =>
      simp only [Bool.and_eq_true, beq_iff_eq] at hb
      obtain ⟨rfl, h1, h2⟩ := hb
      have : N = 0 := by omega
      subst this
      cases hf
  refine PSpec.intro Tryz.func87 rfl (by kernel_rfl) rfl rfl ?_
  intro C
  (refine LWP.seq <| LWP.region (by kernel_rfl) <| K.box rfl rfl rfl .plain <| kas rfl <| RunK.nil <| LWP.seq <| LWP.draws mixed (by kernel_rfl) <| kmv rfl <| kca rfl rfl (isKind_spec X k true hk) <| kmv rfl <| gmv rfl rfl rfl <| K.loadAll rfl rfl rfl (.taken rfl rfl) ?_; refine gca rfl rfl (hC) rfl rfl <| K.loadAll rfl rfl rfl (.taken rfl rfl) ?_; refine K.aggEq rfl rfl rfl rfl (by kernel_rfl) (eqI false hq) (.inl ⟨rfl, rfl⟩) (.taken rfl rfl) ?_; refine kpt rfl rfl <| kas rfl <| RunK.nil <| And.intro (by kernel_rfl) ?_; refine LWP.ret ?_)
  exact ⟨[_], ⟨rfl, trivial⟩, rfl⟩
theorem Fits_q (k x : Int) (hk : kK k = true) (hx : R127 x) (r : Bool) (hr : fitZ k x = r) : PSpec Tryz.prog X 87 [Ln .i64 k, LQ x] (Lb r) := by
  have hC := Clamp_spec X k x hx
  have hq := clamp_same k x
  rw [hr] at hq
  refine PSpec.intro Tryz.func87 rfl (by kernel_rfl) rfl rfl ?_
  intro C
  (refine LWP.seq <| LWP.region (by kernel_rfl) <| K.box rfl rfl rfl .plain <| kas rfl <| RunK.nil <| LWP.seq <| LWP.draws mixed (by kernel_rfl) <| kmv rfl <| kca rfl rfl (isKind_spec X k true hk) <| kmv rfl <| gmv rfl rfl rfl <| K.loadAll rfl rfl rfl (.taken rfl rfl) ?_; refine gca rfl rfl (hC) rfl rfl <| K.loadAll rfl rfl rfl (.taken rfl rfl) ?_; refine K.aggEq rfl rfl rfl rfl (by kernel_rfl) (eqQ _ _ r hq) (.inl ⟨rfl, rfl⟩) (.taken rfl rfl) ?_; refine kpt rfl rfl <| kas rfl <| RunK.nil <| And.intro (by kernel_rfl) ?_; refine LWP.ret ?_)
  exact ⟨[_], ⟨rfl, trivial⟩, rfl⟩
theorem Fits_spec (k : Int) (b : Bool) (N : Int) (hN : In2 N) (r : Bool) (hr : fitB k b N = r) : PSpec Tryz.prog X 87 [Ln .i64 k, LI b N] (Lb r) := by
  subst hr
  unfold fitB
  cases hk : kK k with
  | false => exact Fits_no X k b N hk
  | true =>
    cases hf : formB b N with
    | false => exact Fits_bad X k b N hk hN hf
    | true =>
      rw [LI_q hN hf]
      exact Fits_q X k (zv b N) hk (zv_in hN hf).1 _ rfl
end Go.Proofs.YtnomcmklhbjfjaaGreatDoor
end
section
namespace Go.Lg.Fld
open Go Go.Lg
def kM (k : Int) : Nat := 256 ^ kW k
def wdK (k x : Int) : Nat := (x % (kM k : Int)).toNat
def nbK (k : Int) (v : Nat) : Int := if kA k < v then (v : Int) - (kM k : Int) else v
theorem kM_facts {k : Int} (h : kK k = true) : kB k + kA k < (kM k : Int) ∧ (kM k : Int) ≤ 18446744073709551616 ∧ 0 < kM k := by
  rcases kin h with rfl | rfl | rfl | rfl | rfl | rfl | rfl | rfl | rfl | rfl <;> decide
theorem wd_lt {k : Int} (h : kK k = true) (x : Int) : wdK k x < 256 ^ kW k := by
  have := kM_facts h
  have h1 := Int.emod_nonneg x (show (kM k : Int) ≠ 0 by omega)
  have h2 := Int.emod_lt_of_pos x (show 0 < (kM k : Int) by omega)
  show wdK k x < kM k
  unfold wdK
  omega
theorem wd_of {k x : Int} (h : kK k = true) (hx : fitZ k x = true) : (wdK k x : Int) = if x < 0 then x + kM k else x := by
  obtain ⟨h1, h2, h3⟩ := kM_facts h
  obtain ⟨f1, f2, f3, f4, _⟩ := kfacts k
  obtain ⟨x1, x2⟩ := (fitZ_iff k x).1 hx
  unfold wdK
  by_cases c : x < 0
  · rw [if_pos c]
    have e : x % (kM k : Int) = x + kM k := by
      rw [← Int.add_emod_right]
      exact Int.emod_eq_of_lt (by omega) (by omega)
    rw [e]; omega
  · rw [if_neg c, Int.emod_eq_of_lt (by omega) (by omega)]; omega
theorem nb_wd {k x : Int} (h : kK k = true) (hx : fitZ k x = true) : nbK k (wdK k x) = x := by
  obtain ⟨h1, h2, h3⟩ := kM_facts h
  obtain ⟨f1, f2, f3, f4, _⟩ := kfacts k
  obtain ⟨x1, x2⟩ := (fitZ_iff k x).1 hx
  have e := wd_of h hx
  unfold nbK
  by_cases c : x < 0
  · rw [if_pos c] at e
    rw [if_pos (by omega)]; omega
  · rw [if_neg c] at e
    rw [if_neg (by omega)]; omega
end Go.Lg.Fld
namespace Go.Proofs.YtnomcmklhbjfjaaGreatDoor
open Go Go.Lg Go.Lg.Fld
set_option maxRecDepth 100000
variable (X : Nat → Option Obj)
theorem fit_R {k x : Int} (h : fitZ k x = true) : R127 x := by
  have := kfacts k
  rw [fitZ_iff] at h
  unfold R127; omega
theorem nb_R {k : Int} {v : Nat} (h : kK k = true) (hv : v < 256 ^ kW k) : R127 (nbK k v) := by
  have := kM_facts h
  have hv : v < kM k := hv
  unfold R127 nbK
  split <;> omega
theorem opposite_1 (k : Int) (hk : kW k = 1) (v : Int) (hv : 0 ≤ v ∧ v < 18446744073709551616) : PSpec Tryz.prog X 98 [Ln .i64 k, Ln .u64 v] (Ln .u64 ((-v) % ((256 ^ 1 : Nat) : Int))) := by
  have hS := fSize_spec X k
  rw [hk] at hS
  have p1 : ((2 : Int) ^ (min (Int.toNat 56) IntKind.u64.bits)) = 72057594037927936 := by decide
  have p2 : ((256 ^ 1 : Nat) : Int) = 256 := by decide
  rw [p2]
  have n1 : IntKind.u64.wrap (0 - v) = (0 - v) % 18446744073709551616 := by rw [IntKind.wrap_u64]
  have s1 : IntKind.u64.wrap ((0 - v) % 18446744073709551616 * (2 : Int) ^ (min (Int.toNat 56) IntKind.u64.bits)) = (0 - v) % 18446744073709551616 * 72057594037927936 % 18446744073709551616 := by rw [p1, IntKind.wrap_u64]
  have s2 : ((0 - v) % 18446744073709551616 * 72057594037927936 % 18446744073709551616).fdiv ((2 : Int) ^ (min (Int.toNat 56) IntKind.u64.bits)) = (-v) % 256 := by
    rw [p1, Int.fdiv_eq_ediv_of_nonneg _ (by decide)]
    omega
  refine PSpec.intro Tryz.func98 rfl (by kernel_rfl) rfl rfl ?_
  intro C
  (refine LWP.seq <| LWP.region (by kernel_rfl) <| kas rfl <| RunK.nil <| LWP.seq <| LWP.region (by kernel_rfl) <| kmv rfl <| kca rfl rfl (hS) <| K.mul rfl rfl (c := 8) rfl .plain <| K.sub rfl rfl (c := 56) rfl .plain <| kas rfl <| RunK.nil <| LWP.seq <| LWP.region (by kernel_rfl) ?_; refine kmv rfl <| K.neg rfl n1 .plain <| kmv rfl <| K.shl rfl rfl (by decide) s1 .plain <| kmv rfl <| K.shr rfl rfl (by decide) s2 .plain <| kas rfl <| RunK.nil <| LWP.ret ?_)
  exact ⟨[_], ⟨rfl, trivial⟩, rfl⟩
theorem opposite_2 (k : Int) (hk : kW k = 2) (v : Int) (hv : 0 ≤ v ∧ v < 18446744073709551616) : PSpec Tryz.prog X 98 [Ln .i64 k, Ln .u64 v] (Ln .u64 ((-v) % ((256 ^ 2 : Nat) : Int))) := by
  have hS := fSize_spec X k
  rw [hk] at hS
  have p1 : ((2 : Int) ^ (min (Int.toNat 48) IntKind.u64.bits)) = 281474976710656 := by decide
  have p2 : ((256 ^ 2 : Nat) : Int) = 65536 := by decide
  rw [p2]
  have n1 : IntKind.u64.wrap (0 - v) = (0 - v) % 18446744073709551616 := by rw [IntKind.wrap_u64]
  have s1 : IntKind.u64.wrap ((0 - v) % 18446744073709551616 * (2 : Int) ^ (min (Int.toNat 48) IntKind.u64.bits)) = (0 - v) % 18446744073709551616 * 281474976710656 % 18446744073709551616 := by rw [p1, IntKind.wrap_u64]
  have s2 : ((0 - v) % 18446744073709551616 * 281474976710656 % 18446744073709551616).fdiv ((2 : Int) ^ (min (Int.toNat 48) IntKind.u64.bits)) = (-v) % 65536 := by
    rw [p1, Int.fdiv_eq_ediv_of_nonneg _ (by decide)]
    omega
  refine PSpec.intro Tryz.func98 rfl (by kernel_rfl) rfl rfl ?_
  intro C
  (refine LWP.seq <| LWP.region (by kernel_rfl) <| kas rfl <| RunK.nil <| LWP.seq <| LWP.region (by kernel_rfl) <| kmv rfl <| kca rfl rfl (hS) <| K.mul rfl rfl (c := 16) rfl .plain <| K.sub rfl rfl (c := 48) rfl .plain <| kas rfl <| RunK.nil <| LWP.seq <| LWP.region (by kernel_rfl) ?_; refine kmv rfl <| K.neg rfl n1 .plain <| kmv rfl <| K.shl rfl rfl (by decide) s1 .plain <| kmv rfl <| K.shr rfl rfl (by decide) s2 .plain <| kas rfl <| RunK.nil <| LWP.ret ?_)
  exact ⟨[_], ⟨rfl, trivial⟩, rfl⟩
theorem opposite_4 (k : Int) (hk : kW k = 4) (v : Int) (hv : 0 ≤ v ∧ v < 18446744073709551616) : PSpec Tryz.prog X 98 [Ln .i64 k, Ln .u64 v] (Ln .u64 ((-v) % ((256 ^ 4 : Nat) : Int))) := by
  have hS := fSize_spec X k
  rw [hk] at hS
  have p1 : ((2 : Int) ^ (min (Int.toNat 32) IntKind.u64.bits)) = 4294967296 := by decide
  have p2 : ((256 ^ 4 : Nat) : Int) = 4294967296 := by decide
  rw [p2]
  have n1 : IntKind.u64.wrap (0 - v) = (0 - v) % 18446744073709551616 := by rw [IntKind.wrap_u64]
  have s1 : IntKind.u64.wrap ((0 - v) % 18446744073709551616 * (2 : Int) ^ (min (Int.toNat 32) IntKind.u64.bits)) = (0 - v) % 18446744073709551616 * 4294967296 % 18446744073709551616 := by rw [p1, IntKind.wrap_u64]
  have s2 : ((0 - v) % 18446744073709551616 * 4294967296 % 18446744073709551616).fdiv ((2 : Int) ^ (min (Int.toNat 32) IntKind.u64.bits)) = (-v) % 4294967296 := by
    rw [p1, Int.fdiv_eq_ediv_of_nonneg _ (by decide)]
    omega
  refine PSpec.intro Tryz.func98 rfl (by kernel_rfl) rfl rfl ?_
  intro C
  (refine LWP.seq <| LWP.region (by kernel_rfl) <| kas rfl <| RunK.nil <| LWP.seq <| LWP.region (by kernel_rfl) <| kmv rfl <| kca rfl rfl (hS) <| K.mul rfl rfl (c := 32) rfl .plain <| K.sub rfl rfl (c := 32) rfl .plain <| kas rfl <| RunK.nil <| LWP.seq <| LWP.region (by kernel_rfl) ?_; refine kmv rfl <| K.neg rfl n1 .plain <| kmv rfl <| K.shl rfl rfl (by decide) s1 .plain <| kmv rfl <| K.shr rfl rfl (by decide) s2 .plain <| kas rfl <| RunK.nil <| LWP.ret ?_)
  exact ⟨[_], ⟨rfl, trivial⟩, rfl⟩
theorem opposite_8 (k : Int) (hk : kW k = 8) (v : Int) (hv : 0 ≤ v ∧ v < 18446744073709551616) : PSpec Tryz.prog X 98 [Ln .i64 k, Ln .u64 v] (Ln .u64 ((-v) % ((256 ^ 8 : Nat) : Int))) := by
  have hS := fSize_spec X k
  rw [hk] at hS
  have p1 : ((2 : Int) ^ (min (Int.toNat 0) IntKind.u64.bits)) = 1 := by decide
  have p2 : ((256 ^ 8 : Nat) : Int) = 18446744073709551616 := by decide
  rw [p2]
  have n1 : IntKind.u64.wrap (0 - v) = (0 - v) % 18446744073709551616 := by rw [IntKind.wrap_u64]
  have s1 : IntKind.u64.wrap ((0 - v) % 18446744073709551616 * (2 : Int) ^ (min (Int.toNat 0) IntKind.u64.bits)) = (0 - v) % 18446744073709551616 * 1 % 18446744073709551616 := by rw [p1, IntKind.wrap_u64]
  have s2 : ((0 - v) % 18446744073709551616 * 1 % 18446744073709551616).fdiv ((2 : Int) ^ (min (Int.toNat 0) IntKind.u64.bits)) = (-v) % 18446744073709551616 := by
    rw [p1, Int.fdiv_eq_ediv_of_nonneg _ (by decide)]
    omega
  refine PSpec.intro Tryz.func98 rfl (by kernel_rfl) rfl rfl ?_
  intro C
  (refine LWP.seq <| LWP.region (by kernel_rfl) <| kas rfl <| RunK.nil <| LWP.seq <| LWP.region (by kernel_rfl) <| kmv rfl <| kca rfl rfl (hS) <| K.mul rfl rfl (c := 64) rfl .plain <| K.sub rfl rfl (c := 0) rfl .plain <| kas rfl <| RunK.nil <| LWP.seq <| LWP.region (by kernel_rfl) ?_; refine kmv rfl <| K.neg rfl n1 .plain <| kmv rfl <| K.shl rfl rfl (by decide) s1 .plain <| kmv rfl <| K.shr rfl rfl (by decide) s2 .plain <| kas rfl <| RunK.nil <| LWP.ret ?_)
  exact ⟨[_], ⟨rfl, trivial⟩, rfl⟩
theorem opposite_spec (k : Int) (hk : kK k = true) (v : Int) (hv : 0 ≤ v ∧ v < 18446744073709551616) (r : Int) (hr : (-v) % (kM k : Int) = r) : PSpec Tryz.prog X 98 [Ln .i64 k, Ln .u64 v] (Ln .u64 r) := by
  subst hr
  unfold kM
  rcases kW_in hk with e | e | e | e
  · rw [e]; exact opposite_1 X k e v hv
  · rw [e]; exact opposite_2 X k e v hv
  · rw [e]; exact opposite_4 X k e v hv
  · rw [e]; exact opposite_8 X k e v hv
theorem wordOf_spec (k x : Int) (hk : kK k = true) (hx : fitZ k x = true) : PSpec Tryz.prog X 91 [Ln .i64 k, LQ x] (Ln .u64 (wdK k x : Nat)) := by
  obtain ⟨h1, h2, h3⟩ := kM_facts hk
  obtain ⟨f1, f2, f3, f4, _⟩ := kfacts k
  obtain ⟨x1, x2⟩ := (fitZ_iff k x).1 hx
  have e := wd_of hk hx
  refine PSpec.intro Tryz.func91 rfl (by kernel_rfl) rfl rfl ?_
  intro C
  by_cases c : x < 0
  · have hm : mg x % 18446744073709551616 = -x := by rw [mg_neg c]; omega
    have hO := opposite_spec X k hk (-x) (by omega) (wdK k x : Nat) (by
      rw [if_pos c] at e
      rw [e, Int.neg_neg, ← Int.add_emod_right]
      exact Int.emod_eq_of_lt (by omega) (by omega))
    unfold LQ LI
    rw [hm, decide_eq_true c]
    (refine LWP.seq <| LWP.region (by kernel_rfl) <| K.box rfl rfl rfl .plain <| kas rfl <| RunK.nil <| LWP.seq <| LWP.seq <| LWP.region (by kernel_rfl) <| kfa rfl rfl ?_; refine kl1 rfl rfl rfl <| RunK.nil <| LWP.condT rfl ?_; refine LWP.seq <| LWP.region (by kernel_rfl) <| kmv rfl <| kfa rfl rfl ?_; refine kl1 rfl rfl rfl <| kca rfl rfl (hO) <| kas rfl <| RunK.nil <| LWP.ret ?_)
    exact ⟨[_], ⟨rfl, trivial⟩, rfl⟩
  · have hm : mg x % 18446744073709551616 = x := by rw [mg_pos (by omega)]; omega
    rw [if_neg c] at e
    rw [e]
    unfold LQ LI
    rw [hm, decide_eq_false c]
    (refine LWP.seq <| LWP.region (by kernel_rfl) <| K.box rfl rfl rfl .plain <| kas rfl <| RunK.nil <| LWP.seq <| LWP.seq <| LWP.region (by kernel_rfl) <| kfa rfl rfl ?_; refine kl1 rfl rfl rfl <| RunK.nil <| LWP.condF rfl ?_; refine LWP.skip ?_; refine LWP.seq <| LWP.region (by kernel_rfl) <| kfa rfl rfl ?_; refine kl1 rfl rfl rfl <| kas rfl <| RunK.nil <| LWP.ret ?_)
    exact ⟨[_], ⟨rfl, trivial⟩, rfl⟩
theorem numberOf_spec (k : Int) (v : Nat) (hk : kK k = true) (hv : v < 256 ^ kW k) : PSpec Tryz.prog X 94 [Ln .i64 k, Ln .u64 (v : Nat)] (LQ (nbK k v)) := by
  obtain ⟨h1, h2, h3⟩ := kM_facts hk
  obtain ⟨f1, f2, f3, f4, _⟩ := kfacts k
  have hv' : v < kM k := hv
  refine PSpec.intro Tryz.func94 rfl (by kernel_rfl) rfl rfl ?_
  intro C
  by_cases c : kA k < v
  · have hO := opposite_spec X k hk v (by omega) ((kM k : Int) - v) (by
      rw [← Int.add_emod_right]
      rw [Int.emod_eq_of_lt (by omega) (by omega)]; omega)
    have hW := OfWord_q X ((kM k : Int) - v) (by omega)
    have hN := Neg_q X ((kM k : Int) - v) (by unfold R127; omega)
    have e : nbK k v = -((kM k : Int) - v) := by unfold nbK; rw [if_pos c]; omega
    rw [e]
    (refine LWP.seq <| LWP.region (by kernel_rfl) <| K.alloc rfl .plain ?_; refine RunK.nil <| LWP.seq <| LWP.seq <| LWP.region (by kernel_rfl) <| kmv rfl <| kmv rfl <| kca rfl rfl (shapeOf_spec X k) <| K.fieldOne rfl Tryz.underlying152 rfl (by kernel_rfl) rfl .plain <| K.gtr rfl rfl (decide_eq_true (by omega)) .plain <| RunK.nil <| LWP.condT rfl ?_; refine LWP.seq <| LWP.region (by kernel_rfl) <| kmv rfl <| kmv rfl <| kca rfl rfl (hO) <| kca rfl rfl (hW) <| kca rfl rfl (hN) <| K.storeAll rfl rfl rfl rfl rfl rfl .plain ?_; refine RunK.nil <| LWP.ret ?_)
    exact ⟨[_], ⟨⟨_, _, rfl, rfl, rfl, .inl ⟨AggT.h, rfl⟩⟩, trivial⟩, rfl⟩
  · have hW := OfWord_q X (v : Int) (by omega)
    have e : nbK k v = v := by unfold nbK; rw [if_neg c]
    rw [e]
    (refine LWP.seq <| LWP.region (by kernel_rfl) <| K.alloc rfl .plain ?_; refine RunK.nil <| LWP.seq <| LWP.seq <| LWP.region (by kernel_rfl) <| kmv rfl <| kmv rfl <| kca rfl rfl (shapeOf_spec X k) <| K.fieldOne rfl Tryz.underlying152 rfl (by kernel_rfl) rfl .plain <| K.gtr rfl rfl (decide_eq_false (by omega)) .plain <| RunK.nil <| LWP.condF rfl ?_; refine LWP.skip ?_; refine LWP.seq <| LWP.region (by kernel_rfl) <| kmv rfl <| kca rfl rfl (hW) <| K.storeAll rfl rfl rfl rfl rfl rfl .plain ?_; refine RunK.nil <| LWP.ret ?_)
    exact ⟨[_], ⟨⟨_, _, rfl, rfl, rfl, .inl ⟨AggT.h, rfl⟩⟩, trivial⟩, rfl⟩
theorem WNum_k (k : Int) (hk : kK k = true) (n : Nat) (h : n < 256 ^ kW k) : MSpec Tryz.prog X 24 [Lp 1000000, Ln .i64 (kW k : Nat), Ln .u64 (n : Nat)] (w0 1000000) (Lb true) (w1 1000000 1000001 1000002 (leB (kW k) n)) := by
  have hn : n < 18446744073709551616 := by
    have := (kM_facts hk).2.1
    have h : n < kM k := h
    omega
  rcases kW_in hk with e | e | e | e <;> rw [e] at h ⊢
  · exact WNum_0_1 X n hn h
  · exact WNum_0_2 X n hn h
  · exact WNum_0_4 X n hn h
  · exact WNum_0_8 X n hn h
theorem Put_q (k x : Int) (hk : kK k = true) (hx : fitZ k x = true) : PSpec Tryz.prog X 77 [Ln .i64 k, LQ x] (.tup [Ss (leB (kW k) (wdK k x)), Sn .i64 0]) := by
  have hF := Fits_q X k x hk (fit_R hx) true hx
  have hW := wordOf_spec X k x hk hx
  have hN := WNum_k X k hk (wdK k x) (wd_lt hk x)
  have hS := fSize_spec X k
  refine PSpec.intro Tryz.func77 rfl (by kernel_rfl) rfl rfl ?_
  intro C
  (refine LWP.seq <| LWP.region (by kernel_rfl) <| K.box rfl rfl rfl .plain <| kas rfl <| kas rfl <| RunK.nil <| LWP.seq <| LWP.seq <| LWP.region (by kernel_rfl) <| kmv rfl <| kca rfl rfl (isKind_spec X k true hk) <| K.not rfl rfl .plain <| RunK.nil <| LWP.condF rfl ?_; refine LWP.skip ?_; refine LWP.seq <| LWP.seq <| LWP.region (by kernel_rfl) <| kmv rfl <| K.loadAll rfl rfl rfl .plain ?_; refine kca rfl rfl (hF) <| K.not rfl rfl .plain <| RunK.nil <| LWP.condF rfl ?_; refine LWP.skip ?_; refine LWP.seq <| LWP.region (by kernel_rfl) <| K.build rfl rfl (by exact rfl) (by exact nl2 rfl rfl rfl) .plain ?_; refine K.box rfl rfl rfl .plain <| kas rfl <| RunK.nil <| LWP.seq <| LWP.draws mixed (by kernel_rfl) <| kmv rfl <| kmv rfl <| kca rfl rfl (hS) <| kmv rfl <| K.loadAll rfl rfl rfl .plain ?_; refine kca rfl rfl (hW) <| K.callM [(1000000, 15), (1000001, 501), (1000002, 502)] (w1 15 501 502 (leB (kW k) (wdK k x))) (hN) rfl rfl (by exact (And.intro ⟨_, rfl, rfl⟩ trivial)) (by exact (all_cons_true (all_cons_true rfl (all_cons_true rfl rfl)) rfl)) rfl rfl rfl rfl (by exact (.box rfl rfl (.box rfl rfl (.box rfl (Box.ren_bytes _ _ _ _) .nil)))) .plain <| RunK.nil <| And.intro (by kernel_rfl) ?_; refine LWP.seq <| LWP.region (by kernel_rfl) <| kmv rfl <| K.callR [(1000000, 15), (1000001, 501), (1000002, 502)] (String_1 X (leB (kW k) (wdK k x))) rfl rfl (by exact (And.intro ⟨_, rfl, rfl⟩ (And.intro ⟨_, rfl, rfl⟩ (And.intro ⟨_, rfl, (Box.ren_bytes _ _ _ _)⟩ trivial)))) (by exact (all_cons_true (all_cons_true rfl (all_cons_true rfl rfl)) (all_cons_true (all_cons_true rfl rfl) (all_cons_true bytes_inUse rfl)))) rfl rfl rfl rfl .plain <| kas rfl <| kas rfl <| RunK.nil <| LWP.ret ?_)
  exact ⟨[_, _], ⟨rfl, rfl, trivial⟩, rfl⟩
end Go.Proofs.YtnomcmklhbjfjaaGreatDoor
end
