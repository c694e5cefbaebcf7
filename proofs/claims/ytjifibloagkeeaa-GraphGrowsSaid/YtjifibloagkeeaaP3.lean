/- A piece of a proof over this program: contracts of its functions, and a logic to prove them by. -/
import Derived.Test.YtjifibloagkeeaaP2
import Derived.Test.YtjifibloagkeeaaRows
import Derived.Lib.Strings
import Derived.Lib.AppendZerosOnto
import Derived.Lib.TrimByte
import Derived.Lib.SmallJoins
section
namespace Go.Proofs.Ytjifibloagkeeaa
open Go Go.Lg
theorem mixed : Try.prog.follows .mixedOrders = true := by kernel_rfl
instance : ZeroT Try.prog 1 [(.val (.nilFunc))] := ⟨by kernel_rfl⟩
instance : OneT Try.prog 1 := ⟨by kernel_rfl⟩
instance : ZeroT Try.prog 2 [(.val (.int .i64 0))] := ⟨by kernel_rfl⟩
instance : OneT Try.prog 2 := ⟨by kernel_rfl⟩
instance : IntT Try.prog 2 .i64 := ⟨by kernel_rfl⟩
instance : ZeroT Try.prog 3 [(.val (.int .i64 0))] := ⟨by kernel_rfl⟩
instance : OneT Try.prog 3 := ⟨by kernel_rfl⟩
instance : IntT Try.prog 3 .i64 := ⟨by kernel_rfl⟩
instance : ZeroT Try.prog 4 [(.val (.bool false))] := ⟨by kernel_rfl⟩
instance : OneT Try.prog 4 := ⟨by kernel_rfl⟩
instance : BoolT Try.prog 4 := ⟨by kernel_rfl⟩
instance : ZeroT Try.prog 5 [(.val (.int .u8 0))] := ⟨by kernel_rfl⟩
instance : OneT Try.prog 5 := ⟨by kernel_rfl⟩
instance : IntT Try.prog 5 .u8 := ⟨by kernel_rfl⟩
instance : ZeroT Try.prog 6 [(.val (.int .u8 0))] := ⟨by kernel_rfl⟩
instance : OneT Try.prog 6 := ⟨by kernel_rfl⟩
instance : IntT Try.prog 6 .u8 := ⟨by kernel_rfl⟩
instance : ZeroT Try.prog 7 [(.val (.int .i64 0)), (.val (.int .i64 0)), (.val (.bool false)), (.val (.int .u8 0))] := ⟨by kernel_rfl⟩
instance : AggT Try.prog 7 4 := ⟨by kernel_rfl⟩
instance : FieldT Try.prog 7 0 0 0 := ⟨by kernel_rfl⟩
instance : FieldT Try.prog 7 1 1 0 := ⟨by kernel_rfl⟩
instance : FieldT Try.prog 7 2 2 0 := ⟨by kernel_rfl⟩
instance : FieldT Try.prog 7 3 3 0 := ⟨by kernel_rfl⟩
instance : StructT Try.prog 7 [(.int .i64 0), (.int .i64 0), (.bool false), (.int .u8 0)] [(0, 1), (1, 1), (2, 1), (3, 1)] := ⟨by kernel_rfl⟩
instance : ZeroT Try.prog 8 [(.val (.int .i64 0)), (.val (.int .i64 0)), (.val (.bool false)), (.val (.int .u8 0))] := ⟨by kernel_rfl⟩
instance : AggT Try.prog 8 4 := ⟨by kernel_rfl⟩
instance : FieldT Try.prog 8 0 0 0 := ⟨by kernel_rfl⟩
instance : FieldT Try.prog 8 1 1 0 := ⟨by kernel_rfl⟩
instance : FieldT Try.prog 8 2 2 0 := ⟨by kernel_rfl⟩
instance : FieldT Try.prog 8 3 3 0 := ⟨by kernel_rfl⟩
instance : StructT Try.prog 8 [(.int .i64 0), (.int .i64 0), (.bool false), (.int .u8 0)] [(0, 1), (1, 1), (2, 1), (3, 1)] := ⟨by kernel_rfl⟩
instance : ZeroT Try.prog 9 [(.val (.string ⟨#[]⟩))] := ⟨by kernel_rfl⟩
instance : OneT Try.prog 9 := ⟨by kernel_rfl⟩
instance : StrT Try.prog 9 := ⟨by kernel_rfl⟩
instance : ZeroT Try.prog 10 [(.val (.string ⟨#[]⟩))] := ⟨by kernel_rfl⟩
instance : OneT Try.prog 10 := ⟨by kernel_rfl⟩
instance : StrT Try.prog 10 := ⟨by kernel_rfl⟩
instance : ZeroT Try.prog 11 [(.val (.string ⟨#[]⟩))] := ⟨by kernel_rfl⟩
instance : OneT Try.prog 11 := ⟨by kernel_rfl⟩
instance : StrT Try.prog 11 := ⟨by kernel_rfl⟩
instance : ZeroT Try.prog 12 [(.val (.int .u64 0))] := ⟨by kernel_rfl⟩
instance : OneT Try.prog 12 := ⟨by kernel_rfl⟩
instance : IntT Try.prog 12 .u64 := ⟨by kernel_rfl⟩
instance : ZeroT Try.prog 13 [(.val (.string ⟨#[]⟩)), (.val (.int .u64 0))] := ⟨by kernel_rfl⟩
instance : AggT Try.prog 13 2 := ⟨by kernel_rfl⟩
instance : FieldT Try.prog 13 0 0 0 := ⟨by kernel_rfl⟩
instance : FieldT Try.prog 13 1 1 0 := ⟨by kernel_rfl⟩
instance : StructT Try.prog 13 [(.string ⟨#[]⟩), (.int .u64 0)] [(0, 1), (1, 1)] := ⟨by kernel_rfl⟩
instance : ZeroT Try.prog 14 [(.val (.string ⟨#[]⟩)), (.val (.int .u64 0))] := ⟨by kernel_rfl⟩
instance : AggT Try.prog 14 2 := ⟨by kernel_rfl⟩
instance : FieldT Try.prog 14 0 0 0 := ⟨by kernel_rfl⟩
instance : FieldT Try.prog 14 1 1 0 := ⟨by kernel_rfl⟩
instance : StructT Try.prog 14 [(.string ⟨#[]⟩), (.int .u64 0)] [(0, 1), (1, 1)] := ⟨by kernel_rfl⟩
instance : ZeroT Try.prog 15 [(.val (.pointer none))] := ⟨by kernel_rfl⟩
instance : OneT Try.prog 15 := ⟨by kernel_rfl⟩
instance : ZeroT Try.prog 16 [(.val (.pointer none))] := ⟨by kernel_rfl⟩
instance : OneT Try.prog 16 := ⟨by kernel_rfl⟩
instance : ZeroT Try.prog 17 [(.val (.pointer none))] := ⟨by kernel_rfl⟩
instance : OneT Try.prog 17 := ⟨by kernel_rfl⟩
instance : ZeroT Try.prog 18 [(.val (.pointer none))] := ⟨by kernel_rfl⟩
instance : AggT Try.prog 18 1 := ⟨by kernel_rfl⟩
instance : FieldT Try.prog 18 0 0 0 := ⟨by kernel_rfl⟩
instance : StructT Try.prog 18 [(.pointer none)] [(0, 1)] := ⟨by kernel_rfl⟩
instance : ZeroT Try.prog 19 [(.val (.pointer none))] := ⟨by kernel_rfl⟩
instance : AggT Try.prog 19 1 := ⟨by kernel_rfl⟩
instance : FieldT Try.prog 19 0 0 0 := ⟨by kernel_rfl⟩
instance : StructT Try.prog 19 [(.pointer none)] [(0, 1)] := ⟨by kernel_rfl⟩
instance : ZeroT Try.prog 20 [(.val (.nilIface))] := ⟨by kernel_rfl⟩
instance : OneT Try.prog 20 := ⟨by kernel_rfl⟩
instance : ZeroT Try.prog 21 [(.val (.int .i32 0))] := ⟨by kernel_rfl⟩
instance : OneT Try.prog 21 := ⟨by kernel_rfl⟩
instance : IntT Try.prog 21 .i32 := ⟨by kernel_rfl⟩
instance : ZeroT Try.prog 22 [(.val (.slice none 0 0))] := ⟨by kernel_rfl⟩
instance : OneT Try.prog 22 := ⟨by kernel_rfl⟩
instance : SliceT Try.prog 22 3 := ⟨by kernel_rfl⟩
instance : ZeroT Try.prog 23 [(.val (.int .i64 0)), (.val (.slice none 0 0))] := ⟨by kernel_rfl⟩
instance : AggT Try.prog 23 2 := ⟨by kernel_rfl⟩
instance : FieldT Try.prog 23 0 0 0 := ⟨by kernel_rfl⟩
instance : FieldT Try.prog 23 1 1 0 := ⟨by kernel_rfl⟩
instance : StructT Try.prog 23 [(.int .i64 0), (.slice none 0 0)] [(0, 1), (1, 1)] := ⟨by kernel_rfl⟩
instance : ZeroT Try.prog 24 [(.val (.int .i64 0)), (.val (.slice none 0 0))] := ⟨by kernel_rfl⟩
instance : AggT Try.prog 24 2 := ⟨by kernel_rfl⟩
instance : FieldT Try.prog 24 0 0 0 := ⟨by kernel_rfl⟩
instance : FieldT Try.prog 24 1 1 0 := ⟨by kernel_rfl⟩
instance : StructT Try.prog 24 [(.int .i64 0), (.slice none 0 0)] [(0, 1), (1, 1)] := ⟨by kernel_rfl⟩
instance : ZeroT Try.prog 25 [(.val (.slice none 0 0))] := ⟨by kernel_rfl⟩
instance : OneT Try.prog 25 := ⟨by kernel_rfl⟩
instance : SliceT Try.prog 25 5 := ⟨by kernel_rfl⟩
instance : ZeroT Try.prog 26 [(.val (.nilFunc))] := ⟨by kernel_rfl⟩
instance : OneT Try.prog 26 := ⟨by kernel_rfl⟩
instance : ZeroT Try.prog 27 [(.val (.nilFunc))] := ⟨by kernel_rfl⟩
instance : OneT Try.prog 27 := ⟨by kernel_rfl⟩
instance : ZeroT Try.prog 28 [(.val (.pointer none))] := ⟨by kernel_rfl⟩
instance : OneT Try.prog 28 := ⟨by kernel_rfl⟩
instance : ZeroT Try.prog 29 [(.val (.nilFunc))] := ⟨by kernel_rfl⟩
instance : OneT Try.prog 29 := ⟨by kernel_rfl⟩
instance : ZeroT Try.prog 30 [(.val (.int .u64 0))] := ⟨by kernel_rfl⟩
instance : OneT Try.prog 30 := ⟨by kernel_rfl⟩
instance : IntT Try.prog 30 .u64 := ⟨by kernel_rfl⟩
instance : ZeroT Try.prog 31 [(.val (.int .i64 0))] := ⟨by kernel_rfl⟩
instance : OneT Try.prog 31 := ⟨by kernel_rfl⟩
instance : IntT Try.prog 31 .i64 := ⟨by kernel_rfl⟩
instance : ZeroT Try.prog 33 [(.val (.nilFunc))] := ⟨by kernel_rfl⟩
instance : OneT Try.prog 33 := ⟨by kernel_rfl⟩
instance : ZeroT Try.prog 34 [(.val (.int .u32 0))] := ⟨by kernel_rfl⟩
instance : OneT Try.prog 34 := ⟨by kernel_rfl⟩
instance : IntT Try.prog 34 .u32 := ⟨by kernel_rfl⟩
instance : ZeroT Try.prog 35 [(.val (.int .u32 0))] := ⟨by kernel_rfl⟩
instance : OneT Try.prog 35 := ⟨by kernel_rfl⟩
instance : IntT Try.prog 35 .u32 := ⟨by kernel_rfl⟩
instance : ZeroT Try.prog 36 [(.val (.int .i64 0)), (.val (.int .u32 0)), (.val (.int .i64 0)), (.val (.int .i64 0)), (.val (.bool false))] := ⟨by kernel_rfl⟩
instance : AggT Try.prog 36 5 := ⟨by kernel_rfl⟩
instance : FieldT Try.prog 36 0 0 0 := ⟨by kernel_rfl⟩
instance : FieldT Try.prog 36 1 1 0 := ⟨by kernel_rfl⟩
instance : FieldT Try.prog 36 2 2 0 := ⟨by kernel_rfl⟩
instance : FieldT Try.prog 36 3 3 0 := ⟨by kernel_rfl⟩
instance : FieldT Try.prog 36 4 4 0 := ⟨by kernel_rfl⟩
instance : StructT Try.prog 36 [(.int .i64 0), (.int .u32 0), (.int .i64 0), (.int .i64 0), (.bool false)] [(0, 1), (1, 1), (2, 1), (3, 1), (4, 1)] := ⟨by kernel_rfl⟩
instance : ZeroT Try.prog 37 [(.val (.int .i64 0)), (.val (.int .u32 0)), (.val (.int .i64 0)), (.val (.int .i64 0)), (.val (.bool false))] := ⟨by kernel_rfl⟩
instance : AggT Try.prog 37 5 := ⟨by kernel_rfl⟩
instance : FieldT Try.prog 37 0 0 0 := ⟨by kernel_rfl⟩
instance : FieldT Try.prog 37 1 1 0 := ⟨by kernel_rfl⟩
instance : FieldT Try.prog 37 2 2 0 := ⟨by kernel_rfl⟩
instance : FieldT Try.prog 37 3 3 0 := ⟨by kernel_rfl⟩
instance : FieldT Try.prog 37 4 4 0 := ⟨by kernel_rfl⟩
instance : StructT Try.prog 37 [(.int .i64 0), (.int .u32 0), (.int .i64 0), (.int .i64 0), (.bool false)] [(0, 1), (1, 1), (2, 1), (3, 1), (4, 1)] := ⟨by kernel_rfl⟩
instance : ZeroT Try.prog 38 [(.val (.pointer none))] := ⟨by kernel_rfl⟩
instance : OneT Try.prog 38 := ⟨by kernel_rfl⟩
instance : ZeroT Try.prog 39 [(.val (.nilFunc))] := ⟨by kernel_rfl⟩
instance : OneT Try.prog 39 := ⟨by kernel_rfl⟩
instance : ZeroT Try.prog 40 [(.val (.nilFunc))] := ⟨by kernel_rfl⟩
instance : OneT Try.prog 40 := ⟨by kernel_rfl⟩
instance : ZeroT Try.prog 41 [(.val (.nilFunc))] := ⟨by kernel_rfl⟩
instance : OneT Try.prog 41 := ⟨by kernel_rfl⟩
instance : ZeroT Try.prog 42 [(.val (.nilFunc))] := ⟨by kernel_rfl⟩
instance : OneT Try.prog 42 := ⟨by kernel_rfl⟩
instance : ZeroT Try.prog 43 [(.val (.nilFunc))] := ⟨by kernel_rfl⟩
instance : OneT Try.prog 43 := ⟨by kernel_rfl⟩
instance : ZeroT Try.prog 44 [(.val (.nilFunc))] := ⟨by kernel_rfl⟩
instance : OneT Try.prog 44 := ⟨by kernel_rfl⟩
instance : ZeroT Try.prog 45 [(.val (.map none))] := ⟨by kernel_rfl⟩
instance : OneT Try.prog 45 := ⟨by kernel_rfl⟩
instance : ZeroT Try.prog 46 [(.val (.slice none 0 0))] := ⟨by kernel_rfl⟩
instance : OneT Try.prog 46 := ⟨by kernel_rfl⟩
instance : SliceT Try.prog 46 1 := ⟨by kernel_rfl⟩
instance : ZeroT Try.prog 47 [(.val (.nilFunc))] := ⟨by kernel_rfl⟩
instance : OneT Try.prog 47 := ⟨by kernel_rfl⟩
instance : ZeroT Try.prog 49 [(.val (.nilFunc))] := ⟨by kernel_rfl⟩
instance : OneT Try.prog 49 := ⟨by kernel_rfl⟩
instance : ZeroT Try.prog 50 [(.val (.nilFunc))] := ⟨by kernel_rfl⟩
instance : OneT Try.prog 50 := ⟨by kernel_rfl⟩
instance : ZeroT Try.prog 51 [(.val (.nilFunc))] := ⟨by kernel_rfl⟩
instance : OneT Try.prog 51 := ⟨by kernel_rfl⟩
instance : ZeroT Try.prog 52 [(.val (.slice none 0 0))] := ⟨by kernel_rfl⟩
instance : OneT Try.prog 52 := ⟨by kernel_rfl⟩
instance : SliceT Try.prog 52 3 := ⟨by kernel_rfl⟩
instance : ZeroT Try.prog 53 [(.val (.int .i64 0)), (.val (.string ⟨#[]⟩)), (.val (.slice none 0 0))] := ⟨by kernel_rfl⟩
instance : AggT Try.prog 53 3 := ⟨by kernel_rfl⟩
instance : FieldT Try.prog 53 0 0 0 := ⟨by kernel_rfl⟩
instance : FieldT Try.prog 53 1 1 0 := ⟨by kernel_rfl⟩
instance : FieldT Try.prog 53 2 2 0 := ⟨by kernel_rfl⟩
instance : StructT Try.prog 53 [(.int .i64 0), (.string ⟨#[]⟩), (.slice none 0 0)] [(0, 1), (1, 1), (2, 1)] := ⟨by kernel_rfl⟩
instance : ZeroT Try.prog 54 [(.val (.int .i64 0)), (.val (.string ⟨#[]⟩)), (.val (.slice none 0 0))] := ⟨by kernel_rfl⟩
instance : AggT Try.prog 54 3 := ⟨by kernel_rfl⟩
instance : FieldT Try.prog 54 0 0 0 := ⟨by kernel_rfl⟩
instance : FieldT Try.prog 54 1 1 0 := ⟨by kernel_rfl⟩
instance : FieldT Try.prog 54 2 2 0 := ⟨by kernel_rfl⟩
instance : StructT Try.prog 54 [(.int .i64 0), (.string ⟨#[]⟩), (.slice none 0 0)] [(0, 1), (1, 1), (2, 1)] := ⟨by kernel_rfl⟩
instance : ZeroT Try.prog 55 [(.val (.nilFunc))] := ⟨by kernel_rfl⟩
instance : OneT Try.prog 55 := ⟨by kernel_rfl⟩
instance : ZeroT Try.prog 56 [(.val (.nilFunc))] := ⟨by kernel_rfl⟩
instance : OneT Try.prog 56 := ⟨by kernel_rfl⟩
instance : ZeroT Try.prog 57 [(.val (.map none))] := ⟨by kernel_rfl⟩
instance : OneT Try.prog 57 := ⟨by kernel_rfl⟩
instance : ZeroT Try.prog 58 [(.val (.slice none 0 0))] := ⟨by kernel_rfl⟩
instance : OneT Try.prog 58 := ⟨by kernel_rfl⟩
instance : SliceT Try.prog 58 1 := ⟨by kernel_rfl⟩
instance : ZeroT Try.prog 59 [(.val (.int .i64 0)), (.val (.slice none 0 0)), (.val (.int .i64 0)), (.val (.int .i64 0)), (.val (.slice none 0 0)), (.val (.map none))] := ⟨by kernel_rfl⟩
instance : AggT Try.prog 59 6 := ⟨by kernel_rfl⟩
instance : FieldT Try.prog 59 0 0 1 := ⟨by kernel_rfl⟩
instance : FieldT Try.prog 59 1 2 0 := ⟨by kernel_rfl⟩
instance : FieldT Try.prog 59 2 3 0 := ⟨by kernel_rfl⟩
instance : FieldT Try.prog 59 3 4 0 := ⟨by kernel_rfl⟩
instance : FieldT Try.prog 59 4 5 0 := ⟨by kernel_rfl⟩
instance : StructT Try.prog 59 [(.int .i64 0), (.slice none 0 0), (.int .i64 0), (.int .i64 0), (.slice none 0 0), (.map none)] [(0, 2), (2, 1), (3, 1), (4, 1), (5, 1)] := ⟨by kernel_rfl⟩
instance : ZeroT Try.prog 60 [(.val (.int .i64 0)), (.val (.slice none 0 0)), (.val (.int .i64 0)), (.val (.int .i64 0)), (.val (.slice none 0 0)), (.val (.map none))] := ⟨by kernel_rfl⟩
instance : AggT Try.prog 60 6 := ⟨by kernel_rfl⟩
instance : FieldT Try.prog 60 0 0 1 := ⟨by kernel_rfl⟩
instance : FieldT Try.prog 60 1 2 0 := ⟨by kernel_rfl⟩
instance : FieldT Try.prog 60 2 3 0 := ⟨by kernel_rfl⟩
instance : FieldT Try.prog 60 3 4 0 := ⟨by kernel_rfl⟩
instance : FieldT Try.prog 60 4 5 0 := ⟨by kernel_rfl⟩
instance : StructT Try.prog 60 [(.int .i64 0), (.slice none 0 0), (.int .i64 0), (.int .i64 0), (.slice none 0 0), (.map none)] [(0, 2), (2, 1), (3, 1), (4, 1), (5, 1)] := ⟨by kernel_rfl⟩
instance : ZeroT Try.prog 61 [(.val (.nilFunc))] := ⟨by kernel_rfl⟩
instance : OneT Try.prog 61 := ⟨by kernel_rfl⟩
instance : ZeroT Try.prog 62 [(.val (.slice none 0 0))] := ⟨by kernel_rfl⟩
instance : OneT Try.prog 62 := ⟨by kernel_rfl⟩
instance : SliceT Try.prog 62 1 := ⟨by kernel_rfl⟩
instance : ZeroT Try.prog 63 [(.val (.slice none 0 0))] := ⟨by kernel_rfl⟩
instance : OneT Try.prog 63 := ⟨by kernel_rfl⟩
instance : SliceT Try.prog 63 1 := ⟨by kernel_rfl⟩
instance : ZeroT Try.prog 64 [(.val (.int .u32 0)), (.val (.int .i64 0)), (.val (.int .i64 0)), (.val (.slice none 0 0)), (.val (.int .i64 0)), (.val (.slice none 0 0)), (.val (.slice none 0 0))] := ⟨by kernel_rfl⟩
instance : AggT Try.prog 64 7 := ⟨by kernel_rfl⟩
instance : FieldT Try.prog 64 0 0 0 := ⟨by kernel_rfl⟩
instance : FieldT Try.prog 64 1 1 0 := ⟨by kernel_rfl⟩
instance : FieldT Try.prog 64 2 2 0 := ⟨by kernel_rfl⟩
instance : FieldT Try.prog 64 3 3 0 := ⟨by kernel_rfl⟩
instance : FieldT Try.prog 64 4 4 1 := ⟨by kernel_rfl⟩
instance : FieldT Try.prog 64 5 6 0 := ⟨by kernel_rfl⟩
instance : StructT Try.prog 64 [(.int .u32 0), (.int .i64 0), (.int .i64 0), (.slice none 0 0), (.int .i64 0), (.slice none 0 0), (.slice none 0 0)] [(0, 1), (1, 1), (2, 1), (3, 1), (4, 2), (6, 1)] := ⟨by kernel_rfl⟩
instance : ZeroT Try.prog 65 [(.val (.int .u32 0)), (.val (.int .i64 0)), (.val (.int .i64 0)), (.val (.slice none 0 0)), (.val (.int .i64 0)), (.val (.slice none 0 0)), (.val (.slice none 0 0))] := ⟨by kernel_rfl⟩
instance : AggT Try.prog 65 7 := ⟨by kernel_rfl⟩
instance : FieldT Try.prog 65 0 0 0 := ⟨by kernel_rfl⟩
instance : FieldT Try.prog 65 1 1 0 := ⟨by kernel_rfl⟩
instance : FieldT Try.prog 65 2 2 0 := ⟨by kernel_rfl⟩
instance : FieldT Try.prog 65 3 3 0 := ⟨by kernel_rfl⟩
instance : FieldT Try.prog 65 4 4 1 := ⟨by kernel_rfl⟩
instance : FieldT Try.prog 65 5 6 0 := ⟨by kernel_rfl⟩
instance : StructT Try.prog 65 [(.int .u32 0), (.int .i64 0), (.int .i64 0), (.slice none 0 0), (.int .i64 0), (.slice none 0 0), (.slice none 0 0)] [(0, 1), (1, 1), (2, 1), (3, 1), (4, 2), (6, 1)] := ⟨by kernel_rfl⟩
instance : ZeroT Try.prog 66 [(.val (.int .i64 0)), (.val (.int .i64 0)), (.val (.bool false))] := ⟨by kernel_rfl⟩
instance : AggT Try.prog 66 3 := ⟨by kernel_rfl⟩
instance : FieldT Try.prog 66 0 0 0 := ⟨by kernel_rfl⟩
instance : FieldT Try.prog 66 1 1 0 := ⟨by kernel_rfl⟩
instance : FieldT Try.prog 66 2 2 0 := ⟨by kernel_rfl⟩
instance : StructT Try.prog 66 [(.int .i64 0), (.int .i64 0), (.bool false)] [(0, 1), (1, 1), (2, 1)] := ⟨by kernel_rfl⟩
instance : ZeroT Try.prog 67 [(.val (.int .i64 0)), (.val (.int .i64 0)), (.val (.bool false))] := ⟨by kernel_rfl⟩
instance : AggT Try.prog 67 3 := ⟨by kernel_rfl⟩
instance : FieldT Try.prog 67 0 0 0 := ⟨by kernel_rfl⟩
instance : FieldT Try.prog 67 1 1 0 := ⟨by kernel_rfl⟩
instance : FieldT Try.prog 67 2 2 0 := ⟨by kernel_rfl⟩
instance : StructT Try.prog 67 [(.int .i64 0), (.int .i64 0), (.bool false)] [(0, 1), (1, 1), (2, 1)] := ⟨by kernel_rfl⟩
instance : ZeroT Try.prog 68 [(.val (.nilFunc))] := ⟨by kernel_rfl⟩
instance : OneT Try.prog 68 := ⟨by kernel_rfl⟩
instance : ZeroT Try.prog 69 [(.val (.nilFunc))] := ⟨by kernel_rfl⟩
instance : OneT Try.prog 69 := ⟨by kernel_rfl⟩
instance : ZeroT Try.prog 70 [(.val (.nilFunc))] := ⟨by kernel_rfl⟩
instance : OneT Try.prog 70 := ⟨by kernel_rfl⟩
instance : ZeroT Try.prog 71 [(.val (.nilFunc))] := ⟨by kernel_rfl⟩
instance : OneT Try.prog 71 := ⟨by kernel_rfl⟩
instance : ZeroT Try.prog 72 [(.val (.nilFunc))] := ⟨by kernel_rfl⟩
instance : OneT Try.prog 72 := ⟨by kernel_rfl⟩
instance : ZeroT Try.prog 73 [(.val (.map none))] := ⟨by kernel_rfl⟩
instance : OneT Try.prog 73 := ⟨by kernel_rfl⟩
instance : ZeroT Try.prog 74 [(.val (.map none))] := ⟨by kernel_rfl⟩
instance : OneT Try.prog 74 := ⟨by kernel_rfl⟩
instance : ZeroT Try.prog 75 [(.val (.nilFunc))] := ⟨by kernel_rfl⟩
instance : OneT Try.prog 75 := ⟨by kernel_rfl⟩
instance : ZeroT Try.prog 76 [(.val (.nilFunc))] := ⟨by kernel_rfl⟩
instance : OneT Try.prog 76 := ⟨by kernel_rfl⟩
instance : ZeroT Try.prog 77 [(.val (.nilFunc))] := ⟨by kernel_rfl⟩
instance : OneT Try.prog 77 := ⟨by kernel_rfl⟩
instance : ZeroT Try.prog 78 [(.val (.nilFunc))] := ⟨by kernel_rfl⟩
instance : OneT Try.prog 78 := ⟨by kernel_rfl⟩
instance : ZeroT Try.prog 79 [(.val (.nilFunc))] := ⟨by kernel_rfl⟩
instance : OneT Try.prog 79 := ⟨by kernel_rfl⟩
instance : ZeroT Try.prog 80 [(.val (.slice none 0 0))] := ⟨by kernel_rfl⟩
instance : OneT Try.prog 80 := ⟨by kernel_rfl⟩
instance : SliceT Try.prog 80 1 := ⟨by kernel_rfl⟩
instance : ZeroT Try.prog 81 [(.val (.int .i64 0)), (.val (.slice none 0 0))] := ⟨by kernel_rfl⟩
instance : AggT Try.prog 81 2 := ⟨by kernel_rfl⟩
instance : FieldT Try.prog 81 0 0 0 := ⟨by kernel_rfl⟩
instance : FieldT Try.prog 81 1 1 0 := ⟨by kernel_rfl⟩
instance : StructT Try.prog 81 [(.int .i64 0), (.slice none 0 0)] [(0, 1), (1, 1)] := ⟨by kernel_rfl⟩
instance : ZeroT Try.prog 82 [(.val (.int .i64 0)), (.val (.slice none 0 0))] := ⟨by kernel_rfl⟩
instance : AggT Try.prog 82 2 := ⟨by kernel_rfl⟩
instance : FieldT Try.prog 82 0 0 0 := ⟨by kernel_rfl⟩
instance : FieldT Try.prog 82 1 1 0 := ⟨by kernel_rfl⟩
instance : StructT Try.prog 82 [(.int .i64 0), (.slice none 0 0)] [(0, 1), (1, 1)] := ⟨by kernel_rfl⟩
instance : ZeroT Try.prog 84 [(.val (.nilFunc))] := ⟨by kernel_rfl⟩
instance : OneT Try.prog 84 := ⟨by kernel_rfl⟩
instance : ZeroT Try.prog 85 [(.val (.pointer none))] := ⟨by kernel_rfl⟩
instance : OneT Try.prog 85 := ⟨by kernel_rfl⟩
instance : ZeroT Try.prog 86 [(.val (.nilFunc))] := ⟨by kernel_rfl⟩
instance : OneT Try.prog 86 := ⟨by kernel_rfl⟩
instance : ZeroT Try.prog 88 [(.val (.nilFunc))] := ⟨by kernel_rfl⟩
instance : OneT Try.prog 88 := ⟨by kernel_rfl⟩
instance : ZeroT Try.prog 89 [(.val (.nilFunc))] := ⟨by kernel_rfl⟩
instance : OneT Try.prog 89 := ⟨by kernel_rfl⟩
instance : ZeroT Try.prog 90 [] := ⟨by kernel_rfl⟩
instance : AggT Try.prog 90 0 := ⟨by kernel_rfl⟩
instance : StructT Try.prog 90 [] [] := ⟨by kernel_rfl⟩
instance : ZeroT Try.prog 92 [(.val (.int .i64 0))] := ⟨by kernel_rfl⟩
instance : OneT Try.prog 92 := ⟨by kernel_rfl⟩
instance : IntT Try.prog 92 .i64 := ⟨by kernel_rfl⟩
instance : ZeroT Try.prog 93 [(.val (.string ⟨#[]⟩)), (.val (.int .i64 0)), (.val (.int .i64 0))] := ⟨by kernel_rfl⟩
instance : AggT Try.prog 93 3 := ⟨by kernel_rfl⟩
instance : FieldT Try.prog 93 0 0 0 := ⟨by kernel_rfl⟩
instance : FieldT Try.prog 93 1 1 0 := ⟨by kernel_rfl⟩
instance : FieldT Try.prog 93 2 2 0 := ⟨by kernel_rfl⟩
instance : StructT Try.prog 93 [(.string ⟨#[]⟩), (.int .i64 0), (.int .i64 0)] [(0, 1), (1, 1), (2, 1)] := ⟨by kernel_rfl⟩
instance : ZeroT Try.prog 94 [(.val (.string ⟨#[]⟩)), (.val (.int .i64 0)), (.val (.int .i64 0))] := ⟨by kernel_rfl⟩
instance : AggT Try.prog 94 3 := ⟨by kernel_rfl⟩
instance : FieldT Try.prog 94 0 0 0 := ⟨by kernel_rfl⟩
instance : FieldT Try.prog 94 1 1 0 := ⟨by kernel_rfl⟩
instance : FieldT Try.prog 94 2 2 0 := ⟨by kernel_rfl⟩
instance : StructT Try.prog 94 [(.string ⟨#[]⟩), (.int .i64 0), (.int .i64 0)] [(0, 1), (1, 1), (2, 1)] := ⟨by kernel_rfl⟩
instance : ZeroT Try.prog 95 [(.val (.nilFunc))] := ⟨by kernel_rfl⟩
instance : OneT Try.prog 95 := ⟨by kernel_rfl⟩
instance : ZeroT Try.prog 97 [(.val (.nilFunc))] := ⟨by kernel_rfl⟩
instance : OneT Try.prog 97 := ⟨by kernel_rfl⟩
instance : ZeroT Try.prog 98 [(.val (.nilFunc))] := ⟨by kernel_rfl⟩
instance : OneT Try.prog 98 := ⟨by kernel_rfl⟩
instance : ZeroT Try.prog 99 [(.val (.nilFunc))] := ⟨by kernel_rfl⟩
instance : OneT Try.prog 99 := ⟨by kernel_rfl⟩
instance : ZeroT Try.prog 100 [(.val (.nilFunc))] := ⟨by kernel_rfl⟩
instance : OneT Try.prog 100 := ⟨by kernel_rfl⟩
instance : ZeroT Try.prog 101 [(.val (.nilFunc))] := ⟨by kernel_rfl⟩
instance : OneT Try.prog 101 := ⟨by kernel_rfl⟩
instance : ZeroT Try.prog 102 [(.val (.nilFunc))] := ⟨by kernel_rfl⟩
instance : OneT Try.prog 102 := ⟨by kernel_rfl⟩
instance : ZeroT Try.prog 103 [(.val (.nilFunc))] := ⟨by kernel_rfl⟩
instance : OneT Try.prog 103 := ⟨by kernel_rfl⟩
instance : ZeroT Try.prog 104 [(.val (.nilFunc))] := ⟨by kernel_rfl⟩
instance : OneT Try.prog 104 := ⟨by kernel_rfl⟩
instance : ZeroT Try.prog 105 [(.val (.slice none 0 0))] := ⟨by kernel_rfl⟩
instance : OneT Try.prog 105 := ⟨by kernel_rfl⟩
instance : SliceT Try.prog 105 1 := ⟨by kernel_rfl⟩
instance : ZeroT Try.prog 106 [(.val (.int .i64 0)), (.val (.int .i64 0)), (.val (.int .i64 0)), (.val (.slice none 0 0))] := ⟨by kernel_rfl⟩
instance : AggT Try.prog 106 4 := ⟨by kernel_rfl⟩
instance : FieldT Try.prog 106 0 0 0 := ⟨by kernel_rfl⟩
instance : FieldT Try.prog 106 1 1 0 := ⟨by kernel_rfl⟩
instance : FieldT Try.prog 106 2 2 0 := ⟨by kernel_rfl⟩
instance : FieldT Try.prog 106 3 3 0 := ⟨by kernel_rfl⟩
instance : StructT Try.prog 106 [(.int .i64 0), (.int .i64 0), (.int .i64 0), (.slice none 0 0)] [(0, 1), (1, 1), (2, 1), (3, 1)] := ⟨by kernel_rfl⟩
instance : ZeroT Try.prog 107 [(.val (.int .i64 0)), (.val (.int .i64 0)), (.val (.int .i64 0)), (.val (.slice none 0 0))] := ⟨by kernel_rfl⟩
instance : AggT Try.prog 107 4 := ⟨by kernel_rfl⟩
instance : FieldT Try.prog 107 0 0 0 := ⟨by kernel_rfl⟩
instance : FieldT Try.prog 107 1 1 0 := ⟨by kernel_rfl⟩
instance : FieldT Try.prog 107 2 2 0 := ⟨by kernel_rfl⟩
instance : FieldT Try.prog 107 3 3 0 := ⟨by kernel_rfl⟩
instance : StructT Try.prog 107 [(.int .i64 0), (.int .i64 0), (.int .i64 0), (.slice none 0 0)] [(0, 1), (1, 1), (2, 1), (3, 1)] := ⟨by kernel_rfl⟩
instance : ZeroT Try.prog 108 [(.val (.nilFunc))] := ⟨by kernel_rfl⟩
instance : OneT Try.prog 108 := ⟨by kernel_rfl⟩
instance : ZeroT Try.prog 109 [(.val (.nilFunc))] := ⟨by kernel_rfl⟩
instance : OneT Try.prog 109 := ⟨by kernel_rfl⟩
instance : ZeroT Try.prog 110 [(.val (.nilFunc))] := ⟨by kernel_rfl⟩
instance : OneT Try.prog 110 := ⟨by kernel_rfl⟩
instance : ZeroT Try.prog 111 [(.val (.int .u64 0))] := ⟨by kernel_rfl⟩
instance : OneT Try.prog 111 := ⟨by kernel_rfl⟩
instance : IntT Try.prog 111 .u64 := ⟨by kernel_rfl⟩
instance : ZeroT Try.prog 112 [(.val (.string ⟨#[]⟩)), (.val (.int .i64 0)), (.val (.int .u64 0)), (.val (.int .u64 0))] := ⟨by kernel_rfl⟩
instance : AggT Try.prog 112 4 := ⟨by kernel_rfl⟩
instance : FieldT Try.prog 112 0 0 0 := ⟨by kernel_rfl⟩
instance : FieldT Try.prog 112 1 1 0 := ⟨by kernel_rfl⟩
instance : FieldT Try.prog 112 2 2 0 := ⟨by kernel_rfl⟩
instance : FieldT Try.prog 112 3 3 0 := ⟨by kernel_rfl⟩
instance : StructT Try.prog 112 [(.string ⟨#[]⟩), (.int .i64 0), (.int .u64 0), (.int .u64 0)] [(0, 1), (1, 1), (2, 1), (3, 1)] := ⟨by kernel_rfl⟩
instance : ZeroT Try.prog 113 [(.val (.string ⟨#[]⟩)), (.val (.int .i64 0)), (.val (.int .u64 0)), (.val (.int .u64 0))] := ⟨by kernel_rfl⟩
instance : AggT Try.prog 113 4 := ⟨by kernel_rfl⟩
instance : FieldT Try.prog 113 0 0 0 := ⟨by kernel_rfl⟩
instance : FieldT Try.prog 113 1 1 0 := ⟨by kernel_rfl⟩
instance : FieldT Try.prog 113 2 2 0 := ⟨by kernel_rfl⟩
instance : FieldT Try.prog 113 3 3 0 := ⟨by kernel_rfl⟩
instance : StructT Try.prog 113 [(.string ⟨#[]⟩), (.int .i64 0), (.int .u64 0), (.int .u64 0)] [(0, 1), (1, 1), (2, 1), (3, 1)] := ⟨by kernel_rfl⟩
instance : ZeroT Try.prog 114 [(.val (.nilFunc))] := ⟨by kernel_rfl⟩
instance : OneT Try.prog 114 := ⟨by kernel_rfl⟩
instance : ZeroT Try.prog 115 [(.val (.nilFunc))] := ⟨by kernel_rfl⟩
instance : OneT Try.prog 115 := ⟨by kernel_rfl⟩
instance : ZeroT Try.prog 116 [(.val (.pointer none)), (.val (.pointer none)), (.val (.pointer none)), (.val (.string ⟨#[]⟩))] := ⟨by kernel_rfl⟩
instance : AggT Try.prog 116 4 := ⟨by kernel_rfl⟩
instance : FieldT Try.prog 116 0 0 0 := ⟨by kernel_rfl⟩
instance : FieldT Try.prog 116 1 1 0 := ⟨by kernel_rfl⟩
instance : FieldT Try.prog 116 2 2 0 := ⟨by kernel_rfl⟩
instance : FieldT Try.prog 116 3 3 0 := ⟨by kernel_rfl⟩
instance : StructT Try.prog 116 [(.pointer none), (.pointer none), (.pointer none), (.string ⟨#[]⟩)] [(0, 1), (1, 1), (2, 1), (3, 1)] := ⟨by kernel_rfl⟩
instance : ZeroT Try.prog 117 [(.val (.pointer none)), (.val (.pointer none)), (.val (.pointer none)), (.val (.string ⟨#[]⟩))] := ⟨by kernel_rfl⟩
instance : AggT Try.prog 117 4 := ⟨by kernel_rfl⟩
instance : FieldT Try.prog 117 0 0 0 := ⟨by kernel_rfl⟩
instance : FieldT Try.prog 117 1 1 0 := ⟨by kernel_rfl⟩
instance : FieldT Try.prog 117 2 2 0 := ⟨by kernel_rfl⟩
instance : FieldT Try.prog 117 3 3 0 := ⟨by kernel_rfl⟩
instance : StructT Try.prog 117 [(.pointer none), (.pointer none), (.pointer none), (.string ⟨#[]⟩)] [(0, 1), (1, 1), (2, 1), (3, 1)] := ⟨by kernel_rfl⟩
instance : ZeroT Try.prog 118 [] := ⟨by kernel_rfl⟩
instance : AggT Try.prog 118 0 := ⟨by kernel_rfl⟩
instance : ArrT Try.prog 118 0 1 := ⟨by kernel_rfl⟩
instance : ZeroT Try.prog 119 [] := ⟨by kernel_rfl⟩
instance : AggT Try.prog 119 0 := ⟨by kernel_rfl⟩
instance : StructT Try.prog 119 [] [(0, 0)] := ⟨by kernel_rfl⟩
instance : ZeroT Try.prog 120 [] := ⟨by kernel_rfl⟩
instance : AggT Try.prog 120 0 := ⟨by kernel_rfl⟩
instance : StructT Try.prog 120 [] [(0, 0)] := ⟨by kernel_rfl⟩
instance : ZeroT Try.prog 121 [(.val (.int .u8 0))] := ⟨by kernel_rfl⟩
instance : OneT Try.prog 121 := ⟨by kernel_rfl⟩
instance : IntT Try.prog 121 .u8 := ⟨by kernel_rfl⟩
instance : ZeroT Try.prog 122 [(.val (.int .u8 0))] := ⟨by kernel_rfl⟩
instance : OneT Try.prog 122 := ⟨by kernel_rfl⟩
instance : IntT Try.prog 122 .u8 := ⟨by kernel_rfl⟩
instance : ZeroT Try.prog 123 [(.val (.nilFunc))] := ⟨by kernel_rfl⟩
instance : OneT Try.prog 123 := ⟨by kernel_rfl⟩
instance : ZeroT Try.prog 124 [(.val (.pointer none))] := ⟨by kernel_rfl⟩
instance : OneT Try.prog 124 := ⟨by kernel_rfl⟩
instance : ZeroT Try.prog 125 [(.val (.int .i32 0))] := ⟨by kernel_rfl⟩
instance : OneT Try.prog 125 := ⟨by kernel_rfl⟩
instance : IntT Try.prog 125 .i32 := ⟨by kernel_rfl⟩
instance : ZeroT Try.prog 126 [(.val (.int .i32 0))] := ⟨by kernel_rfl⟩
instance : OneT Try.prog 126 := ⟨by kernel_rfl⟩
instance : IntT Try.prog 126 .i32 := ⟨by kernel_rfl⟩
instance : ZeroT Try.prog 127 [(.val (.int .u64 0)), (.val (.int .u64 0)), (.val (.int .u32 0)), (.val (.int .u8 0)), (.val (.int .u8 0)), (.val (.int .u8 0)), (.val (.int .u8 0)), (.val (.nilFunc)), (.val (.pointer none)), (.val (.int .i32 0)), (.val (.int .i32 0))] := ⟨by kernel_rfl⟩
instance : AggT Try.prog 127 11 := ⟨by kernel_rfl⟩
instance : FieldT Try.prog 127 0 0 0 := ⟨by kernel_rfl⟩
instance : FieldT Try.prog 127 1 1 0 := ⟨by kernel_rfl⟩
instance : FieldT Try.prog 127 2 2 0 := ⟨by kernel_rfl⟩
instance : FieldT Try.prog 127 3 3 0 := ⟨by kernel_rfl⟩
instance : FieldT Try.prog 127 4 4 0 := ⟨by kernel_rfl⟩
instance : FieldT Try.prog 127 5 5 0 := ⟨by kernel_rfl⟩
instance : FieldT Try.prog 127 6 6 0 := ⟨by kernel_rfl⟩
instance : FieldT Try.prog 127 7 7 0 := ⟨by kernel_rfl⟩
instance : FieldT Try.prog 127 8 8 0 := ⟨by kernel_rfl⟩
instance : FieldT Try.prog 127 9 9 0 := ⟨by kernel_rfl⟩
instance : FieldT Try.prog 127 10 10 0 := ⟨by kernel_rfl⟩
instance : StructT Try.prog 127 [(.int .u64 0), (.int .u64 0), (.int .u32 0), (.int .u8 0), (.int .u8 0), (.int .u8 0), (.int .u8 0), (.nilFunc), (.pointer none), (.int .i32 0), (.int .i32 0)] [(0, 1), (1, 1), (2, 1), (3, 1), (4, 1), (5, 1), (6, 1), (7, 1), (8, 1), (9, 1), (10, 1)] := ⟨by kernel_rfl⟩
instance : ZeroT Try.prog 128 [(.val (.int .u64 0)), (.val (.int .u64 0)), (.val (.int .u32 0)), (.val (.int .u8 0)), (.val (.int .u8 0)), (.val (.int .u8 0)), (.val (.int .u8 0)), (.val (.nilFunc)), (.val (.pointer none)), (.val (.int .i32 0)), (.val (.int .i32 0))] := ⟨by kernel_rfl⟩
instance : AggT Try.prog 128 11 := ⟨by kernel_rfl⟩
instance : FieldT Try.prog 128 0 0 0 := ⟨by kernel_rfl⟩
instance : FieldT Try.prog 128 1 1 0 := ⟨by kernel_rfl⟩
instance : FieldT Try.prog 128 2 2 0 := ⟨by kernel_rfl⟩
instance : FieldT Try.prog 128 3 3 0 := ⟨by kernel_rfl⟩
instance : FieldT Try.prog 128 4 4 0 := ⟨by kernel_rfl⟩
instance : FieldT Try.prog 128 5 5 0 := ⟨by kernel_rfl⟩
instance : FieldT Try.prog 128 6 6 0 := ⟨by kernel_rfl⟩
instance : FieldT Try.prog 128 7 7 0 := ⟨by kernel_rfl⟩
instance : FieldT Try.prog 128 8 8 0 := ⟨by kernel_rfl⟩
instance : FieldT Try.prog 128 9 9 0 := ⟨by kernel_rfl⟩
instance : FieldT Try.prog 128 10 10 0 := ⟨by kernel_rfl⟩
instance : StructT Try.prog 128 [(.int .u64 0), (.int .u64 0), (.int .u32 0), (.int .u8 0), (.int .u8 0), (.int .u8 0), (.int .u8 0), (.nilFunc), (.pointer none), (.int .i32 0), (.int .i32 0)] [(0, 1), (1, 1), (2, 1), (3, 1), (4, 1), (5, 1), (6, 1), (7, 1), (8, 1), (9, 1), (10, 1)] := ⟨by kernel_rfl⟩
instance : ZeroT Try.prog 129 [(.val (.int .u64 0))] := ⟨by kernel_rfl⟩
instance : OneT Try.prog 129 := ⟨by kernel_rfl⟩
instance : IntT Try.prog 129 .u64 := ⟨by kernel_rfl⟩
instance : ZeroT Try.prog 130 [(.val (.slice none 0 0))] := ⟨by kernel_rfl⟩
instance : OneT Try.prog 130 := ⟨by kernel_rfl⟩
instance : SliceT Try.prog 130 1 := ⟨by kernel_rfl⟩
end Go.Proofs.Ytjifibloagkeeaa
end
section
namespace Go.Lg
open Go Go.RowKit
theorem str_at {l : List UInt8} {i : Nat} {b : UInt8} (h : l[i]? = some b) : (⟨l.toArray⟩ : ByteArray)[i]? = some b := by
  obtain ⟨hi, h⟩ := List.getElem?_eq_some_iff.1 h
  have hs : i < (⟨l.toArray⟩ : ByteArray).size := by simpa [ByteArray.size] using hi
  rw [getElem?_pos _ i hs]
  exact congrArg some h
end Go.Lg
namespace Go.Proofs.Ytjifibloagkeeaa
open Go Go.Lg
abbrev Lb (b : Bool) : LV := .sv (.one (.val (.bool b)))
abbrev Ln (k : IntKind) (n : Int) : LV := .sv (.one (.val (.int k n)))
abbrev Ls (l : List UInt8) : LV := .sv (.one (.val (.string ⟨l.toArray⟩)))
abbrev Sb (b : Bool) : SV := .one (.val (.bool b))
abbrev Sn (k : IntKind) (n : Int) : SV := .one (.val (.int k n))
abbrev Ss (l : List UInt8) : SV := .one (.val (.string ⟨l.toArray⟩))
abbrev Lp (k : Nat) : LV := .sv (.one (.ptr k 0))
abbrev vs (l : List UInt8) : CV := .val (.string ⟨l.toArray⟩)
end Go.Proofs.Ytjifibloagkeeaa
end
section
namespace Go.Proofs.Ytjifibloagkeeaa
open Go Go.Lg
def In2 (N : Int) : Prop := 0 ≤ N ∧ N < 340282366920938463463374607431768211456
variable (X : Nat → Option Obj)
def formB (b : Bool) (N : Int) : Bool := decide (N < 170141183460469231731687303715884105728) && !(b && N == 0)
end Go.Proofs.Ytjifibloagkeeaa
end
section
namespace Go.Proofs.Ytjifibloagkeeaa
open Go Go.Lg
variable (X : Nat → Option Obj)
end Go.Proofs.Ytjifibloagkeeaa
end
section
namespace Go.Proofs.Ytjifibloagkeeaa
open Go Go.Lg
variable (X : Nat → Option Obj)
def Lim (N : Int) : Prop := 0 ≤ N ∧ N < 170141183460469231731687303715884105728
theorem Lim.in2 {N : Int} (h : Lim N) : In2 N := ⟨h.1, by have := h.2; omega⟩
end Go.Proofs.Ytjifibloagkeeaa
end
section
namespace Go.Proofs.Ytjifibloagkeeaa
open Go Go.Lg
variable (X : Nat → Option Obj)
def zv (b : Bool) (N : Int) : Int := if b = true then -N else N
end Go.Proofs.Ytjifibloagkeeaa
end
section
namespace Go.Proofs.Ytjifibloagkeeaa
open Go Go.Lg Go.Lg.Arith Go.RowKit
variable (X : Nat → Option Obj)
end Go.Proofs.Ytjifibloagkeeaa
end
section
namespace Go.Proofs.Ytjifibloagkeeaa
open Go Go.Lg
variable (X : Nat → Option Obj)
end Go.Proofs.Ytjifibloagkeeaa
end
section
namespace Go.Lg
open Go
def le : List UInt8 → Nat
  | [] => 0
  | c :: t => c.toNat + 256 * le t
def leB : Nat → Nat → List UInt8
  | 0, _ => []
  | k + 1, n => UInt8.ofNat (n % 256) :: leB k (n / 256)
theorem leB_length : ∀ (k n : Nat), (leB k n).length = k
  | 0, _ => rfl
  | k + 1, n => by simp [leB, leB_length k]
def lo (w n i : Nat) : List UInt8 := (leB w n).take i ++ List.replicate (w - i) 0
end Go.Lg
namespace Go.Proofs.Ytjifibloagkeeaa
open Go Go.Lg
variable (X : Nat → Option Obj)
end Go.Proofs.Ytjifibloagkeeaa
end
section
namespace Go.Proofs.Ytjifibloagkeeaa
open Go Go.Lg
variable (X : Nat → Option Obj)
end Go.Proofs.Ytjifibloagkeeaa
end
section
namespace Go.Proofs.Ytjifibloagkeeaa
open Go Go.Lg
variable (X : Nat → Option Obj)
end Go.Proofs.Ytjifibloagkeeaa
end
section
namespace Go.Proofs.Ytjifibloagkeeaa
open Go Go.Lg
variable (X : Nat → Option Obj)
end Go.Proofs.Ytjifibloagkeeaa
end
section
namespace Go.Proofs.Ytjifibloagkeeaa
open Go Go.Lg
variable (X : Nat → Option Obj)
end Go.Proofs.Ytjifibloagkeeaa
end
section
namespace Go.Proofs.Ytjifibloagkeeaa
open Go Go.Lg
variable (X : Nat → Option Obj)
end Go.Proofs.Ytjifibloagkeeaa
end
section
namespace Go.Lg.Fld
open Go Go.Lg
def kN (k : Int) : List UInt8 := if k = 1 then [98, 111, 111, 108] else if k = 2 then [105, 56] else if k = 3 then [105, 49, 54] else if k = 4 then [105, 51, 50] else if k = 5 then [105, 54, 52] else if k = 6 then [117, 56] else if k = 7 then [117, 49, 54] else if k = 8 then [117, 51, 50] else if k = 9 then [117, 54, 52] else if k = 10 then [114, 101, 102] else []
def kW (k : Int) : Nat := if k = 1 then 1 else if k = 2 then 1 else if k = 3 then 2 else if k = 4 then 4 else if k = 5 then 8 else if k = 6 then 1 else if k = 7 then 2 else if k = 8 then 4 else if k = 9 then 8 else if k = 10 then 8 else 0
def kB (k : Int) : Int := if k = 1 then 0 else if k = 2 then 128 else if k = 3 then 32768 else if k = 4 then 2147483648 else if k = 5 then 9223372036854775808 else if k = 6 then 0 else if k = 7 then 0 else if k = 8 then 0 else if k = 9 then 0 else if k = 10 then 0 else 0
def kA (k : Int) : Int := if k = 1 then 1 else if k = 2 then 127 else if k = 3 then 32767 else if k = 4 then 2147483647 else if k = 5 then 9223372036854775807 else if k = 6 then 255 else if k = 7 then 65535 else if k = 8 then 4294967295 else if k = 9 then 18446744073709551615 else if k = 10 then 18446744073709551615 else 0
def kK (k : Int) : Bool := decide (1 ≤ k) && decide (k ≤ 10)
theorem kcases (k : Int) : k = 1 ∨ k = 2 ∨ k = 3 ∨ k = 4 ∨ k = 5 ∨ k = 6 ∨ k = 7 ∨ k = 8 ∨ k = 9 ∨ k = 10 ∨ (k < 1 ∨ 10 < k) := by omega
theorem kin {k : Int} (h : kK k = true) : k = 1 ∨ k = 2 ∨ k = 3 ∨ k = 4 ∨ k = 5 ∨ k = 6 ∨ k = 7 ∨ k = 8 ∨ k = 9 ∨ k = 10 := by
  simp only [kK, Bool.and_eq_true, decide_eq_true_eq] at h; omega
theorem knot {k : Int} (h : kK k = false) : k < 1 ∨ 10 < k := by
  by_cases h1 : 1 ≤ k <;> by_cases h2 : k ≤ 10 <;> first | omega | (rw [kK, decide_eq_true h1, decide_eq_true h2] at h; cases h)
theorem kN_no {k : Int} (h : k < 1 ∨ 10 < k) : kN k = [] := by
  unfold kN
  rw [if_neg (show ¬ k = 1 by omega), if_neg (show ¬ k = 2 by omega), if_neg (show ¬ k = 3 by omega), if_neg (show ¬ k = 4 by omega), if_neg (show ¬ k = 5 by omega), if_neg (show ¬ k = 6 by omega), if_neg (show ¬ k = 7 by omega), if_neg (show ¬ k = 8 by omega), if_neg (show ¬ k = 9 by omega), if_neg (show ¬ k = 10 by omega)]
theorem kW_no {k : Int} (h : k < 1 ∨ 10 < k) : kW k = 0 := by
  unfold kW
  rw [if_neg (show ¬ k = 1 by omega), if_neg (show ¬ k = 2 by omega), if_neg (show ¬ k = 3 by omega), if_neg (show ¬ k = 4 by omega), if_neg (show ¬ k = 5 by omega), if_neg (show ¬ k = 6 by omega), if_neg (show ¬ k = 7 by omega), if_neg (show ¬ k = 8 by omega), if_neg (show ¬ k = 9 by omega), if_neg (show ¬ k = 10 by omega)]
theorem kB_no {k : Int} (h : k < 1 ∨ 10 < k) : kB k = 0 := by
  unfold kB
  rw [if_neg (show ¬ k = 1 by omega), if_neg (show ¬ k = 2 by omega), if_neg (show ¬ k = 3 by omega), if_neg (show ¬ k = 4 by omega), if_neg (show ¬ k = 5 by omega), if_neg (show ¬ k = 6 by omega), if_neg (show ¬ k = 7 by omega), if_neg (show ¬ k = 8 by omega), if_neg (show ¬ k = 9 by omega), if_neg (show ¬ k = 10 by omega)]
theorem kA_no {k : Int} (h : k < 1 ∨ 10 < k) : kA k = 0 := by
  unfold kA
  rw [if_neg (show ¬ k = 1 by omega), if_neg (show ¬ k = 2 by omega), if_neg (show ¬ k = 3 by omega), if_neg (show ¬ k = 4 by omega), if_neg (show ¬ k = 5 by omega), if_neg (show ¬ k = 6 by omega), if_neg (show ¬ k = 7 by omega), if_neg (show ¬ k = 8 by omega), if_neg (show ¬ k = 9 by omega), if_neg (show ¬ k = 10 by omega)]
theorem kW_in {k : Int} (h : kK k = true) : kW k = 1 ∨ kW k = 2 ∨ kW k = 4 ∨ kW k = 8 := by
  rcases kin h with rfl | rfl | rfl | rfl | rfl | rfl | rfl | rfl | rfl | rfl <;> decide
theorem kW_zero (k : Int) : kW k = 0 ↔ kK k = false := by
  cases h : kK k with
  | false => simp [kW_no (knot h)]
  | true => rcases kW_in h with e | e | e | e <;> simp [e]
end Go.Lg.Fld
namespace Go.Proofs.Ytjifibloagkeeaa
open Go Go.Lg Go.Lg.Fld
set_option maxRecDepth 100000
variable (X : Nat → Option Obj)
theorem shapeOf_spec (k : Int) : PSpec Try.prog X 57 [Ln .i64 k] (.sv (.agg [.val (.string ⟨(kN k).toArray⟩), .val (.int .i64 (kW k : Nat)), .val (.int .u64 (kB k)), .val (.int .u64 (kA k))])) := by
  refine PSpec.intro Try.func57 rfl (by kernel_rfl) rfl rfl ?_
  intro C
  rcases kcases k with rfl | rfl | rfl | rfl | rfl | rfl | rfl | rfl | rfl | rfl | h
  · (refine LWP.seq <| LWP.region (by kernel_rfl) <| K.alloc rfl .plain ?_; refine RunK.nil <| LWP.seq <| LWP.seq <| LWP.region (by kernel_rfl) <| kmv rfl <| RunK.nil <| LWP.block <| LWP.seq <| LWP.region (by kernel_rfl) <| keq rfl rfl (beq_iff_eq.2 (by omega)) <| kas rfl <| RunK.nil <| LWP.condT rfl ?_; refine LWP.seq <| LWP.region (by kernel_rfl) <| K.build rfl rfl (by exact rfl) (by exact nl4 rfl rfl rfl rfl rfl) .plain ?_; refine K.storeAll rfl rfl rfl rfl rfl rfl .plain ?_; refine RunK.nil <| LWP.ret ?_)
    exact ⟨[_], ⟨⟨_, _, rfl, rfl, rfl, .inl ⟨AggT.h, rfl⟩⟩, trivial⟩, rfl⟩
  · (refine LWP.seq <| LWP.region (by kernel_rfl) <| K.alloc rfl .plain ?_; refine RunK.nil <| LWP.seq <| LWP.seq <| LWP.region (by kernel_rfl) <| kmv rfl <| RunK.nil <| LWP.block <| LWP.seq <| LWP.region (by kernel_rfl) <| keq rfl rfl (beq_eq_false_iff_ne.2 (by omega)) <| kas rfl <| RunK.nil <| LWP.condF rfl ?_; refine LWP.seq <| LWP.region (by kernel_rfl) <| keq rfl rfl (beq_iff_eq.2 (by omega)) <| kas rfl <| RunK.nil <| LWP.condT rfl ?_; refine LWP.seq <| LWP.region (by kernel_rfl) <| K.build rfl rfl (by exact rfl) (by exact nl4 rfl rfl rfl rfl rfl) .plain ?_; refine K.storeAll rfl rfl rfl rfl rfl rfl .plain ?_; refine RunK.nil <| LWP.ret ?_)
    exact ⟨[_], ⟨⟨_, _, rfl, rfl, rfl, .inl ⟨AggT.h, rfl⟩⟩, trivial⟩, rfl⟩
  · (refine LWP.seq <| LWP.region (by kernel_rfl) <| K.alloc rfl .plain ?_; refine RunK.nil <| LWP.seq <| LWP.seq <| LWP.region (by kernel_rfl) <| kmv rfl <| RunK.nil <| LWP.block <| LWP.seq <| LWP.region (by kernel_rfl) <| keq rfl rfl (beq_eq_false_iff_ne.2 (by omega)) <| kas rfl <| RunK.nil <| LWP.condF rfl ?_; refine LWP.seq <| LWP.region (by kernel_rfl) <| keq rfl rfl (beq_eq_false_iff_ne.2 (by omega)) <| kas rfl <| RunK.nil <| LWP.condF rfl ?_; refine LWP.seq <| LWP.region (by kernel_rfl) <| keq rfl rfl (beq_iff_eq.2 (by omega)) <| kas rfl <| RunK.nil <| LWP.condT rfl ?_; refine LWP.seq <| LWP.region (by kernel_rfl) <| K.build rfl rfl (by exact rfl) (by exact nl4 rfl rfl rfl rfl rfl) .plain ?_; refine K.storeAll rfl rfl rfl rfl rfl rfl .plain ?_; refine RunK.nil <| LWP.ret ?_)
    exact ⟨[_], ⟨⟨_, _, rfl, rfl, rfl, .inl ⟨AggT.h, rfl⟩⟩, trivial⟩, rfl⟩
  · (refine LWP.seq <| LWP.region (by kernel_rfl) <| K.alloc rfl .plain ?_; refine RunK.nil <| LWP.seq <| LWP.seq <| LWP.region (by kernel_rfl) <| kmv rfl <| RunK.nil <| LWP.block <| LWP.seq <| LWP.region (by kernel_rfl) <| keq rfl rfl (beq_eq_false_iff_ne.2 (by omega)) <| kas rfl <| RunK.nil <| LWP.condF rfl ?_; refine LWP.seq <| LWP.region (by kernel_rfl) <| keq rfl rfl (beq_eq_false_iff_ne.2 (by omega)) <| kas rfl <| RunK.nil <| LWP.condF rfl ?_; refine LWP.seq <| LWP.region (by kernel_rfl) <| keq rfl rfl (beq_eq_false_iff_ne.2 (by omega)) <| kas rfl <| RunK.nil <| LWP.condF rfl ?_; refine LWP.seq <| LWP.region (by kernel_rfl) <| keq rfl rfl (beq_iff_eq.2 (by omega)) <| kas rfl <| RunK.nil <| LWP.condT rfl ?_; refine LWP.seq <| LWP.region (by kernel_rfl) <| K.build rfl rfl (by exact rfl) (by exact nl4 rfl rfl rfl rfl rfl) .plain ?_; refine K.storeAll rfl rfl rfl rfl rfl rfl .plain ?_; refine RunK.nil <| LWP.ret ?_)
    exact ⟨[_], ⟨⟨_, _, rfl, rfl, rfl, .inl ⟨AggT.h, rfl⟩⟩, trivial⟩, rfl⟩
  · (refine LWP.seq <| LWP.region (by kernel_rfl) <| K.alloc rfl .plain ?_; refine RunK.nil <| LWP.seq <| LWP.seq <| LWP.region (by kernel_rfl) <| kmv rfl <| RunK.nil <| LWP.block <| LWP.seq <| LWP.region (by kernel_rfl) <| keq rfl rfl (beq_eq_false_iff_ne.2 (by omega)) <| kas rfl <| RunK.nil <| LWP.condF rfl ?_; refine LWP.seq <| LWP.region (by kernel_rfl) <| keq rfl rfl (beq_eq_false_iff_ne.2 (by omega)) <| kas rfl <| RunK.nil <| LWP.condF rfl ?_; refine LWP.seq <| LWP.region (by kernel_rfl) <| keq rfl rfl (beq_eq_false_iff_ne.2 (by omega)) <| kas rfl <| RunK.nil <| LWP.condF rfl ?_; refine LWP.seq <| LWP.region (by kernel_rfl) <| keq rfl rfl (beq_eq_false_iff_ne.2 (by omega)) <| kas rfl <| RunK.nil <| LWP.condF rfl ?_; refine LWP.seq <| LWP.region (by kernel_rfl) <| keq rfl rfl (beq_iff_eq.2 (by omega)) <| kas rfl <| RunK.nil <| LWP.condT rfl ?_; refine LWP.seq <| LWP.region (by kernel_rfl) <| K.build rfl rfl (by exact rfl) (by exact nl4 rfl rfl rfl rfl rfl) .plain ?_; refine K.storeAll rfl rfl rfl rfl rfl rfl .plain ?_; refine RunK.nil <| LWP.ret ?_)
    exact ⟨[_], ⟨⟨_, _, rfl, rfl, rfl, .inl ⟨AggT.h, rfl⟩⟩, trivial⟩, rfl⟩
  · (refine LWP.seq <| LWP.region (by kernel_rfl) <| K.alloc rfl .plain ?_; refine RunK.nil <| LWP.seq <| LWP.seq <| LWP.region (by kernel_rfl) <| kmv rfl <| RunK.nil <| LWP.block <| LWP.seq <| LWP.region (by kernel_rfl) <| keq rfl rfl (beq_eq_false_iff_ne.2 (by omega)) <| kas rfl <| RunK.nil <| LWP.condF rfl ?_; refine LWP.seq <| LWP.region (by kernel_rfl) <| keq rfl rfl (beq_eq_false_iff_ne.2 (by omega)) <| kas rfl <| RunK.nil <| LWP.condF rfl ?_; refine LWP.seq <| LWP.region (by kernel_rfl) <| keq rfl rfl (beq_eq_false_iff_ne.2 (by omega)) <| kas rfl <| RunK.nil <| LWP.condF rfl ?_; refine LWP.seq <| LWP.region (by kernel_rfl) <| keq rfl rfl (beq_eq_false_iff_ne.2 (by omega)) <| kas rfl <| RunK.nil <| LWP.condF rfl ?_; refine LWP.seq <| LWP.region (by kernel_rfl) <| keq rfl rfl (beq_eq_false_iff_ne.2 (by omega)) <| kas rfl <| RunK.nil <| LWP.condF rfl ?_; refine LWP.seq <| LWP.region (by kernel_rfl) <| keq rfl rfl (beq_iff_eq.2 (by omega)) <| kas rfl <| RunK.nil <| LWP.condT rfl ?_; refine LWP.seq <| LWP.region (by kernel_rfl) <| K.build rfl rfl (by exact rfl) (by exact nl4 rfl rfl rfl rfl rfl) .plain ?_; refine K.storeAll rfl rfl rfl rfl rfl rfl .plain ?_; refine RunK.nil <| LWP.ret ?_)
    exact ⟨[_], ⟨⟨_, _, rfl, rfl, rfl, .inl ⟨AggT.h, rfl⟩⟩, trivial⟩, rfl⟩
  · (refine LWP.seq <| LWP.region (by kernel_rfl) <| K.alloc rfl .plain ?_; refine RunK.nil <| LWP.seq <| LWP.seq <| LWP.region (by kernel_rfl) <| kmv rfl <| RunK.nil <| LWP.block <| LWP.seq <| LWP.region (by kernel_rfl) <| keq rfl rfl (beq_eq_false_iff_ne.2 (by omega)) <| kas rfl <| RunK.nil <| LWP.condF rfl ?_; refine LWP.seq <| LWP.region (by kernel_rfl) <| keq rfl rfl (beq_eq_false_iff_ne.2 (by omega)) <| kas rfl <| RunK.nil <| LWP.condF rfl ?_; refine LWP.seq <| LWP.region (by kernel_rfl) <| keq rfl rfl (beq_eq_false_iff_ne.2 (by omega)) <| kas rfl <| RunK.nil <| LWP.condF rfl ?_; refine LWP.seq <| LWP.region (by kernel_rfl) <| keq rfl rfl (beq_eq_false_iff_ne.2 (by omega)) <| kas rfl <| RunK.nil <| LWP.condF rfl ?_; refine LWP.seq <| LWP.region (by kernel_rfl) <| keq rfl rfl (beq_eq_false_iff_ne.2 (by omega)) <| kas rfl <| RunK.nil <| LWP.condF rfl ?_; refine LWP.seq <| LWP.region (by kernel_rfl) <| keq rfl rfl (beq_eq_false_iff_ne.2 (by omega)) <| kas rfl <| RunK.nil <| LWP.condF rfl ?_; refine LWP.seq <| LWP.region (by kernel_rfl) <| keq rfl rfl (beq_iff_eq.2 (by omega)) <| kas rfl <| RunK.nil <| LWP.condT rfl ?_; refine LWP.seq <| LWP.region (by kernel_rfl) <| K.build rfl rfl (by exact rfl) (by exact nl4 rfl rfl rfl rfl rfl) .plain ?_; refine K.storeAll rfl rfl rfl rfl rfl rfl .plain ?_; refine RunK.nil <| LWP.ret ?_)
    exact ⟨[_], ⟨⟨_, _, rfl, rfl, rfl, .inl ⟨AggT.h, rfl⟩⟩, trivial⟩, rfl⟩
  · (refine LWP.seq <| LWP.region (by kernel_rfl) <| K.alloc rfl .plain ?_; refine RunK.nil <| LWP.seq <| LWP.seq <| LWP.region (by kernel_rfl) <| kmv rfl <| RunK.nil <| LWP.block <| LWP.seq <| LWP.region (by kernel_rfl) <| keq rfl rfl (beq_eq_false_iff_ne.2 (by omega)) <| kas rfl <| RunK.nil <| LWP.condF rfl ?_; refine LWP.seq <| LWP.region (by kernel_rfl) <| keq rfl rfl (beq_eq_false_iff_ne.2 (by omega)) <| kas rfl <| RunK.nil <| LWP.condF rfl ?_; refine LWP.seq <| LWP.region (by kernel_rfl) <| keq rfl rfl (beq_eq_false_iff_ne.2 (by omega)) <| kas rfl <| RunK.nil <| LWP.condF rfl ?_; refine LWP.seq <| LWP.region (by kernel_rfl) <| keq rfl rfl (beq_eq_false_iff_ne.2 (by omega)) <| kas rfl <| RunK.nil <| LWP.condF rfl ?_; refine LWP.seq <| LWP.region (by kernel_rfl) <| keq rfl rfl (beq_eq_false_iff_ne.2 (by omega)) <| kas rfl <| RunK.nil <| LWP.condF rfl ?_; refine LWP.seq <| LWP.region (by kernel_rfl) <| keq rfl rfl (beq_eq_false_iff_ne.2 (by omega)) <| kas rfl <| RunK.nil <| LWP.condF rfl ?_; refine LWP.seq <| LWP.region (by kernel_rfl) <| keq rfl rfl (beq_eq_false_iff_ne.2 (by omega)) <| kas rfl <| RunK.nil <| LWP.condF rfl ?_; refine LWP.seq <| LWP.region (by kernel_rfl) <| keq rfl rfl (beq_iff_eq.2 (by omega)) <| kas rfl <| RunK.nil <| LWP.condT rfl ?_; refine LWP.seq <| LWP.region (by kernel_rfl) <| K.build rfl rfl (by exact rfl) (by exact nl4 rfl rfl rfl rfl rfl) .plain ?_; refine K.storeAll rfl rfl rfl rfl rfl rfl .plain ?_; refine RunK.nil <| LWP.ret ?_)
    exact ⟨[_], ⟨⟨_, _, rfl, rfl, rfl, .inl ⟨AggT.h, rfl⟩⟩, trivial⟩, rfl⟩
  · (refine LWP.seq <| LWP.region (by kernel_rfl) <| K.alloc rfl .plain ?_; refine RunK.nil <| LWP.seq <| LWP.seq <| LWP.region (by kernel_rfl) <| kmv rfl <| RunK.nil <| LWP.block <| LWP.seq <| LWP.region (by kernel_rfl) <| keq rfl rfl (beq_eq_false_iff_ne.2 (by omega)) <| kas rfl <| RunK.nil <| LWP.condF rfl ?_; refine LWP.seq <| LWP.region (by kernel_rfl) <| keq rfl rfl (beq_eq_false_iff_ne.2 (by omega)) <| kas rfl <| RunK.nil <| LWP.condF rfl ?_; refine LWP.seq <| LWP.region (by kernel_rfl) <| keq rfl rfl (beq_eq_false_iff_ne.2 (by omega)) <| kas rfl <| RunK.nil <| LWP.condF rfl ?_; refine LWP.seq <| LWP.region (by kernel_rfl) <| keq rfl rfl (beq_eq_false_iff_ne.2 (by omega)) <| kas rfl <| RunK.nil <| LWP.condF rfl ?_; refine LWP.seq <| LWP.region (by kernel_rfl) <| keq rfl rfl (beq_eq_false_iff_ne.2 (by omega)) <| kas rfl <| RunK.nil <| LWP.condF rfl ?_; refine LWP.seq <| LWP.region (by kernel_rfl) <| keq rfl rfl (beq_eq_false_iff_ne.2 (by omega)) <| kas rfl <| RunK.nil <| LWP.condF rfl ?_; refine LWP.seq <| LWP.region (by kernel_rfl) <| keq rfl rfl (beq_eq_false_iff_ne.2 (by omega)) <| kas rfl <| RunK.nil <| LWP.condF rfl ?_; refine LWP.seq <| LWP.region (by kernel_rfl) <| keq rfl rfl (beq_eq_false_iff_ne.2 (by omega)) <| kas rfl <| RunK.nil <| LWP.condF rfl ?_; refine LWP.seq <| LWP.region (by kernel_rfl) <| keq rfl rfl (beq_iff_eq.2 (by omega)) <| kas rfl <| RunK.nil <| LWP.condT rfl ?_; refine LWP.seq <| LWP.region (by kernel_rfl) <| K.build rfl rfl (by exact rfl) (by exact nl4 rfl rfl rfl rfl rfl) .plain ?_; refine K.storeAll rfl rfl rfl rfl rfl rfl .plain ?_; refine RunK.nil <| LWP.ret ?_)
    exact ⟨[_], ⟨⟨_, _, rfl, rfl, rfl, .inl ⟨AggT.h, rfl⟩⟩, trivial⟩, rfl⟩
  · (refine LWP.seq <| LWP.region (by kernel_rfl) <| K.alloc rfl .plain ?_; refine RunK.nil <| LWP.seq <| LWP.seq <| LWP.region (by kernel_rfl) <| kmv rfl <| RunK.nil <| LWP.block <| LWP.seq <| LWP.region (by kernel_rfl) <| keq rfl rfl (beq_eq_false_iff_ne.2 (by omega)) <| kas rfl <| RunK.nil <| LWP.condF rfl ?_; refine LWP.seq <| LWP.region (by kernel_rfl) <| keq rfl rfl (beq_eq_false_iff_ne.2 (by omega)) <| kas rfl <| RunK.nil <| LWP.condF rfl ?_; refine LWP.seq <| LWP.region (by kernel_rfl) <| keq rfl rfl (beq_eq_false_iff_ne.2 (by omega)) <| kas rfl <| RunK.nil <| LWP.condF rfl ?_; refine LWP.seq <| LWP.region (by kernel_rfl) <| keq rfl rfl (beq_eq_false_iff_ne.2 (by omega)) <| kas rfl <| RunK.nil <| LWP.condF rfl ?_; refine LWP.seq <| LWP.region (by kernel_rfl) <| keq rfl rfl (beq_eq_false_iff_ne.2 (by omega)) <| kas rfl <| RunK.nil <| LWP.condF rfl ?_; refine LWP.seq <| LWP.region (by kernel_rfl) <| keq rfl rfl (beq_eq_false_iff_ne.2 (by omega)) <| kas rfl <| RunK.nil <| LWP.condF rfl ?_; refine LWP.seq <| LWP.region (by kernel_rfl) <| keq rfl rfl (beq_eq_false_iff_ne.2 (by omega)) <| kas rfl <| RunK.nil <| LWP.condF rfl ?_; refine LWP.seq <| LWP.region (by kernel_rfl) <| keq rfl rfl (beq_eq_false_iff_ne.2 (by omega)) <| kas rfl <| RunK.nil <| LWP.condF rfl ?_; refine LWP.seq <| LWP.region (by kernel_rfl) <| keq rfl rfl (beq_eq_false_iff_ne.2 (by omega)) <| kas rfl <| RunK.nil <| LWP.condF rfl ?_; refine LWP.seq <| LWP.region (by kernel_rfl) <| keq rfl rfl (beq_iff_eq.2 (by omega)) <| kas rfl <| RunK.nil <| LWP.condT rfl ?_; refine LWP.seq <| LWP.region (by kernel_rfl) <| K.build rfl rfl (by exact rfl) (by exact nl4 rfl rfl rfl rfl rfl) .plain ?_; refine K.storeAll rfl rfl rfl rfl rfl rfl .plain ?_; refine RunK.nil <| LWP.ret ?_)
    exact ⟨[_], ⟨⟨_, _, rfl, rfl, rfl, .inl ⟨AggT.h, rfl⟩⟩, trivial⟩, rfl⟩
  · rw [kN_no h, kW_no h, kB_no h, kA_no h]
    (refine LWP.seq <| LWP.region (by kernel_rfl) <| K.alloc rfl .plain ?_; refine RunK.nil <| LWP.seq <| LWP.seq <| LWP.region (by kernel_rfl) <| kmv rfl <| RunK.nil <| LWP.block <| LWP.seq <| LWP.region (by kernel_rfl) <| keq rfl rfl (beq_eq_false_iff_ne.2 (by omega)) <| kas rfl <| RunK.nil <| LWP.condF rfl ?_; refine LWP.seq <| LWP.region (by kernel_rfl) <| keq rfl rfl (beq_eq_false_iff_ne.2 (by omega)) <| kas rfl <| RunK.nil <| LWP.condF rfl ?_; refine LWP.seq <| LWP.region (by kernel_rfl) <| keq rfl rfl (beq_eq_false_iff_ne.2 (by omega)) <| kas rfl <| RunK.nil <| LWP.condF rfl ?_; refine LWP.seq <| LWP.region (by kernel_rfl) <| keq rfl rfl (beq_eq_false_iff_ne.2 (by omega)) <| kas rfl <| RunK.nil <| LWP.condF rfl ?_; refine LWP.seq <| LWP.region (by kernel_rfl) <| keq rfl rfl (beq_eq_false_iff_ne.2 (by omega)) <| kas rfl <| RunK.nil <| LWP.condF rfl ?_; refine LWP.seq <| LWP.region (by kernel_rfl) <| keq rfl rfl (beq_eq_false_iff_ne.2 (by omega)) <| kas rfl <| RunK.nil <| LWP.condF rfl ?_; refine LWP.seq <| LWP.region (by kernel_rfl) <| keq rfl rfl (beq_eq_false_iff_ne.2 (by omega)) <| kas rfl <| RunK.nil <| LWP.condF rfl ?_; refine LWP.seq <| LWP.region (by kernel_rfl) <| keq rfl rfl (beq_eq_false_iff_ne.2 (by omega)) <| kas rfl <| RunK.nil <| LWP.condF rfl ?_; refine LWP.seq <| LWP.region (by kernel_rfl) <| keq rfl rfl (beq_eq_false_iff_ne.2 (by omega)) <| kas rfl <| RunK.nil <| LWP.condF rfl ?_; refine LWP.seq <| LWP.region (by kernel_rfl) <| keq rfl rfl (beq_eq_false_iff_ne.2 (by omega)) <| kas rfl <| RunK.nil <| LWP.condF rfl ?_; refine LWP.skip ?_; refine LWP.seq <| LWP.region (by kernel_rfl) <| K.build rfl rfl (by exact rfl) (by exact nl4 rfl rfl rfl rfl rfl) .plain ?_; refine K.storeAll rfl rfl rfl rfl rfl rfl .plain ?_; refine RunK.nil <| LWP.ret ?_)
    exact ⟨[_], ⟨⟨_, _, rfl, rfl, rfl, .inl ⟨AggT.h, rfl⟩⟩, trivial⟩, rfl⟩
theorem fSize_spec (k : Int) : PSpec Try.prog X 50 [Ln .i64 k] (Ln .i64 (kW k : Nat)) := by
  refine PSpec.intro Try.func50 rfl (by kernel_rfl) rfl rfl ?_
  intro C
  (refine LWP.seq <| LWP.region (by kernel_rfl) <| kas rfl <| RunK.nil <| LWP.seq <| LWP.region (by kernel_rfl) <| kmv rfl <| kca rfl rfl (shapeOf_spec X k) <| K.fieldOne rfl Try.underlying113 rfl (by kernel_rfl) rfl .plain <| kas rfl <| RunK.nil <| LWP.ret ?_)
  exact ⟨[_], ⟨rfl, trivial⟩, rfl⟩
end Go.Proofs.Ytjifibloagkeeaa
end
section
namespace Go.Lg.Fld
open Go Go.Lg
def fitZ (k x : Int) : Bool := decide (-kB k ≤ x) && decide (x ≤ kA k)
end Go.Lg.Fld
namespace Go.Proofs.Ytjifibloagkeeaa
open Go Go.Lg Go.Lg.Fld
set_option maxRecDepth 100000
variable (X : Nat → Option Obj)
def fitB (k : Int) (b : Bool) (N : Int) : Bool := kK k && (formB b N && fitZ k (zv b N))
end Go.Proofs.Ytjifibloagkeeaa
end
section
namespace Go.Lg.Fld
open Go Go.Lg
def kM (k : Int) : Nat := 256 ^ kW k
def wdK (k x : Int) : Nat := (x % (kM k : Int)).toNat
end Go.Lg.Fld
namespace Go.Proofs.Ytjifibloagkeeaa
open Go Go.Lg Go.Lg.Fld
set_option maxRecDepth 100000
variable (X : Nat → Option Obj)
end Go.Proofs.Ytjifibloagkeeaa
end
section
namespace Go.Lg.Fld
open Go Go.Lg
end Go.Lg.Fld
namespace Go.Proofs.Ytjifibloagkeeaa
open Go Go.Lg Go.Lg.Fld
set_option maxRecDepth 100000
variable (X : Nat → Option Obj)
end Go.Proofs.Ytjifibloagkeeaa
end
section
namespace Go.Proofs.Ytjifibloagkeeaa
open Go Go.Lg Go.Lg.Fld
set_option maxRecDepth 100000
variable (X : Nat → Option Obj)
abbrev cI (b : Bool) (n : Int) : List CV := [.val (.bool b), .val (.int .u64 (n / 18446744073709551616)), .val (.int .u64 (n % 18446744073709551616))]
end Go.Proofs.Ytjifibloagkeeaa
end
section
namespace Go.Lg.Dig
open Go Go.Lg
def dg (n j : Nat) : Nat := n / 256 ^ j % 256
def dv (d : Nat) : CV := .val (.int .i64 (d : Nat))
def dlf (f : Nat → Nat) : List Nat := (List.range 40).map f
def num (b : Bool) (f : Nat → Nat) : List CV := .val (.bool b) :: (dlf f).map dv
end Go.Lg.Dig
namespace Go.Lg.Dig
open Go Go.Lg
end Go.Lg.Dig
namespace Go.Lg.Dig
end Go.Lg.Dig
namespace Go.Lg.Dig
end Go.Lg.Dig
namespace Go.Lg.Dig
open Go Go.Lg
end Go.Lg.Dig
namespace Go.Lg.Dig
open Go Go.Lg
end Go.Lg.Dig
end
section
namespace Go.Proofs.Ytjifibloagkeeaa
open Go Go.Lg Go.Lg.Arith Go.Lg.Dig Go.RowKit
variable (X : Nat → Option Obj)
def two (l h i : Nat) (j : Nat) : Nat := if j < i then dg l j else if 8 ≤ j ∧ j < 8 + i then dg h (j - 8) else 0
end Go.Proofs.Ytjifibloagkeeaa
end
section
namespace Go.Proofs.Ytjifibloagkeeaa
open Go Go.Lg Go.Lg.Arith Go.Lg.Dig Go.RowKit
variable (X : Nat → Option Obj)
end Go.Proofs.Ytjifibloagkeeaa
end
section
namespace Go.Proofs.Ytjifibloagkeeaa
open Go Go.Lg Go.Lg.Arith Go.Lg.Dig Go.RowKit
variable (X : Nat → Option Obj)
end Go.Proofs.Ytjifibloagkeeaa
end
section
namespace Go.Proofs.Ytjifibloagkeeaa
open Go Go.Lg Go.Lg.Arith Go.Lg.Dig Go.RowKit
variable (X : Nat → Option Obj)
end Go.Proofs.Ytjifibloagkeeaa
end
section
namespace Go.Lg.Fld
open Go Go.Lg
end Go.Lg.Fld
namespace Go.Proofs.Ytjifibloagkeeaa
open Go Go.Lg Go.Lg.Fld
set_option maxRecDepth 100000
variable (X : Nat → Option Obj)
end Go.Proofs.Ytjifibloagkeeaa
end
section
namespace Go.Lg.Fld
open Go Go.Lg
end Go.Lg.Fld
namespace Go.Proofs.Ytjifibloagkeeaa
open Go Go.Lg Go.Lg.Fld
set_option maxRecDepth 100000
variable (X : Nat → Option Obj)
end Go.Proofs.Ytjifibloagkeeaa
end
section
namespace Go.Lg.Fld
open Go Go.Lg
end Go.Lg.Fld
namespace Go.Proofs.Ytjifibloagkeeaa
open Go Go.Lg Go.Lg.Fld
set_option maxRecDepth 100000
variable (X : Nat → Option Obj)
end Go.Proofs.Ytjifibloagkeeaa
end
section
namespace Go.Lg.Fld
open Go Go.Lg
structure Fl where
  nm : List UInt8
  kind : Int
  count : Int
def Fl.vals (f : Fl) : List Value := [.string ⟨f.nm.toArray⟩, .int .i64 f.kind, .int .i64 f.count]
def Fl.w (f : Fl) : Nat := kW f.kind
def Fl.n (f : Fl) : Nat := f.count.toNat
def Fl.ok (f : Fl) : Bool := kK f.kind && (decide (1 ≤ f.count) && decide (f.count ≤ 8))
def roundUp (a n : Nat) : Nat := a + (n - a % n) % n
def startsAt : Nat → List Fl → List Nat
  | _, [] => []
  | a, f :: t => roundUp a f.w :: startsAt (roundUp a f.w + f.w * f.n) t
def endAt : Nat → List Fl → Nat
  | a, [] => a
  | a, f :: t => endAt (roundUp a f.w + f.w * f.n) t
def elemsAt : Nat → List Fl → List (Int × Nat)
  | _, [] => []
  | a, f :: t => (List.range f.n).map (fun i => (f.kind, roundUp a f.w + f.w * i)) ++ elemsAt (roundUp a f.w + f.w * f.n) t
def greatW (l : List Fl) : Nat := l.foldl (fun g f => max g f.w) 1
def rowSize (l : List Fl) : Nat := roundUp (endAt 0 l) (greatW l)
def layErr (l : List Fl) : Int := if 8 < l.length then 1 else if l.all Fl.ok = true then (if 256 < rowSize l then 5 else 0) else 1
theorem starts_snoc (f : Fl) : ∀ (l : List Fl) (a : Nat), startsAt a (l ++ [f]) = startsAt a l ++ [roundUp (endAt a l) f.w]
  | [], _ => rfl
  | g :: t, a => by simp only [List.cons_append, startsAt, endAt, starts_snoc f t]
theorem end_snoc (f : Fl) : ∀ (l : List Fl) (a : Nat), endAt a (l ++ [f]) = roundUp (endAt a l) f.w + f.w * f.n
  | [], _ => rfl
  | g :: t, a => by simp only [List.cons_append, endAt, end_snoc f t]
theorem great_snoc (f : Fl) (l : List Fl) : greatW (l ++ [f]) = max (greatW l) f.w := by simp [greatW, List.foldl_append]
theorem take_snoc {α : Type} {l : List α} {i : Nat} {f : α} (h : l[i]? = some f) : l.take (i + 1) = l.take i ++ [f] := by
  rw [List.take_add_one, h]; rfl
theorem ok_w {f : Fl} (h : f.ok = true) : (f.w = 1 ∨ f.w = 2 ∨ f.w = 4 ∨ f.w = 8) ∧ 1 ≤ f.n ∧ f.n ≤ 8 ∧ (f.n : Int) = f.count := by
  simp only [Fl.ok, Bool.and_eq_true, decide_eq_true_eq] at h
  refine ⟨kW_in h.1, ?_, ?_, ?_⟩ <;> unfold Fl.n <;> omega
def isWd (n : Nat) : Prop := n = 1 ∨ n = 2 ∨ n = 4 ∨ n = 8
theorem round_facts {n : Nat} (h : isWd n) (a : Nat) : roundUp a n % n = 0 ∧ a ≤ roundUp a n ∧ roundUp a n < a + n ∧ ∀ b, a ≤ b → b ≤ roundUp a n → b % n = 0 → b = roundUp a n := by
  unfold roundUp
  rcases h with rfl | rfl | rfl | rfl <;> refine ⟨by omega, by omega, by omega, fun b h1 h2 h3 => by omega⟩
theorem great_wd : ∀ (l : List Fl), l.all Fl.ok = true → isWd (greatW l) := by
  have key : ∀ (l : List Fl) (g : Nat), isWd g → l.all Fl.ok = true → isWd (l.foldl (fun g f => max g f.w) g) := by
    intro l
    induction l with
    | nil => intro g hg _; exact hg
    | cons f t ih =>
      intro g hg h
      simp only [List.all_cons, Bool.and_eq_true] at h
      refine ih _ ?_ h.2
      have hf : isWd f.w := (ok_w h.1).1
      show isWd (max g f.w)
      rcases Nat.le_total g f.w with h3 | h3
      · rw [Nat.max_eq_right h3]; exact hf
      · rw [Nat.max_eq_left h3]; exact hg
  exact fun l h => key l 1 (.inl rfl) h
theorem end_le : ∀ (l : List Fl) (a : Nat), l.all Fl.ok = true → a ≤ endAt a l ∧ endAt a l ≤ a + 72 * l.length
  | [], a, _ => by simp [endAt]
  | f :: t, a, h => by
    simp only [List.all_cons, Bool.and_eq_true] at h
    obtain ⟨hw, h1, h8, _⟩ := ok_w h.1
    have hr := round_facts hw a
    have hi := end_le t (roundUp a f.w + f.w * f.n) h.2
    have hm : f.w * f.n ≤ 64 := by rcases hw with e | e | e | e <;> rw [e] <;> omega
    have hw8 : f.w ≤ 8 := by rcases hw with e | e | e | e <;> omega
    simp only [endAt, List.length_cons]
    omega
theorem starts_len : ∀ (l : List Fl) (a : Nat), (startsAt a l).length = l.length
  | [], _ => rfl
  | f :: t, a => by simp [startsAt, starts_len t]
def ntV (l : List Nat) : List Value := l.map fun n => .int .i64 (n : Nat)
structure FieldsIn (X : Nat → Option Obj) (ad : Option Addr) (fs : List Fl) : Prop where
  rows : RowsIn X ad 3 (fs.map Fl.vals)
  small : ∀ f ∈ fs, (-9223372036854775808 ≤ f.kind ∧ f.kind < 9223372036854775808) ∧ (-9223372036854775808 ≤ f.count ∧ f.count < 9223372036854775808)
theorem FieldsIn.at {X : Nat → Option Obj} {ad : Option Addr} {fs : List Fl} (h : FieldsIn X ad fs) {i : Nat} {f : Fl} (hf : fs[i]? = some f) :
    ∃ (blk off : Nat) (arr : Array Value) (el : TypeId) (fr : Nat × Nat), ad = some ⟨blk, off, none⟩ ∧ X blk = some (.cells arr el fr) ∧ off + i * 3 + 3 ≤ arr.size ∧ ((arr.toList.drop (off + i * 3)).take 3).map CV.val = f.vals.map CV.val := by
  obtain ⟨blk, off, arr, el, fr, h1, h2, h3, h4⟩ := h.rows i f.vals (by rw [List.getElem?_map, hf]; rfl)
  exact ⟨blk, off, arr, el, fr, h1, h2, h3, by rw [h4]⟩
end Go.Lg.Fld
end
section
namespace Go.Proofs.Ytjifibloagkeeaa
open Go Go.Lg Go.Lg.Fld
set_option maxRecDepth 100000
variable (X : Nat → Option Obj)
abbrev Lx (ad : Option Addr) (n cap : Nat) : LV := .sv (.one (.val (.slice ad n cap)))
theorem take_all {fs : List Fl} {i : Nat} {f : Fl} (h : (fs.take i).all Fl.ok = true) (hf : fs[i]? = some f) (hk : f.ok = true) : (fs.take (i + 1)).all Fl.ok = true := by
  rw [take_snoc hf, List.all_append, h]
  simp [hk]
end Go.Proofs.Ytjifibloagkeeaa
end
section
namespace Go.Lg.Fld
open Go Go.Lg
def nmV (n : Bool × Int) : List Value := [.bool n.1, .int .u64 (n.2 / 18446744073709551616), .int .u64 (n.2 % 18446744073709551616)]
end Go.Lg.Fld
namespace Go.Proofs.Ytjifibloagkeeaa
open Go Go.Lg Go.Lg.Fld
set_option maxRecDepth 100000
variable (X : Nat → Option Obj)
structure NumsIn (X : Nat → Option Obj) (ad : Option Addr) (ns : List (Bool × Int)) : Prop where
  rows : Go.Lg.RowsIn X ad 3 (ns.map nmV)
  in2 : ∀ n ∈ ns, In2 n.2
theorem NumsIn.at {X : Nat → Option Obj} {ad : Option Addr} {ns : List (Bool × Int)} (h : NumsIn X ad ns) {i : Nat} {b : Bool} {N : Int} (hf : ns[i]? = some (b, N)) :
    In2 N ∧ ∃ (blk off : Nat) (arr : Array Value) (el : TypeId) (fr : Nat × Nat), ad = some ⟨blk, off, none⟩ ∧ X blk = some (.cells arr el fr) ∧ off + i * 3 + 3 ≤ arr.size ∧ ((arr.toList.drop (off + i * 3)).take 3).map CV.val = cI b N := by
  obtain ⟨blk, off, arr, el, fr, h1, h2, h3, h4⟩ := h.rows i (nmV (b, N)) (by rw [List.getElem?_map, hf]; rfl)
  exact ⟨h.in2 (b, N) (List.mem_of_getElem? hf), blk, off, arr, el, fr, h1, h2, h3, by rw [h4]; rfl⟩
theorem layErr_facts {fs : List Fl} (h : layErr fs = 0) : fs.length ≤ 8 ∧ fs.all Fl.ok = true ∧ rowSize fs ≤ 256 := by
  unfold layErr at h
  split at h
  · cases h
  · split at h
    · split at h
      · cases h
      · rename_i h1 h2 h3; exact ⟨by omega, h2, by omega⟩
    · cases h
def fitAll (es : List (Int × Nat)) (ns : List (Bool × Int)) : Bool := (es.zip ns).all fun p => fitB p.1.1 p.2.1 p.2.2
def fitErr (fs : List Fl) (ns : List (Bool × Int)) : Int := if layErr fs = 0 then (if (elemsAt 0 fs).length = ns.length then (if fitAll (elemsAt 0 fs) ns = true then 0 else 3) else 4) else layErr fs
end Go.Proofs.Ytjifibloagkeeaa
end
section
namespace Go.Lg
open Go Go.RowKit
section
variable {P : Program} {n : Nat} {ops os : List Oper} {acc : List Eff} {K : List Eff → St → Prop} {s : List (Nat × LV)} {bx : List (Nat × Option Box)} {X : Nat → Option Obj} {σ : St}
theorem slcBuild_one {t e : TypeId} {m : Nat} {v : Value} (hu : P.underlying t = some (.slice e)) (hz : (P.info? e).map (fun i => (i.size, i.zero.map (fun z => z.cells))) = some (1, some #[v])) (hm : m ≤ 16777216) :
    slcBuild P t m = some (List.replicate m v, 1, e) := by
  unfold slcBuild
  rw [hu]
  simp only
  cases hi : P.info? e with
  | none => rw [hi] at hz; cases hz
  | some ie =>
    rw [hi] at hz
    simp only [Option.map_some, Option.some.injEq, Prod.mk.injEq] at hz
    obtain ⟨h1, h2⟩ := hz
    cases hzz : ie.zero with
    | none => rw [hzz] at h2; cases h2
    | some z =>
      rw [hzz] at h2
      simp only [Option.map_some, Option.some.injEq] at h2
      simp only [hzz, h1, h2]
      rw [if_neg (show ¬ m * 1 > 2 ^ 24 by omega)]
      have : ((List.range (m * 1)).map fun i => (#[v] : Array Value)[i % (#[v] : Array Value).size]!) = List.replicate m v := by
        rw [Nat.mul_one]
        apply List.ext_getElem
        · simp
        · intro i h1 h2
          have : i % 1 = 0 := Nat.mod_one i
          simp [this]
      rw [this]
structure ReadsX (X : Nat → Option Obj) (ad : Option Addr) (news : List Value) : Prop where
  cells : ∀ i u, news[i]? = some u → ∃ (blk off : Nat) (arr : Array Value) (el : TypeId) (fr : Nat × Nat), ad = some ⟨blk, off, none⟩ ∧ X blk = some (.cells arr el fr) ∧ arr[off + i]? = some u
theorem LOK.appendX {d k len m cap sz by_ : Nat} {ad : Addr} {t tx e e2 : TypeId} {x y : Operand} {ty : TypeId} {pos : String} {after_ : Array Edge} {g : Option (Nat × Bool)} {cells : List CV} {row : Bool} {news : List Value}
    (hx : σ.ev x = some (.sv (.one (.slc k 0 len sz)))) (hk : σ.stat k = some (some ⟨e, cells, row⟩)) (hcl : cells.length = len * sz) (hy : σ.ev y = some (.sv (.one (.val (.slice (some ad) m cap))))) (hX : ReadsX σ.X (some ad) news) (hnl : news.length = m * sz) (hone : ∀ u ∈ news, u.oneCell' = true)
    (hinf : slcInfo P t = some (e, sz, by_)) (htx : P.underlying tx = some (.slice e2)) (hfit : (len + m) * by_ ≤ 140737488355328) (h63 : len + m < 9223372036854775808) (hd : σ.fresh d = true) :
    LOK P n ops ⟨some d, .call ⟨.builtin .append, #[x, y], #[t, tx]⟩, ty, pos, after_, g⟩ σ ⟨[(d, .sv (.one (.slc d 0 (len + m) sz)))], [], [(d, some ⟨e, cells ++ news.map .val, true⟩), (k, none)]⟩ :=
  LOK.make fun σ' ha C ι a w hr => by
    have hk' : σ'.stat k = _ := (ha.stat k (.inr (by simp))).trans hk
    have hd' : σ'.stat d = none := (ha.stat d (.inr (by simp))).trans (St.fresh_none hd)
    have h1 := hr.ev ((ha.ev (x := x) (by simp [Op.operands, Call.operands])).trans hx)
    have h2 : a.eval y = .slice (some ad) m cap := hr.ev ((ha.ev (x := y) (by simp [Op.operands, Call.operands])).trans hy)
    simp only [LV.rel, SV.rel, CV.rel, hk'] at h1
    obtain ⟨c, h1, hle, hcs⟩ := h1
    have hsrc := Src.ofSlice (P := P) w (size := sz) htx ad m cap news hnl (fun j u hj => by
      obtain ⟨blk, off, arr, el, fr, e1, e2, e3⟩ := hX.cells j u hj
      have e1 : ad = ⟨blk, off, none⟩ := by simpa using e1
      subst e1
      have hw := hr.ext blk _ (by rw [ha.X]; exact e2)
      rw [addr_add]
      simp only [World.cell?, hw, Option.isSome_none, Bool.false_eq_true, if_false]
      exact e3) hone
    obtain ⟨v, w', ι', hrun, hrel, hv⟩ := append_core (ty := ty) hr hinf (xv := a.eval x) (yv := a.eval y) h1 hle hcs hk' hcl (by rw [h2]; exact hsrc) (CVs.rel_map_val news) hd' (St.fresh_lt hd) hfit h63
    exact ⟨v, w', ι', by simp [execOp, resolve, invoke, builtin, hrun], hrel, hv⟩
theorem K.appendX {d k len m cap sz by_ : Nat} {ad : Addr} {t tx e e2 : TypeId} {x y : Operand} {ty : TypeId} {pos : String} {after_ : Array Edge} {g : Option (Nat × Bool)} {cells : List CV} {row : Bool} {news : List Value}
    (hx : (⟨s, bx, X⟩ : St).ev x = some (.sv (.one (.slc k 0 len sz)))) (hk : (⟨s, bx, X⟩ : St).stat k = some (some ⟨e, cells, row⟩)) (hcl : cells.length = len * sz) (hy : (⟨s, bx, X⟩ : St).ev y = some (.sv (.one (.val (.slice (some ad) m cap))))) (hX : ReadsX X (some ad) news) (hnl : news.length = m * sz) (hone : ∀ u ∈ news, u.oneCell' = true)
    (hinf : slcInfo P t = some (e, sz, by_)) (htx : P.underlying tx = some (.slice e2)) (hfit : (len + m) * by_ ≤ 140737488355328) (h63 : len + m < 9223372036854775808) (hd : (⟨s, bx, X⟩ : St).fresh d = true) {nl : Nat} {nc : List CV} (hnl2 : len + m = nl) (hnc : cells ++ news.map .val = nc) (hw : Want ops s g)
    (kont : RunK P n ops os ⟨(d, .sv (.one (.slc d 0 nl sz))) :: s, (d, some ⟨e, nc, true⟩) :: (k, none) :: bx, X⟩ (⟨[(d, .sv (.one (.slc d 0 nl sz)))], [], [(d, some ⟨e, nc, true⟩), (k, none)]⟩ :: acc) K) :
    RunK P n ops (⟨some d, .call ⟨.builtin .append, #[x, y], #[t, tx]⟩, ty, pos, after_, g⟩ :: os) ⟨s, bx, X⟩ acc K := by
  subst hnl2 hnc
  exact RunK.gen hw (LOK.appendX hx hk hcl hy hX hnl hone hinf htx hfit h63 hd) kont
theorem append_nil_core {C : Ctx} {ι : Nat → Nat × Nat} {a : Act} {w : World} {σ' : St} (hr : Rel n C ι σ' a w) {t tx ty e : TypeId} {sz by_ : Nat} (hinf : slcInfo P t = some (e, sz, by_)) {xv yv : Value} {d m : Nat} {l2 : List CV} {news : List Value}
    (hv : xv = .slice none 0 0) (hsrc : Src P sz tx yv m news w) (hl2 : CVs.rel σ'.stat ι l2 news) (hd : σ'.stat d = none) (hlt : d < 1000000) (hm : 1 ≤ m) (hfit : m * by_ ≤ 140737488355328) (h63 : m < 9223372036854775808) :
    ∃ v w' ι', (Builtin.append_ #[t, tx] ty #[xv, yv]).run P w = .ok v w' ∧ Rel n C ι' ⟨σ'.slots, (d, some ⟨e, l2, true⟩) :: σ'.boxes, σ'.X⟩ a w' ∧
      (CV.slc d 0 m sz).rel (⟨σ'.slots, (d, some ⟨e, l2, true⟩) :: σ'.boxes, σ'.X⟩ : St).stat ι' v := by
  obtain ⟨ie, z, hu, hi, hz, hsz, hby, hzs⟩ := slcInfo_spec hinf
  subst hv
  have hnl : news.length = m * sz := hsrc.newsLen
  have hstd : (⟨σ'.slots, (d, some ⟨e, l2, true⟩) :: σ'.boxes, σ'.X⟩ : St).stat d = some (some ⟨e, l2, true⟩) := by rw [stat_cons, if_pos rfl]
  subst hsz hby
  have hne := growslice_fits (need := 0 + m) (old := 0) (bytes := ie.bytes) (by omega) (by rw [Nat.zero_add]; exact hfit)
  have hold := run_firstCells_none (P := P) w.drew ie.size 0 0 0
  have hrun := run_append_grow_src (P := P) w t tx ty e ie z hu hi hz none 0 0 [] hold yv m news hsrc (by omega) (by omega) hne
  rw [Nat.zero_add, List.nil_append] at hrun
  refine ⟨_, _, _, hrun, hr.drew.new hlt hd (b := ⟨e, l2, true⟩) (arr := news.toArray ++ Builtin.zeroCells z.cells (grownCap w m 0 e - m)) ?_, ?_⟩
  · simp only [Box.rel]
    exact ⟨news, (Builtin.zeroCells z.cells (grownCap w m 0 e - m)).toList, by simp, hl2⟩
  · simp only [CV.rel, hstd, put1, if_true]
    have hge := grownCap_ge w m 0 e
    refine ⟨_, rfl, hge, ?_⟩
    have hzc : (Builtin.zeroCells z.cells (grownCap w m 0 e - m)).size = (grownCap w m 0 e - m) * ie.size := by
      simp [Builtin.zeroCells, hzs]
    rw [Array.size_append, hzc]
    have h5 : grownCap w m 0 e = (grownCap w m 0 e - m) + m := by omega
    generalize grownCap w m 0 e - m = q at *
    rw [h5, Nat.add_mul]
    simp
    omega
theorem LOK.appendNil {d k2 m sz by_ : Nat} {t tx e e2 : TypeId} {x y : Operand} {ty : TypeId} {pos : String} {after_ : Array Edge} {g : Option (Nat × Bool)} {l2 : List CV} {e3 : TypeId} {cs2 : List CV} {row2 : Bool}
    (hx : σ.ev x = some (.sv (.one (.val (.slice none 0 0))))) (hy : σ.ev y = some (.sv (.one (.slc k2 0 m sz)))) (hk2 : σ.stat k2 = some (some ⟨e3, cs2, row2⟩)) (hm2 : m * sz ≤ cs2.length) (hl2 : cs2.take (m * sz) = l2) (hso : l2.all CV.solid = true) (hm : 1 ≤ m)
    (hinf : slcInfo P t = some (e, sz, by_)) (htx : P.underlying tx = some (.slice e2)) (hfit : m * by_ ≤ 140737488355328) (h63 : m < 9223372036854775808) (hd : σ.fresh d = true) :
    LOK P n ops ⟨some d, .call ⟨.builtin .append, #[x, y], #[t, tx]⟩, ty, pos, after_, g⟩ σ ⟨[(d, .sv (.one (.slc d 0 m sz)))], [k2], [(d, some ⟨e, l2, true⟩)]⟩ :=
  LOK.make fun σ' ha C ι a w hr => by
    have hk2' : σ'.stat k2 = _ := (ha.stat k2 (.inl (by simp))).trans hk2
    have hd' : σ'.stat d = none := (ha.stat d (.inr (by simp))).trans (St.fresh_none hd)
    have h1 : a.eval x = .slice none 0 0 := hr.ev ((ha.ev (x := x) (by simp [Op.operands, Call.operands])).trans hx)
    have h2 := hr.ev ((ha.ev (x := y) (by simp [Op.operands, Call.operands])).trans hy)
    simp only [LV.rel, SV.rel, CV.rel, hk2'] at h2
    obtain ⟨c2, h2, -, -⟩ := h2
    obtain ⟨arr2, fr2, harr2, -, -, hbr2⟩ := hr.boxes k2 _ hk2' rfl
    obtain ⟨hsz2, hpart⟩ := Box.rel_part hbr2 (off := 0) (m := m * sz) (by show 0 + m * sz ≤ cs2.length; omega)
    rw [List.drop_zero, hl2, List.drop_zero] at hpart
    have hlen2 : (arr2.toList.take (m * sz)).length = m * sz := by simp at hsz2 ⊢; omega
    have hone : ∀ u ∈ arr2.toList.take (m * sz), u.oneCell' = true := (SV.cells_ok (s := .agg l2) (v := .agg (arr2.toList.take (m * sz)).toArray) ⟨_, rfl, by simpa using hpart⟩ hso).2 |> fun h u hu => h u (by simpa [Value.cells] using hu)
    have hsrc := Src.ofSlice (P := P) w (size := sz) htx ⟨(ι k2).1, 0, none⟩ m c2 (arr2.toList.take (m * sz)) hlen2 (fun j u hj => by
      rw [addr_add]
      simp only [World.cell?, harr2, Option.isSome_none, Bool.false_eq_true, if_false]
      rw [List.getElem?_take] at hj
      split at hj
      · simpa using hj
      · simp at hj) hone
    obtain ⟨v, w', ι', hrun, hrel, hv⟩ := append_nil_core (ty := ty) hr hinf (xv := a.eval x) (yv := a.eval y) h1 (by rw [h2]; exact hsrc) hpart hd' (St.fresh_lt hd) hm hfit h63
    exact ⟨v, w', ι', by simp [execOp, resolve, invoke, builtin, hrun], hrel, hv⟩
theorem K.appendNil {d k2 m sz by_ : Nat} {t tx e e2 : TypeId} {x y : Operand} {ty : TypeId} {pos : String} {after_ : Array Edge} {g : Option (Nat × Bool)} {l2 : List CV} {e3 : TypeId} {cs2 : List CV} {row2 : Bool}
    (hx : (⟨s, bx, X⟩ : St).ev x = some (.sv (.one (.val (.slice none 0 0))))) (hy : (⟨s, bx, X⟩ : St).ev y = some (.sv (.one (.slc k2 0 m sz)))) (hk2 : (⟨s, bx, X⟩ : St).stat k2 = some (some ⟨e3, cs2, row2⟩)) (hm2 : m * sz ≤ cs2.length) (hl2 : cs2.take (m * sz) = l2) (hso : l2.all CV.solid = true) (hm : 1 ≤ m)
    (hinf : slcInfo P t = some (e, sz, by_)) (htx : P.underlying tx = some (.slice e2)) (hfit : m * by_ ≤ 140737488355328) (h63 : m < 9223372036854775808) (hd : (⟨s, bx, X⟩ : St).fresh d = true) (hw : Want ops s g)
    (kont : RunK P n ops os ⟨(d, .sv (.one (.slc d 0 m sz))) :: s, (d, some ⟨e, l2, true⟩) :: bx, X⟩ (⟨[(d, .sv (.one (.slc d 0 m sz)))], [k2], [(d, some ⟨e, l2, true⟩)]⟩ :: acc) K) :
    RunK P n ops (⟨some d, .call ⟨.builtin .append, #[x, y], #[t, tx]⟩, ty, pos, after_, g⟩ :: os) ⟨s, bx, X⟩ acc K := RunK.gen hw (LOK.appendNil hx hy hk2 hm2 hl2 hso hm hinf htx hfit h63 hd) kont
end
end Go.Lg
end
section
namespace Go.Lg.Fld
open Go Go.Lg
def setAt (b : List UInt8) (p : Nat) (s : List UInt8) : List UInt8 := b.take p ++ s ++ b.drop (p + s.length)
theorem setAt_len {b s : List UInt8} {p : Nat} (h : p + s.length ≤ b.length) : (setAt b p s).length = b.length := by
  simp only [setAt, List.length_append, List.length_take, List.length_drop]; omega
end Go.Lg.Fld
namespace Go.Proofs.Ytjifibloagkeeaa
open Go Go.Lg Go.Lg.Fld
set_option maxRecDepth 100000
variable (X : Nat → Option Obj)
def numB (k : Int) (n : Bool × Int) : List UInt8 := leB (kW k) (wdK k (zv n.1 n.2))
def packE : List (Int × Nat) → List (Bool × Int) → List UInt8 → List UInt8
  | e :: t, v :: u, b => packE t u (setAt b e.2 (numB e.1 v))
  | _, _, b => b
def Within (es : List (Int × Nat)) (T : Nat) : Prop := ∀ e ∈ es, kK e.1 = true ∧ e.2 + kW e.1 ≤ T
theorem elems_in : ∀ (l : List Fl) (a : Nat), l.all Fl.ok = true → ∀ e ∈ elemsAt a l, kK e.1 = true ∧ a ≤ e.2 ∧ e.2 + kW e.1 ≤ endAt a l
  | [], a, _, e, he => by simp [elemsAt] at he
  | f :: t, a, h, e, he => by
    simp only [List.all_cons, Bool.and_eq_true] at h
    obtain ⟨hw, h1, h8, hc⟩ := ok_w h.1
    have hr := round_facts hw a
    have hi := end_le t (roundUp a f.w + f.w * f.n) h.2
    simp only [elemsAt, List.mem_append, List.mem_map, List.mem_range] at he
    rcases he with ⟨i, hin, rfl⟩ | he
    · have hk : kK f.kind = true := by have := h.1; simp only [Fl.ok, Bool.and_eq_true] at this; exact this.1
      have hm : f.w * i + f.w ≤ f.w * f.n := by rw [← Nat.mul_succ]; exact Nat.mul_le_mul_left _ hin
      refine ⟨hk, by simp only; omega, ?_⟩
      show roundUp a f.w + f.w * i + f.w ≤ endAt (roundUp a f.w + f.w * f.n) t
      omega
    · have := elems_in t _ h.2 e he
      refine ⟨this.1, by omega, ?_⟩
      exact this.2.2
theorem within_row {fs : List Fl} (h : fs.all Fl.ok = true) : Within (elemsAt 0 fs) (rowSize fs) := fun e he => by
  have h1 := elems_in fs 0 h e he
  have h2 := round_facts (great_wd fs h) (endAt 0 fs)
  refine ⟨h1.1, Nat.le_trans h1.2.2 h2.2.1⟩
theorem numB_len (k : Int) (n : Bool × Int) : (numB k n).length = kW k := leB_length _ _
theorem packE_len {T : Nat} : ∀ {es : List (Int × Nat)} {ns : List (Bool × Int)} {b : List UInt8}, Within es T → b.length = T → (packE es ns b).length = T
  | [], _, b, _, hb => hb
  | _ :: _, [], b, _, hb => hb
  | e :: t, v :: u, b, hw, hb => by
    have h1 := (hw e (by simp)).2
    exact packE_len (es := t) (ns := u) (fun x hx => hw x (by simp [hx])) (by rw [setAt_len (by rw [numB_len]; omega)]; exact hb)
def packB (fs : List Fl) (ns : List (Bool × Int)) : List UInt8 := packE (elemsAt 0 fs) ns (List.replicate (rowSize fs) 0)
end Go.Proofs.Ytjifibloagkeeaa
end
section
namespace Go.Proofs.Ytjifibloagkeeaa
open Go Go.Lg Go.Lg.Fld
set_option maxRecDepth 100000
variable (X : Nat → Option Obj)
end Go.Proofs.Ytjifibloagkeeaa
end
section
namespace Go.Lg
open Go Go.RowKit
section
variable {P : Program} {n : Nat} {C : Ctx} {c y x z : Code} {Q Q1 Q2 : Exit → St → Prop} {X : Nat → Option Obj} {σ : St}
structure Leads (n : Nat) (C : Ctx) (Mid : St → Prop) (σ : St) : Prop where
  out : ∀ ι a w, Rel n C ι σ a w → ∃ ι' σ', Mid σ' ∧ Rel n C ι' σ' a w
theorem Leads.here {Mid : St → Prop} {σ' : St} (hle : Le n C σ σ') (h : Mid σ') : Leads n C Mid σ := ⟨fun ι a w hr => by
  obtain ⟨ι', hr'⟩ := hle.out ι a w hr
  exact ⟨ι', σ', h, hr'⟩⟩
theorem Leads.le {Mid : St → Prop} {σ' : St} (hle : Le n C σ σ') (h : Leads n C Mid σ') : Leads n C Mid σ := ⟨fun ι a w hr => by
  obtain ⟨ι', hr'⟩ := hle.out ι a w hr
  exact h.out ι' a w hr'⟩
theorem LWP.ofLeads {Mid : St → Prop} (h : Leads n C Mid σ) (hm : ∀ σ, Mid σ → LWP P n C y Q σ) : LWP P n C y Q σ := by
  refine ⟨fun ι a w hr => ?_⟩
  obtain ⟨ι', σ', hM, hr'⟩ := h.out ι a w hr
  exact (hm σ' hM).out ι' a w hr'
theorem Leads.freeze {Mid : St → Prop} {s : List (Nat × LV)} {bx : List (Nat × Option Box)} {d k off len sz : Nat} {el : TypeId} {vals : List Value} {row : Bool}
    (hs : s.all (fun p => p.2.inUse bx) = true) (hb : bx.all (fun p => match p.2 with | some b => b.cells.all (CV.inUse bx) | none => true) = true) (hk : look k bx = none)
    (h : ∀ (blk cap : Nat) (arr : Array Value) (fr : Nat × Nat), X blk = none → Frozen C blk arr fr → len ≤ cap → off + cap * sz ≤ arr.size → (∃ sp, arr.toList = vals ++ sp) →
      Leads n C Mid ⟨(d, .sv (.one (.val (.slice (some ⟨blk, off, none⟩) len cap)))) :: s, bx, withBlock X blk (.cells arr el fr)⟩) :
    Leads n C Mid ⟨(d, .sv (.one (.slc k off len sz))) :: s, (k, some ⟨el, vals.map .val, row⟩) :: bx, X⟩ := ⟨fun ι a w hr => by
  obtain ⟨blk, cap, arr, fr, h1, h2, h3, h4, h5, h6⟩ := hr.freeze hs hb hk
  exact (h blk cap arr fr h1 h2 h3 h4 h5).out ι a w h6⟩
theorem LWP.meetL (Mid : St → Prop) (h : LWP P n C c (thenQ (Leads n C Mid) (fun _ _ => False)) σ) (hm : ∀ σ, Mid σ → LWP P n C y Q σ) : LWP P n C c (thenQ (LWP P n C y Q) Q2) σ := by
  refine h.mono ?_
  intro e σ' hq
  cases e with
  | normal => exact LWP.ofLeads hq hm
  | exit id' => exact hq.elim
  | goto l => exact hq.elim
  | ret => exact hq.elim
  | panic c => exact hq.elim
  | outgrown => exact hq.elim
theorem rel_mid {S : Nat → Option (Option Box)} {ι : Nat → Nat × Nat} : ∀ {A : List CV} {c : CV} {B : List CV} {vs : List Value}, CVs.rel S ι (A ++ c :: B) vs → ∃ va v vb, vs = va ++ v :: vb ∧ CVs.rel S ι A va ∧ c.rel S ι v ∧ CVs.rel S ι B vb
  | [], c, B, [], h => h.elim
  | [], c, B, v :: vs, h => ⟨[], v, vs, rfl, trivial, h.1, h.2⟩
  | a :: A, c, B, [], h => h.elim
  | a :: A, c, B, v :: vs, h => by
    obtain ⟨va, u, vb, e, h1, h2, h3⟩ := rel_mid (A := A) (c := c) (B := B) h.2
    exact ⟨v :: va, u, vb, by rw [e]; rfl, ⟨h.1, h1⟩, h2, h3⟩
theorem Rel.freezeCell {ι : Nat → Nat × Nat} {a : Act} {w : World} {s : List (Nat × LV)} {bx : List (Nat × Option Box)} {j k off len sz : Nat} {el el2 : TypeId} {A B : List CV} {row2 : Bool} {vals : List Value} {row : Bool}
    (hs : s.all (fun p => p.2.inUse ((j, none) :: bx)) = true) (hA : A.all (CV.inUse ((j, none) :: bx)) = true) (hB : B.all (CV.inUse ((j, none) :: bx)) = true) (hb : bx.all (fun p => match p.2 with | some b => b.cells.all (CV.inUse ((j, none) :: bx)) | none => true) = true) (hk : look k bx = none) (hjk : Nat.beq j k = false)
    (hr : Rel n C ι ⟨s, (j, some ⟨el2, A ++ .slc k off len sz :: B, row2⟩) :: (k, some ⟨el, vals.map .val, row⟩) :: bx, X⟩ a w) :
    ∃ (blk cap : Nat) (arr : Array Value) (fr : Nat × Nat), X blk = none ∧ Frozen C blk arr fr ∧ len ≤ cap ∧ off + cap * sz ≤ arr.size ∧ (∃ sp, arr.toList = vals ++ sp) ∧
      Rel n C ι ⟨s, (j, some ⟨el2, A ++ .val (.slice (some ⟨blk, off, none⟩) len cap) :: B, row2⟩) :: bx, withBlock X blk (.cells arr el fr)⟩ a w := by
  have hjk' : j ≠ k := fun e => by rw [e, Nat.beq_refl] at hjk; cases hjk
  have hst : (⟨s, (j, some ⟨el2, A ++ .slc k off len sz :: B, row2⟩) :: (k, some ⟨el, vals.map .val, row⟩) :: bx, X⟩ : St).stat k = some (some ⟨el, vals.map .val, row⟩) := by
    simp [St.stat, look, hjk]
  have hstj : (⟨s, (j, some ⟨el2, A ++ .slc k off len sz :: B, row2⟩) :: (k, some ⟨el, vals.map .val, row⟩) :: bx, X⟩ : St).stat j = some (some ⟨el2, A ++ .slc k off len sz :: B, row2⟩) := by
    simp [St.stat, look]
  have hlk : ∀ k' x, look k' bx = some x → k' ≠ k := fun k' x h' e => by rw [e, hk] at h'; cases h'
  have hstb : ∀ k', k' ≠ j → ∀ x, look k' bx = some x → (⟨s, (j, some ⟨el2, A ++ .slc k off len sz :: B, row2⟩) :: (k, some ⟨el, vals.map .val, row⟩) :: bx, X⟩ : St).stat k' = some x := fun k' hne x h' => by
    simp only [St.stat, look]
    cases e : Nat.beq j k' with
    | true => exact absurd (Nat.eq_of_beq_eq_true e).symm hne
    | false =>
      cases e2 : Nat.beq k k' with
      | true => exact absurd (Nat.eq_of_beq_eq_true e2).symm (hlk k' x h')
      | false => exact h'
  obtain ⟨arr, fr, harr, hth, hsz, hbr⟩ := hr.boxes k _ hst rfl
  obtain ⟨arrj, frj, harrj, hthj, hszj, hbrj⟩ := hr.boxes j _ hstj rfl
  have hXn : X (ι k).1 = none := (hr.own k _ hst).2
  have hsp : ∃ sp, arr.toList = vals ++ sp := by
    unfold Box.rel at hbr
    cases hrow : row with
    | false =>
      rw [hrow] at hbr
      exact ⟨[], by rw [List.append_nil]; exact rel_vals hbr⟩
    | true =>
      rw [hrow] at hbr
      obtain ⟨us, sp, e, hl⟩ := hbr
      exact ⟨sp, by rw [e, rel_vals hl]⟩
  have hcell : ∃ us sp va v vb, arrj.toList = us ++ sp ∧ (row2 = false → sp = []) ∧ us = va ++ v :: vb ∧ CVs.rel (⟨s, (j, some ⟨el2, A ++ .slc k off len sz :: B, row2⟩) :: (k, some ⟨el, vals.map .val, row⟩) :: bx, X⟩ : St).stat ι A va ∧ (CV.slc k off len sz).rel (⟨s, (j, some ⟨el2, A ++ .slc k off len sz :: B, row2⟩) :: (k, some ⟨el, vals.map .val, row⟩) :: bx, X⟩ : St).stat ι v ∧ CVs.rel (⟨s, (j, some ⟨el2, A ++ .slc k off len sz :: B, row2⟩) :: (k, some ⟨el, vals.map .val, row⟩) :: bx, X⟩ : St).stat ι B vb := by
    generalize (⟨s, (j, some ⟨el2, A ++ .slc k off len sz :: B, row2⟩) :: (k, some ⟨el, vals.map .val, row⟩) :: bx, X⟩ : St).stat = S at hbrj ⊢
    unfold Box.rel at hbrj
    cases row2 with
    | false =>
      obtain ⟨va, v, vb, e, h1, h2, h3⟩ := rel_mid hbrj
      exact ⟨arrj.toList, [], va, v, vb, by simp, fun _ => rfl, e, h1, h2, h3⟩
    | true =>
      obtain ⟨us, sp, e0, hl⟩ := hbrj
      obtain ⟨va, v, vb, e, h1, h2, h3⟩ := rel_mid hl
      exact ⟨us, sp, va, v, vb, e0, fun h => (by cases h), e, h1, h2, h3⟩
  obtain ⟨us, sp2, va, v, vb, eus, hsp2, evs, h1, h2, h3⟩ := hcell
  simp only [CV.rel] at h2
  rw [hst] at h2
  obtain ⟨cap, rfl, hcap, hfit⟩ := h2
  refine ⟨(ι k).1, cap, arr, fr, hXn, ⟨(hr.own k _ hst).1, hth⟩, hcap, by omega, hsp, ?_⟩
  have hon : ∀ k', (look k' ((j, (none : Option Box)) :: bx)).isSome = true → k' ≠ k := fun k' hk' e => by
    subst e
    simp only [look, hjk, cond_false, hk] at hk'
    cases hk'
  have hnew : ∀ k', (⟨s, (j, some ⟨el2, A ++ .val (.slice (some ⟨(ι k).1, off, none⟩) len cap) :: B, row2⟩) :: bx, withBlock X (ι k).1 (.cells arr el fr)⟩ : St).stat k' = if k' = j then some (some ⟨el2, A ++ .val (.slice (some ⟨(ι k).1, off, none⟩) len cap) :: B, row2⟩) else look k' bx := fun k' => by
    simp only [St.stat, look]
    cases e : Nat.beq j k' with
    | true => rw [if_pos (Nat.eq_of_beq_eq_true e).symm]; rfl
    | false => rw [if_neg (fun h => by rw [h, Nat.beq_refl] at e; cases e)]; rfl
  have hstat : ∀ k', k' ≠ k → ∀ x, (⟨s, (j, some ⟨el2, A ++ .val (.slice (some ⟨(ι k).1, off, none⟩) len cap) :: B, row2⟩) :: bx, withBlock X (ι k).1 (.cells arr el fr)⟩ : St).stat k' = some (some x) → ∃ y, (⟨s, (j, some ⟨el2, A ++ .slc k off len sz :: B, row2⟩) :: (k, some ⟨el, vals.map .val, row⟩) :: bx, X⟩ : St).stat k' = some (some y) := fun k' hne x hx => by
    rw [hnew] at hx
    by_cases e : k' = j
    · rw [e]; exact ⟨_, hstj⟩
    · rw [if_neg e] at hx
      exact ⟨x, hstb k' e _ hx⟩
  have hmean : ∀ {c : CV} {v : Value}, c.inUse ((j, none) :: bx) = true → c.rel (⟨s, (j, some ⟨el2, A ++ .slc k off len sz :: B, row2⟩) :: (k, some ⟨el, vals.map .val, row⟩) :: bx, X⟩ : St).stat ι v →
      c.rel (⟨s, (j, some ⟨el2, A ++ .val (.slice (some ⟨(ι k).1, off, none⟩) len cap) :: B, row2⟩) :: bx, withBlock X (ι k).1 (.cells arr el fr)⟩ : St).stat ι v := fun {c v} hu hc => by
    have key : ∀ k', (look k' ((j, (none : Option Box)) :: bx)).isSome = true → (k' = j) ∨ (k' ≠ j ∧ ∃ x, look k' bx = some x ∧ (⟨s, (j, some ⟨el2, A ++ .slc k off len sz :: B, row2⟩) :: (k, some ⟨el, vals.map .val, row⟩) :: bx, X⟩ : St).stat k' = some x) := fun k' hk' => by
      by_cases e : k' = j
      · exact .inl e
      · right
        have e2 : Nat.beq j k' = false := by
          cases h : Nat.beq j k' with
          | false => rfl
          | true => exact absurd (Nat.eq_of_beq_eq_true h).symm e
        simp only [look, e2, cond_false] at hk'
        obtain ⟨x, hx⟩ := Option.isSome_iff_exists.1 hk'
        exact ⟨e, x, hx, hstb k' e x hx⟩
    cases c with
    | val u => exact hc
    | junk => trivial
    | ptr k' o =>
      simp only [CV.rel] at hc ⊢
      rw [hnew]
      rcases key k' hu with e | ⟨e, x, hx, hx2⟩
      · subst e
        rw [hstj] at hc
        rw [if_pos rfl]; exact hc
      · rw [hx2] at hc
        rw [if_neg e, hx]; exact hc
    | slc k' o n' z' =>
      simp only [CV.rel] at hc ⊢
      rw [hnew]
      rcases key k' hu with e | ⟨e, x, hx, hx2⟩
      · subst e
        rw [hstj] at hc
        rw [if_pos rfl]; exact hc
      · rw [hx2] at hc
        rw [if_neg e, hx]; exact hc
    | mp k' =>
      simp only [CV.rel] at hc ⊢
      rw [hnew]
      rcases key k' hu with e | ⟨e, x, hx, hx2⟩
      · subst e
        rw [hstj] at hc
        rw [if_pos rfl]; exact hc
      · rw [hx2] at hc
        rw [if_neg e, hx]; exact hc
    | fn fi gi k' =>
      simp only [CV.rel] at hc ⊢
      rw [hnew]
      rcases key k' hu with e | ⟨e, x, hx, hx2⟩
      · subst e
        rw [hstj] at hc
        rw [if_pos rfl]; exact hc
      · rw [hx2] at hc
        rw [if_neg e, hx]; exact hc
    | hang g hg k' =>
      simp only [CV.rel] at hc ⊢
      rw [hnew]
      rcases key k' hu with e | ⟨e, x, hx, hx2⟩
      · subst e
        rw [hstj] at hc
        rw [if_pos rfl]; exact hc
      · rw [hx2] at hc
        rw [if_neg e, hx]; exact hc
  have hmeans : ∀ {l : List CV} {vs : List Value}, l.all (CV.inUse ((j, none) :: bx)) = true → CVs.rel (⟨s, (j, some ⟨el2, A ++ .slc k off len sz :: B, row2⟩) :: (k, some ⟨el, vals.map .val, row⟩) :: bx, X⟩ : St).stat ι l vs →
      CVs.rel (⟨s, (j, some ⟨el2, A ++ .val (.slice (some ⟨(ι k).1, off, none⟩) len cap) :: B, row2⟩) :: bx, withBlock X (ι k).1 (.cells arr el fr)⟩ : St).stat ι l vs := by
    intro l
    induction l with
    | nil => intro vs _ h; cases vs with
      | nil => trivial
      | cons => exact h.elim
    | cons c l ih => intro vs hu h; cases vs with
      | nil => exact h.elim
      | cons v vs =>
        simp only [List.all_cons, Bool.and_eq_true] at hu
        exact ⟨hmean hu.1 h.1, ih hu.2 h.2⟩
  have hsv : ∀ {l : SV} {v : Value}, l.inUse ((j, none) :: bx) = true → l.rel (⟨s, (j, some ⟨el2, A ++ .slc k off len sz :: B, row2⟩) :: (k, some ⟨el, vals.map .val, row⟩) :: bx, X⟩ : St).stat ι v →
      l.rel (⟨s, (j, some ⟨el2, A ++ .val (.slice (some ⟨(ι k).1, off, none⟩) len cap) :: B, row2⟩) :: bx, withBlock X (ι k).1 (.cells arr el fr)⟩ : St).stat ι v := fun {l v} hu h => by
    cases l with
    | one c => exact hmean hu h
    | agg l => obtain ⟨arr', e, hl⟩ := h; exact ⟨arr', e, hmeans hu hl⟩
  exact {
    defers := hr.defers, size := hr.size
    slots := fun d' lv hd => by
      obtain ⟨v', hv', hr'⟩ := hr.slots d' lv hd
      refine ⟨v', hv', ?_⟩
      have hu : lv.inUse ((j, none) :: bx) = true := List.all_eq_true.1 hs _ (look_mem hd)
      cases lv with
      | sv l => exact hsv hu hr'
      | tup l =>
        obtain ⟨arr', e, hl⟩ := hr'
        refine ⟨arr', e, ?_⟩
        generalize arr'.toList = vs at hl
        have hu2 : l.all (SV.inUse ((j, none) :: bx)) = true := hu
        clear hu hd hv'
        induction l generalizing vs with
        | nil => cases vs with
          | nil => trivial
          | cons => exact hl.elim
        | cons c l ih => cases vs with
          | nil => exact hl.elim
          | cons v vs =>
            simp only [List.all_cons, Bool.and_eq_true] at hu2
            exact ⟨hsv hu2.1 hl.1, ih vs hl.2 hu2.2⟩
    res := by
      obtain ⟨F, hF⟩ := hr.res
      refine hF.keep (fun i e cs R hi => ?_) (fun _ _ _ _ _ hj => hj) (fun _ _ ho => ho) (fun b _ hx hne _ => ?_) (fun i bi hi => ?_)
      · rw [hnew] at hi
        by_cases e : i = j
        · rw [if_pos e] at hi; cases hi
        · rw [if_neg e] at hi; exact ⟨hstb i e _ hi, rfl⟩
      · show withBlock X (ι k).1 _ b = none
        unfold withBlock
        rw [if_neg (fun e => hne k _ hst rfl e.symm)]
        exact hx
      · have hne : i ≠ k := fun e => by
          rw [hnew, e] at hi
          by_cases e2 : k = j
          · exact hjk' e2.symm
          · rw [if_neg e2, hk] at hi; cases hi
        obtain ⟨y, hy⟩ := hstat i hne bi hi
        exact .inl ⟨y, hy, rfl⟩
    boxes := fun k' b hb' hbk => by
      rw [hnew] at hb'
      by_cases e : k' = j
      · subst e
        rw [if_pos rfl] at hb'
        cases hb'
        refine ⟨arrj, frj, harrj, hthj, hszj, ?_⟩
        have hnewcells : CVs.rel (⟨s, (k', some ⟨el2, A ++ .val (.slice (some ⟨(ι k).1, off, none⟩) len cap) :: B, row2⟩) :: bx, withBlock X (ι k).1 (.cells arr el fr)⟩ : St).stat ι (A ++ .val (.slice (some ⟨(ι k).1, off, none⟩) len cap) :: B) us := by
          rw [evs]
          exact CVs.rel_append (hmeans hA h1) ⟨rfl, hmeans hB h3⟩
        unfold Box.rel
        cases row2 with
        | false => rw [hsp2 rfl, List.append_nil] at eus; rw [eus]; exact hnewcells
        | true => exact ⟨us, sp2, eus, hnewcells⟩
      · rw [if_neg e] at hb'
        obtain ⟨arr', fr', g1, g2, g3, g4⟩ := hr.boxes k' b (hstb k' e _ hb') hbk
        refine ⟨arr', fr', g1, g2, g3, ?_⟩
        have hu : b.cells.all (CV.inUse ((j, none) :: bx)) = true := by simpa using List.all_eq_true.1 hb _ (look_mem hb')
        unfold Box.rel at g4 ⊢
        cases hrow : b.row with
        | res R => rw [hrow] at g4; exact g4.elim
        | bool r =>
          cases r with
          | false => rw [hrow] at g4; exact hmeans hu g4
          | true => rw [hrow] at g4; obtain ⟨us', sp', e', hl'⟩ := g4; exact ⟨us', sp', e', hmeans hu hl'⟩
    own := fun k' b hb' => by
      have hne : k' ≠ k := fun e => by
        rw [hnew, e] at hb'
        by_cases e2 : k = j
        · exact hjk' e2.symm
        · rw [if_neg e2, hk] at hb'; cases hb'
      obtain ⟨b0, hb0⟩ := hstat k' hne b hb'
      obtain ⟨g1, g2⟩ := hr.own k' b0 hb0
      refine ⟨g1, ?_⟩
      show withBlock X (ι k).1 _ (ι k').1 = none
      unfold withBlock
      rw [if_neg (fun e => hne (hr.inj k' k b0 _ hb0 hst e))]
      exact g2
    inj := fun k1 k2 b1 b2 g1 g2 he => by
      have hne : ∀ k' b, (⟨s, (j, some ⟨el2, A ++ .val (.slice (some ⟨(ι k).1, off, none⟩) len cap) :: B, row2⟩) :: bx, withBlock X (ι k).1 (.cells arr el fr)⟩ : St).stat k' = some (some b) → k' ≠ k := fun k' b hb' e => by
        rw [hnew, e] at hb'
        by_cases e2 : k = j
        · exact hjk' e2.symm
        · rw [if_neg e2, hk] at hb'; cases hb'
      obtain ⟨c1, hc1⟩ := hstat k1 (hne k1 b1 g1) b1 g1
      obtain ⟨c2, hc2⟩ := hstat k2 (hne k2 b2 g2) b2 g2
      exact hr.inj k1 k2 c1 c2 hc1 hc2 he
    keep := fun k' b hb' hge => by
      have hne : k' ≠ k := fun e => by
        rw [hnew, e] at hb'
        by_cases e2 : k = j
        · exact hjk' e2.symm
        · rw [if_neg e2, hk] at hb'; cases hb'
      obtain ⟨b0, hb0⟩ := hstat k' hne b hb'
      exact hr.keep k' b0 hb0 hge
    ext := fun b o hbo => by
      have hbo : withBlock X (ι k).1 (.cells arr el fr) b = some o := hbo
      unfold withBlock at hbo
      by_cases e : b = (ι k).1
      · rw [if_pos e] at hbo
        rw [e, harr]; exact hbo
      · rw [if_neg e] at hbo
        exact hr.ext b o hbo
    frame := hr.frame, big := hr.big, os := hr.os, tape := hr.tape, output := hr.output }
theorem Leads.freezeCell {Mid : St → Prop} {s : List (Nat × LV)} {bx : List (Nat × Option Box)} {j k off len sz : Nat} {el el2 : TypeId} {A B : List CV} {row2 : Bool} {vals : List Value} {row : Bool}
    (hs : s.all (fun p => p.2.inUse ((j, none) :: bx)) = true) (hA : A.all (CV.inUse ((j, none) :: bx)) = true) (hB : B.all (CV.inUse ((j, none) :: bx)) = true) (hb : bx.all (fun p => match p.2 with | some b => b.cells.all (CV.inUse ((j, none) :: bx)) | none => true) = true) (hk : look k bx = none) (hjk : Nat.beq j k = false)
    (h : ∀ (blk cap : Nat) (arr : Array Value) (fr : Nat × Nat), X blk = none → Frozen C blk arr fr → len ≤ cap → off + cap * sz ≤ arr.size → (∃ sp, arr.toList = vals ++ sp) →
      Leads n C Mid ⟨s, (j, some ⟨el2, A ++ .val (.slice (some ⟨blk, off, none⟩) len cap) :: B, row2⟩) :: bx, withBlock X blk (.cells arr el fr)⟩) :
    Leads n C Mid ⟨s, (j, some ⟨el2, A ++ .slc k off len sz :: B, row2⟩) :: (k, some ⟨el, vals.map .val, row⟩) :: bx, X⟩ := ⟨fun ι a w hr => by
  obtain ⟨blk, cap, arr, fr, h1, h2, h3, h4, h5, h6⟩ := hr.freezeCell hs hA hB hb hk hjk
  exact (h blk cap arr fr h1 h2 h3 h4 h5).out ι a w h6⟩
end
end Go.Lg
end
section
namespace Go.Lg
open Go Go.RowKit
theorem args_rel : ∀ (vals : List Value), LVs.rel noS (fun _ => (0, 0)) (vals.map toLV) vals
  | [] => trivial
  | v :: vs => ⟨toLV_rel _ _ v, args_rel vs⟩
section
variable {P : Program} {n : Nat} {ops os : List Oper} {acc : List Eff} {K : List Eff → St → Prop} {s : List (Nat × LV)} {bx : List (Nat × Option Box)} {X : Nat → Option Obj} {σ : St}
theorem LOK.fieldAddrX {d : Nat} {s i : Nat} {x : Operand} {ty : TypeId} {pos : String} {after : Array Edge} {g : Option (Nat × Bool)} {b off o m : Nat} {off' : Nat} (hx : σ.ev x = some (.sv (.one (.val (.pointer (some ⟨b, off, none⟩))))))
    (hf : fieldOf P s i = some (o, m + 1)) (ho : off + o = off') :
    LOK P n ops ⟨some d, .fieldAddr s x i, ty, pos, after, g⟩ σ ⟨[(d, .sv (.one (.val (.pointer (some ⟨b, off', none⟩)))))], [], []⟩ :=
  LOK.value fun σ' ha C ι a w hr => by
    have h1 : a.eval x = _ := hr.ev ((ha.ev (x := x) (by simp [Op.operands])).trans hx)
    subst ho
    unfold fieldOf at hf
    cases hu : P.underlying s with
    | none => simp [hu] at hf
    | some dd =>
      cases dd <;> simp only [hu] at hf <;> try (simp at hf; done)
      rename_i fs
      cases hfi : fs[i]? with
      | none => simp [hfi] at hf
      | some f =>
        cases hin : P.info? f.type with
        | none => simp [hfi, hin] at hf
        | some inf =>
          simp only [hfi, hin, Option.map_some, Option.some.injEq, Prod.mk.injEq] at hf
          obtain ⟨e1, e2⟩ := hf
          refine ⟨_, ?_, rfl⟩
          simp [execOp, Instr.fieldAt, run_underlying hu, hfi, Instr.sureAddr, h1, fieldPlace, sizeOf, typeInfo, hin, e2, addr_add, e1]
theorem K.fieldAddrX {d : Nat} {t : TypeId} {x : Operand} {ty : TypeId} {pos : String} {after : Array Edge} {g : Option (Nat × Bool)} {i b off o m : Nat} [f : FieldT P t i o m] (hx : (⟨s, bx, X⟩ : St).ev x = some (.sv (.one (.val (.pointer (some ⟨b, off, none⟩)))))) {off' : Nat} (ho : Nat.add off o = off') (hw : Want ops s g)
    (kont : RunK P n ops os ⟨(d, .sv (.one (.val (.pointer (some ⟨b, off', none⟩))))) :: s, bx, X⟩ (⟨[(d, .sv (.one (.val (.pointer (some ⟨b, off', none⟩)))))], [], []⟩ :: acc) K) :
    RunK P n ops (⟨some d, .fieldAddr t x i, ty, pos, after, g⟩ :: os) ⟨s, bx, X⟩ acc K := RunK.g1 (LOK.fieldAddrX hx f.h ho) hw kont
end
end Go.Lg
end
section
namespace Go.Lg
open Go Go.RowKit
section
variable {P : Program} {n : Nat} {ops os : List Oper} {acc : List Eff} {K : List Eff → St → Prop} {s : List (Nat × LV)} {bx : List (Nat × Option Box)} {X : Nat → Option Obj} {σ : St}
end
end Go.Lg
end
section
namespace Go.Lg
open Go Go.RowKit
section
variable {P : Program} {n : Nat} {ops os : List Oper} {acc : List Eff} {K : List Eff → St → Prop} {s : List (Nat × LV)} {bx : List (Nat × Option Box)} {X : Nat → Option Obj} {σ : St}
theorem LOK.max2 {d : Nat} {tys : Array TypeId} {x y : Operand} {ty : TypeId} {pos : String} {after_ : Array Edge} {g : Option (Nat × Bool)} {k : IntKind} {a b c : Int} (hx : σ.ev x = some (.sv (.one (.val (.int k a))))) (hy : σ.ev y = some (.sv (.one (.val (.int k b))))) (hc : (if b > a then b else a) = c) :
    LOK P n ops ⟨some d, .call ⟨.builtin .max, #[x, y], tys⟩, ty, pos, after_, g⟩ σ ⟨[(d, .sv (.one (.val (.int k c))))], [], []⟩ :=
  LOK.value fun σ' ha C ι av w hr => by
    have h1 : av.eval x = .int k a := hr.ev ((ha.ev (x := x) (by simp [Op.operands, Call.operands])).trans hx)
    have h2 : av.eval y = .int k b := hr.ev ((ha.ev (x := y) (by simp [Op.operands, Call.operands])).trans hy)
    have hrun : (Builtin.max_ tys ty #[.int k a, .int k b]).run P w = .ok (.int k c) w := by
      subst hc
      simp [Builtin.max_, Builtin.max2]
    exact ⟨_, by simp [execOp, resolve, invoke, builtin, h1, h2, hrun], rfl⟩
theorem K.max2 {d : Nat} {tys : Array TypeId} {x y : Operand} {ty : TypeId} {pos : String} {after_ : Array Edge} {g : Option (Nat × Bool)} {k : IntKind} {a b c : Int} (hx : (⟨s, bx, X⟩ : St).ev x = some (.sv (.one (.val (.int k a))))) (hy : (⟨s, bx, X⟩ : St).ev y = some (.sv (.one (.val (.int k b))))) (hc : (if b > a then b else a) = c) (hw : Want ops s g)
    (kont : RunK P n ops os ⟨(d, .sv (.one (.val (.int k c)))) :: s, bx, X⟩ (⟨[(d, .sv (.one (.val (.int k c))))], [], []⟩ :: acc) K) :
    RunK P n ops (⟨some d, .call ⟨.builtin .max, #[x, y], tys⟩, ty, pos, after_, g⟩ :: os) ⟨s, bx, X⟩ acc K := RunK.g1 (LOK.max2 hx hy hc) hw kont
theorem slcBuild_many {t e : TypeId} {m sz : Nat} {z : Array Value} (hu : P.underlying t = some (.slice e)) (hz : (P.info? e).map (fun i => (i.size, i.zero.map (fun z => z.cells))) = some (sz, some z)) (hs : z.size = sz) (hm : m * sz ≤ 16777216) :
    slcBuild P t m = some ((List.replicate m z.toList).flatten, sz, e) := by
  unfold slcBuild
  rw [hu]
  simp only
  cases hi : P.info? e with
  | none => rw [hi] at hz; cases hz
  | some ie =>
    rw [hi] at hz
    simp only [Option.map_some, Option.some.injEq, Prod.mk.injEq] at hz
    obtain ⟨h1, h2⟩ := hz
    cases hzz : ie.zero with
    | none => rw [hzz] at h2; cases h2
    | some zv =>
      rw [hzz] at h2
      simp only [Option.map_some, Option.some.injEq] at h2
      simp only [hzz, h1, h2]
      rw [if_neg (show ¬ m * sz > 2 ^ 24 by omega)]
      have key : ∀ m : Nat, ((List.range (m * sz)).map fun i => z[i % z.size]!) = (List.replicate m z.toList).flatten := by
        intro m
        induction m with
        | zero => simp
        | succ m ih =>
          rw [Nat.succ_mul, List.range_add, List.map_append, ih, List.replicate_succ', List.flatten_append]
          congr 1
          rw [List.map_map]
          simp only [List.flatten_cons, List.flatten_nil, List.append_nil]
          apply List.ext_getElem
          · simp [hs]
          · intro i h3 h4
            have hi : i < sz := by simpa [hs] using h4
            have h5 : i % sz = i := Nat.mod_eq_of_lt hi
            have h6 : i < z.size := by omega
            rw [List.getElem_map, Function.comp_apply, List.getElem_range, hs, Nat.mul_add_mod_self_right, h5, Array.getElem_toList]
            exact getElem!_pos z i h6
      rw [key]
theorem MSpec.plain {f : FuncId} {args : List LV} {r : LV} (h : MSpec P X f args [] r []) : PSpec P X f args r :=
  ⟨h.enters, fun w vals hX hargs => (h.out w vals (fun _ => (0, 0)) (fun _ _ => none) ⟨fun k b hk => (by simp [stOf, look] at hk), fun k b hk => (by simp [stOf, look] at hk), fun k k' b b' hk => (by simp [stOf, look] at hk), hX, ⟨fun k e cs R hk => (by simp [stOf, look] at hk), fun k b o ho => (by cases ho), fun k k' b h => absurd rfl h⟩⟩ hargs).mono fun e w' ⟨v, ι', _, he, hr, _, hp⟩ =>
    ⟨v, he, LV.rel_later (later_noS _ _ _) hr, ⟨hp.os, hp.tape, hp.output, hp.big, fun b hb => hp.frame b hb (fun hl => by
      rcases hl with ⟨k, b0, hk, _⟩ | ⟨k, hk⟩
      · simp [stOf, look] at hk
      · exact hk rfl)⟩⟩⟩
end
end Go.Lg
end
section
namespace Go.Lg.Fld
open Go Go.Lg
abbrev planV (size : Int) (c : CV) : SV := .agg [.val (.int .i64 size), c]
def canB (fs : List Fl) : Bool := decide (fs.length ≤ 8) && fs.all Fl.ok
theorem canB_err {fs : List Fl} (h : canB fs = false) : layErr fs = 1 := by
  unfold canB at h
  unfold layErr
  by_cases h8 : 8 < fs.length
  · rw [if_pos h8]
  · rw [if_neg h8]
    rw [decide_eq_true (show fs.length ≤ 8 by omega), Bool.true_and] at h
    rw [h, if_neg (by simp)]
theorem canB_ok {fs : List Fl} (h : canB fs = true) : fs.length ≤ 8 ∧ fs.all Fl.ok = true ∧ layErr fs = if 256 < rowSize fs then 5 else 0 := by
  unfold canB at h
  rw [Bool.and_eq_true, decide_eq_true_eq] at h
  refine ⟨h.1, h.2, ?_⟩
  unfold layErr
  rw [if_neg (by omega), if_pos h.2]
theorem round_up {n : Nat} (h : isWd n) (a : Nat) : (a + n - 1) / n * n = roundUp a n := by
  unfold roundUp
  rcases h with rfl | rfl | rfl | rfl <;> omega
end Go.Lg.Fld
namespace Go.Proofs.Ytjifibloagkeeaa
open Go Go.Lg Go.Lg.Fld
set_option maxRecDepth 100000
variable (X : Nat → Option Obj)
theorem multipleFrom_spec (a w : Nat) (hw : isWd w) (ha : a < 1000000) : PSpec Try.prog X 51 [Ln .i64 (a : Nat), Ln .i64 (w : Nat)] (Ln .i64 (roundUp a w : Nat)) := by
  rw [← round_up hw]
  have hw8 : 1 ≤ w ∧ w ≤ 8 := by rcases hw with e | e | e | e <;> omega
  have hq : ((a + w - 1 : Nat) : Int) / ((w : Nat) : Int) = (((a + w - 1) / w : Nat) : Int) := (Int.natCast_ediv _ _).symm
  have hs : IntKind.i64.wrap ((a : Nat) + (w : Nat) - 1 : Int) = ((a + w - 1 : Nat) : Int) := by rw [wrap_i64 (by omega)]; omega
  have hd : IntKind.i64.wrap (((a + w - 1 : Nat) : Int).tdiv ((w : Nat) : Int)) = (((a + w - 1) / w : Nat) : Int) := by rw [quo_i64 (by omega) (by omega)]; exact hq
  have hb : (a + w - 1) / w * w ≤ a + w - 1 := Nat.div_mul_le_self _ _
  have hm : IntKind.i64.wrap ((((a + w - 1) / w : Nat) : Int) * ((w : Nat) : Int)) = (((a + w - 1) / w * w : Nat) : Int) := by
    rw [← Int.natCast_mul, wrap_i64 (by omega)]
  refine PSpec.intro Try.func51 rfl (by kernel_rfl) rfl rfl ?_
  intro C
  (refine LWP.seq <| LWP.region (by kernel_rfl) <| kas rfl <| RunK.nil <| LWP.seq <| LWP.region (by kernel_rfl) <| kmv rfl <| kmv rfl <| kad rfl rfl (wrap_i64 (by omega)) <| K.sub rfl rfl hs .plain <| kmv rfl <| K.quo rfl rfl (by omega) hd .plain <| kmv rfl <| K.mul rfl rfl hm .plain ?_; refine kas rfl <| RunK.nil <| LWP.ret ?_)
  exact ⟨[_], ⟨rfl, trivial⟩, rfl⟩
end Go.Proofs.Ytjifibloagkeeaa
end
section
namespace Go.Lg.Fld
open Go Go.Lg
theorem take_ok {fs : List Fl} (h : fs.all Fl.ok = true) (i : Nat) : (fs.take i).all Fl.ok = true := by
  rw [List.all_eq_true] at h ⊢
  exact fun f hf => h f (List.mem_of_mem_take hf)
theorem drop_at {α : Type} {l : List α} {i : Nat} {x : α} (h : l[i]? = some x) : l.drop i = x :: l.drop (i + 1) := by
  obtain ⟨hi, e⟩ := List.getElem?_eq_some_iff.1 h
  rw [List.drop_eq_getElem_cons hi, e]
theorem fill_set {α : Type} {S : List α} {z x : α} {n i : Nat} (hS : S.length = i) (hi : i < n) : (S ++ List.replicate (n - i) z).set i x = (S ++ [x]) ++ List.replicate (n - (i + 1)) z := by
  rw [List.set_append_right _ _ (by omega), hS, Nat.sub_self]
  have : n - i = (n - (i + 1)) + 1 := by omega
  rw [this, List.replicate_succ, List.set_cons_zero, List.append_assoc]
  rfl
theorem fill_at {α : Type} {S : List α} {z x : α} {n i : Nat} (hS : S.length = i) : ((S ++ [x]) ++ List.replicate n z)[i]? = some x := by
  rw [List.append_assoc, List.getElem?_append_right (by omega), hS, Nat.sub_self]
  rfl
end Go.Lg.Fld
namespace Go.Proofs.Ytjifibloagkeeaa
open Go Go.Lg Go.Lg.Fld
set_option maxRecDepth 100000
variable (X : Nat → Option Obj)
theorem canBe_spec (ad : Option Addr) (cap : Nat) (fs : List Fl) (hin : FieldsIn X ad fs) (hbig : fs.length < 4611686018427387904) (r : Bool) (hr : canB fs = r) : PSpec Try.prog X 49 [Lx ad fs.length cap] (Lb r) := by
  subst hr
  refine PSpec.intro Try.func49 rfl (by kernel_rfl) rfl rfl ?_
  intro C
  by_cases hlong : 8 < fs.length
  · have hc : canB fs = false := by unfold canB; rw [decide_eq_false (by omega), Bool.false_and]
    rw [hc]
    (refine LWP.seq <| LWP.region (by kernel_rfl) <| kas rfl <| RunK.nil <| LWP.seq <| LWP.seq <| LWP.region (by kernel_rfl) <| kmv rfl <| K.lenX rfl SliceT.h rfl .plain ?_; refine K.gtr rfl rfl (decide_eq_true (by omega)) .plain <| RunK.nil <| LWP.condT rfl ?_; refine LWP.seq <| LWP.region (by kernel_rfl) <| kas rfl <| RunK.nil <| LWP.ret ?_)
    exact ⟨[_], ⟨rfl, trivial⟩, rfl⟩
  have h8 : fs.length ≤ 8 := by omega
  have hcb : canB fs = fs.all Fl.ok := by unfold canB; rw [decide_eq_true h8, Bool.true_and]
  rw [hcb]
  (refine LWP.seq <| LWP.region (by kernel_rfl) <| kas rfl <| RunK.nil <| LWP.seq <| LWP.seq <| LWP.region (by kernel_rfl) <| kmv rfl <| K.lenX rfl SliceT.h rfl .plain ?_; refine K.gtr rfl rfl (decide_eq_false (by omega)) .plain <| RunK.nil <| LWP.condF rfl ?_; refine LWP.skip ?_; refine LWP.seq <| LWP.seq <| LWP.region (by kernel_rfl) <| kmv rfl <| K.lenX rfl SliceT.h rfl .plain ?_; refine kmv rfl <| RunK.nil <| LWP.block ?_)
  refine LWP.loop (fun m σ => ∃ i : Nat, i ≤ fs.length ∧ m = fs.length - i ∧ (fs.take i).all Fl.ok = true ∧ σ = ⟨[(8, Lx ad fs.length cap), (9, Ln .i64 (fs.length : Nat)), (10, Ln .i64 (i : Nat))], [], X⟩) fs.length
    ⟨_, Le.of (by exact ⟨rfl, rfl, rfl, trivial⟩) (by exact trivial) (by exact rfl) (by exact rfl) (by exact rfl), 0, by omega, by omega, rfl, rfl⟩ ?_
  rintro m σ ⟨i, hi, rfl, hall, rfl⟩
  by_cases hlt : i < fs.length
  · obtain ⟨f, hf⟩ : ∃ f, fs[i]? = some f := ⟨_, List.getElem?_eq_getElem hlt⟩
    obtain ⟨blk, off, arr, el, fr, rfl, hX, hsz, hcells⟩ := hin.at hf
    have hio : off + Int.toNat (i : Int) * 3 = off + i * 3 := by simp
    have hmem : f ∈ fs := List.mem_of_getElem? hf
    have hsm := hin.small f hmem
    have hB := fSize_spec X f.kind
    cases hok : f.ok with
    | false =>
      have hno : fs.all Fl.ok = false := by
        cases e : fs.all Fl.ok with
        | false => rfl
        | true => rw [List.all_eq_true.1 e f hmem] at hok; cases hok
      rw [hno]
      by_cases h0 : kW f.kind = 0
      · rw [h0] at hB
        (refine LWP.seq <| LWP.region (by kernel_rfl) <| klt rfl rfl (decide_eq_true (by omega)) <| RunK.nil <| LWP.seq <| LWP.condT rfl ?_; refine LWP.skip ?_; refine LWP.seq <| LWP.block <| LWP.seq <| LWP.region (by kernel_rfl) <| K.indexX rfl rfl SliceT.h (by omega) hio .plain <| K.loadXagg rfl hX (by kernel_rfl) hsz hcells .plain <| K.alloc rfl .plain ?_; refine K.storeAll rfl rfl rfl rfl rfl rfl .plain ?_; refine RunK.nil <| LWP.seq <| LWP.region (by kernel_rfl) <| kfa rfl rfl ?_; refine kl1 rfl rfl rfl <| kca rfl rfl (hB) <| keq rfl rfl (beq_iff_eq.2 (by omega)) <| kmv rfl <| RunK.passed rfl rfl rfl <| RunK.passed rfl rfl rfl <| RunK.passed rfl rfl rfl <| kpt rfl rfl <| kmv rfl <| RunK.passed rfl rfl rfl <| RunK.passed rfl rfl rfl <| RunK.passed rfl rfl rfl <| kpt rfl rfl <| RunK.nil ?_; refine LWP.condT rfl ?_; refine LWP.seq <| LWP.region (by kernel_rfl) <| kas rfl <| RunK.nil <| LWP.ret ?_)
        exact ⟨[_], ⟨rfl, trivial⟩, rfl⟩
      · have hk : kK f.kind = true := by
          cases e : kK f.kind with
          | true => rfl
          | false => exact absurd ((kW_zero f.kind).2 e) h0
        by_cases h1 : f.count < 1
        · (refine LWP.seq <| LWP.region (by kernel_rfl) <| klt rfl rfl (decide_eq_true (by omega)) <| RunK.nil <| LWP.seq <| LWP.condT rfl ?_; refine LWP.skip ?_; refine LWP.seq <| LWP.block <| LWP.seq <| LWP.region (by kernel_rfl) <| K.indexX rfl rfl SliceT.h (by omega) hio .plain <| K.loadXagg rfl hX (by kernel_rfl) hsz hcells .plain <| K.alloc rfl .plain ?_; refine K.storeAll rfl rfl rfl rfl rfl rfl .plain ?_; refine RunK.nil <| LWP.seq <| LWP.region (by kernel_rfl) <| kfa rfl rfl ?_; refine kl1 rfl rfl rfl <| kca rfl rfl (hB) <| keq rfl rfl (beq_eq_false_iff_ne.2 (by omega)) <| kmv rfl <| K.fieldAddr rfl rfl (.taken rfl rfl) ?_; refine K.loadOne rfl rfl rfl (.taken rfl rfl) ?_; refine K.lss rfl rfl (decide_eq_true (by omega)) (.taken rfl rfl) ?_; refine kpf rfl rfl <| kmv rfl <| RunK.passed rfl rfl rfl <| RunK.passed rfl rfl rfl <| RunK.passed rfl rfl rfl <| kpt rfl rfl <| RunK.nil <| LWP.condT rfl ?_; refine LWP.seq <| LWP.region (by kernel_rfl) <| kas rfl <| RunK.nil <| LWP.ret ?_)
          exact ⟨[_], ⟨rfl, trivial⟩, rfl⟩
        · have h2 : 8 < f.count := by
            unfold Fl.ok at hok
            rw [hk, decide_eq_true (show 1 ≤ f.count by omega)] at hok
            simpa using hok
          (refine LWP.seq <| LWP.region (by kernel_rfl) <| klt rfl rfl (decide_eq_true (by omega)) <| RunK.nil <| LWP.seq <| LWP.condT rfl ?_; refine LWP.skip ?_; refine LWP.seq <| LWP.block <| LWP.seq <| LWP.region (by kernel_rfl) <| K.indexX rfl rfl SliceT.h (by omega) hio .plain <| K.loadXagg rfl hX (by kernel_rfl) hsz hcells .plain <| K.alloc rfl .plain ?_; refine K.storeAll rfl rfl rfl rfl rfl rfl .plain ?_; refine RunK.nil <| LWP.seq <| LWP.region (by kernel_rfl) <| kfa rfl rfl ?_; refine kl1 rfl rfl rfl <| kca rfl rfl (hB) <| keq rfl rfl (beq_eq_false_iff_ne.2 (by omega)) <| kmv rfl <| K.fieldAddr rfl rfl (.taken rfl rfl) ?_; refine K.loadOne rfl rfl rfl (.taken rfl rfl) ?_; refine K.lss rfl rfl (decide_eq_false (by omega)) (.taken rfl rfl) ?_; refine kpf rfl rfl <| kmv rfl <| K.fieldAddr rfl rfl (.taken rfl rfl) ?_; refine K.loadOne rfl rfl rfl (.taken rfl rfl) ?_; refine K.gtr rfl rfl (decide_eq_true (by omega)) (.taken rfl rfl) ?_; refine kpf rfl rfl <| RunK.nil <| LWP.condT rfl ?_; refine LWP.seq <| LWP.region (by kernel_rfl) <| kas rfl <| RunK.nil <| LWP.ret ?_)
          exact ⟨[_], ⟨rfl, trivial⟩, rfl⟩
    | true =>
      have hall' := take_all hall hf hok
      obtain ⟨hw, hn1, hn8, hnc⟩ := ok_w hok
      have hw1 : 1 ≤ kW f.kind := by have hwk : kW f.kind = f.w := rfl; rcases hw with e | e | e | e <;> omega
      (refine LWP.seq <| LWP.region (by kernel_rfl) <| klt rfl rfl (decide_eq_true (by omega)) <| RunK.nil <| LWP.seq <| LWP.condT rfl ?_; refine LWP.skip ?_; refine LWP.seq <| LWP.block <| LWP.seq <| LWP.region (by kernel_rfl) <| K.indexX rfl rfl SliceT.h (by omega) hio .plain <| K.loadXagg rfl hX (by kernel_rfl) hsz hcells .plain <| K.alloc rfl .plain ?_; refine K.storeAll rfl rfl rfl rfl rfl rfl .plain ?_; refine RunK.nil <| LWP.seq <| LWP.region (by kernel_rfl) <| kfa rfl rfl ?_; refine kl1 rfl rfl rfl <| kca rfl rfl (hB) <| keq rfl rfl (beq_eq_false_iff_ne.2 (by omega)) <| kmv rfl <| K.fieldAddr rfl rfl (.taken rfl rfl) ?_; refine K.loadOne rfl rfl rfl (.taken rfl rfl) ?_; refine K.lss rfl rfl (decide_eq_false (by omega)) (.taken rfl rfl) ?_; refine kpf rfl rfl <| kmv rfl <| K.fieldAddr rfl rfl (.taken rfl rfl) ?_; refine K.loadOne rfl rfl rfl (.taken rfl rfl) ?_; refine K.gtr rfl rfl (decide_eq_false (by omega)) (.taken rfl rfl) ?_; refine kpf rfl rfl <| RunK.nil <| LWP.condF rfl ?_; refine LWP.skip ?_; refine LWP.region (by kernel_rfl) <| kad rfl rfl (wrap_i64 (by omega)) <| kmv rfl <| RunK.nil ?_)
      exact ⟨_, _, by omega, Le.of (by exact ⟨rfl, rfl, rfl, trivial⟩) (by exact trivial) (by exact rfl) (by exact rfl) (by exact rfl), i + 1, by omega, rfl, hall', rfl⟩
  · have e : i = fs.length := by omega
    subst e
    rw [List.take_length] at hall
    rw [hall]
    (refine LWP.seq <| LWP.region (by kernel_rfl) <| klt rfl rfl (decide_eq_false (by omega)) <| RunK.nil <| LWP.seq <| LWP.condF rfl ?_; refine LWP.exit <| LWP.seq <| LWP.region (by kernel_rfl) <| kas rfl <| RunK.nil <| LWP.ret ?_)
    exact ⟨[_], ⟨rfl, trivial⟩, rfl⟩
theorem Of_no (ad : Option Addr) (cap : Nat) (fs : List Fl) (hin : FieldsIn X ad fs) (hbig : fs.length < 4611686018427387904) (h : canB fs = false) :
    PSpec Try.prog X 35 [Lx ad fs.length cap] (.tup [planV 0 (.val (.slice none 0 0)), Sn .i64 1]) := by
  have hc := canBe_spec X ad cap fs hin hbig false h
  refine PSpec.intro Try.func35 rfl (by kernel_rfl) rfl rfl ?_
  intro C
  (refine LWP.seq <| LWP.region (by kernel_rfl) <| K.alloc rfl .plain ?_; refine kas rfl <| RunK.nil <| LWP.seq <| LWP.seq <| LWP.region (by kernel_rfl) <| kmv rfl <| kca rfl rfl (hc) <| K.not rfl rfl .plain <| RunK.nil <| LWP.condT rfl ?_; refine LWP.seq <| LWP.region (by kernel_rfl) <| K.build rfl rfl (by exact rfl) (by exact nl2 rfl rfl rfl) .plain ?_; refine K.storeAll rfl rfl rfl rfl rfl rfl .plain ?_; refine kas rfl <| RunK.nil <| LWP.ret ?_)
  exact ⟨[_, _], ⟨⟨_, _, rfl, rfl, rfl, .inl ⟨AggT.h, rfl⟩⟩, rfl, trivial⟩, rfl⟩
def ofR (fs : List Fl) : LV := if layErr fs = 0 then .tup [planV (rowSize fs : Nat) (.slc 1000001 0 fs.length 1), Sn .i64 0] else .tup [planV 0 (.val (.slice none 0 0)), Sn .i64 (layErr fs)]
def ofBx (fs : List Fl) : List (Nat × Option Box) := if layErr fs = 0 then [(1000001, some ⟨3, (ntV (startsAt 0 fs)).map .val, false⟩)] else []
set_option maxHeartbeats 3200000 in
theorem Of_can (ad : Option Addr) (cap : Nat) (fs : List Fl) (hin : FieldsIn X ad fs) (hbig : fs.length < 4611686018427387904) (h : canB fs = true) :
    MSpec Try.prog X 35 [Lx ad fs.length cap] [] (ofR fs) (ofBx fs) := by
  have hc := canBe_spec X ad cap fs hin hbig true h
  obtain ⟨h8, hall, hle⟩ := canB_ok h
  refine MSpec.intro Try.func35 rfl (by kernel_rfl) rfl (by unfold ofR ofBx; split <;> rfl) (by unfold ofBx; split <;> exact (by repeat' (first | refine all_cons_true ?_ ?_ | rfl | exact bytes_inUse | exact vals_inUse | exact mid_inUse rfl))) rfl rfl ?_
  intro C
  have hmk : slcBuild Try.prog 80 fs.length = some (List.replicate fs.length (.int .i64 0), 1, 3) := slcBuild_one (by kernel_rfl) (by kernel_rfl) (by omega)
  (refine LWP.seq <| LWP.region (by kernel_rfl) <| K.alloc rfl .plain ?_; refine kas rfl <| RunK.nil <| LWP.seq <| LWP.seq <| LWP.region (by kernel_rfl) <| kmv rfl <| kca rfl rfl (hc) <| K.not rfl rfl .plain <| RunK.nil <| LWP.condF rfl ?_; refine LWP.skip ?_; refine LWP.seq <| LWP.region (by kernel_rfl) <| kmv rfl <| K.lenX rfl SliceT.h rfl .plain ?_; refine K.makeSlc (m := fs.length) (bytes := 8) rfl rfl hmk (by kernel_rfl) (by omega) rfl rfl .plain <| kas rfl <| RunK.nil <| LWP.seq <| LWP.region (by kernel_rfl) <| kas rfl <| kas rfl <| RunK.nil <| LWP.seq <| LWP.seq <| LWP.region (by kernel_rfl) <| kmv rfl <| K.lenX rfl SliceT.h rfl .plain ?_; refine kmv rfl <| RunK.nil <| LWP.block ?_)
  refine LWP.loop (fun m σ => ∃ i : Nat, i ≤ fs.length ∧ m = fs.length - i ∧ σ = ⟨[(2, .sv (.one (.ptr 2 0))), (4, .sv (.one (.slc 17 0 fs.length 1))), (5, Ln .i64 (endAt 0 (fs.take i) : Nat)), (6, Ln .i64 (greatW (fs.take i) : Nat)), (18, Lx ad fs.length cap), (19, Ln .i64 (fs.length : Nat)), (20, Ln .i64 (i : Nat))], [(2, some ⟨82, [.val (.int .i64 0), .val (.slice none 0 0)], false⟩), (17, some ⟨3, (ntV (startsAt 0 (fs.take i)) ++ List.replicate (fs.length - i) (Value.int .i64 0)).map .val, false⟩)], X⟩) fs.length
    ⟨_, Le.of (by exact ⟨rfl, rfl, rfl, rfl, rfl, rfl, rfl, trivial⟩) (by exact ⟨rfl, rfl, trivial⟩) (by exact rfl) (by exact rfl) (by repeat' (first | refine all_cons_true ?_ ?_ | rfl | exact bytes_inUse | exact vals_inUse | exact mid_inUse rfl)), 0, by omega, by omega, rfl⟩ ?_
  rintro m σ ⟨i, hi, rfl, rfl⟩
  have ht := take_ok hall i
  have hSl := starts_len (fs.take i) 0
  have hend := end_le (fs.take i) 0 ht
  have hgw := great_wd (fs.take i) ht
  have htl : (fs.take i).length = i := by rw [List.length_take]; omega
  rw [htl] at hSl hend
  by_cases hlt : i < fs.length
  · obtain ⟨f, hf⟩ : ∃ f, fs[i]? = some f := ⟨_, List.getElem?_eq_getElem hlt⟩
    obtain ⟨blk, off, arr, el, fr, rfl, hX, hsz, hcells⟩ := hin.at hf
    have hio : off + Int.toNat (i : Int) * 3 = off + i * 3 := by simp
    have hi1 : 0 + Int.toNat (i : Int) * 1 = i := by simp
    have hB := fSize_spec X f.kind
    have hS : startsAt 0 (fs.take (i + 1)) = startsAt 0 (fs.take i) ++ [roundUp (endAt 0 (fs.take i)) f.w] := by rw [take_snoc hf, starts_snoc]
    have hA : endAt 0 (fs.take (i + 1)) = roundUp (endAt 0 (fs.take i)) f.w + f.w * f.n := by rw [take_snoc hf, end_snoc]
    have hG : greatW (fs.take (i + 1)) = max (greatW (fs.take i)) f.w := by rw [take_snoc hf, great_snoc]
    obtain ⟨hw, hn1, hn8, hnc⟩ := ok_w (List.all_eq_true.1 hall f (List.mem_of_getElem? hf))
    have hM := multipleFrom_spec X (endAt 0 (fs.take i)) f.w hw (by omega)
    have hR := round_facts hw (endAt 0 (fs.take i))
    have hwk : kW f.kind = f.w := rfl
    rw [hwk] at hB
    have hw8 : 1 ≤ f.w ∧ f.w ≤ 8 := by rcases hw with e | e | e | e <;> omega
    have hwn : f.w * f.n ≤ 64 := Nat.le_trans (Nat.mul_le_mul hw8.2 hn8) (by decide)
    have hfc : f.vals.map CV.val = [.val (.string ⟨f.nm.toArray⟩), .val (.int .i64 f.kind), .val (.int .i64 (f.n : Nat))] := by rw [hnc]; rfl
    rw [hfc] at hcells
    generalize startsAt 0 (fs.take i) = S at *
    generalize endAt 0 (fs.take i) = a at *
    generalize greatW (fs.take i) = g at *
    generalize f.w = w at *
    generalize f.n = n at *
    generalize hT : roundUp a w = T at *
    have hnS : (ntV S).length = i := by simp [ntV, hSl]
    have hlt2 : Nat.blt i (((ntV S ++ List.replicate (fs.length - i) (Value.int .i64 0)).map CV.val).length) = true := by rw [Nat.blt_eq, List.length_map, List.length_append, hnS, List.length_replicate]; omega
    have hset : ((ntV S ++ List.replicate (fs.length - i) (Value.int .i64 0)).map CV.val).set i (.val (.int .i64 (T : Nat))) = (ntV (S ++ [T]) ++ List.replicate (fs.length - (i + 1)) (Value.int .i64 0)).map CV.val := by
      rw [← List.map_set, fill_set hnS hlt]; simp [ntV]
    have hget : ((ntV (S ++ [T]) ++ List.replicate (fs.length - (i + 1)) (Value.int .i64 0)).map CV.val)[i]? = some (.val (.int .i64 (T : Nat))) := by
      rw [List.getElem?_map, show ntV (S ++ [T]) = ntV S ++ [.int .i64 (T : Nat)] by simp [ntV], fill_at hnS]; rfl
    have hmul : IntKind.i64.wrap (((w : Nat) : Int) * ((n : Nat) : Int)) = ((w * n : Nat) : Int) := by rw [← Int.natCast_mul, wrap_i64 (by omega)]
    have hadd : IntKind.i64.wrap (((T : Nat) : Int) + ((w * n : Nat) : Int)) = ((T + w * n : Nat) : Int) := by rw [wrap_i64 (by omega)]; omega
    have hmx : (if ((w : Nat) : Int) > ((g : Nat) : Int) then ((w : Nat) : Int) else ((g : Nat) : Int)) = ((max g w : Nat) : Int) := by split <;> omega
    (refine LWP.seq <| LWP.region (by kernel_rfl) <| klt rfl rfl (decide_eq_true (by omega)) <| RunK.nil <| LWP.seq <| LWP.condT rfl ?_; refine LWP.skip ?_; refine LWP.seq <| LWP.block <| LWP.seq <| LWP.region (by kernel_rfl) <| kmv rfl <| K.indexX rfl rfl SliceT.h (by omega) hio .plain <| K.loadXagg rfl hX (by kernel_rfl) hsz hcells .plain <| K.alloc rfl .plain ?_; refine kas rfl <| K.storeAll rfl rfl rfl rfl rfl rfl .plain ?_; refine RunK.nil <| LWP.seq <| LWP.region (by kernel_rfl) <| kfa rfl rfl ?_; refine kl1 rfl rfl rfl <| kca rfl rfl (hB) <| kas rfl <| RunK.nil <| LWP.seq <| LWP.region (by kernel_rfl) <| kmv rfl <| kmv rfl <| kmv rfl <| kmv rfl <| kca rfl rfl (hM) <| K.indexSlc rfl rfl (by omega) hi1 .plain ?_; refine K.storeOne rfl rfl rfl rfl hlt2 hset .plain <| RunK.nil <| LWP.seq <| LWP.draws mixed (by kernel_rfl) <| kmv rfl <| kmv rfl <| K.indexSlc rfl rfl (by omega) hi1 .plain ?_; refine kl1 rfl rfl hget <| kmv rfl <| kfa rfl rfl ?_; refine kl1 rfl rfl rfl <| K.mul rfl rfl hmul .plain <| kad rfl rfl hadd <| kas rfl <| RunK.nil <| And.intro (by kernel_rfl) ?_; refine LWP.region (by kernel_rfl) <| kmv rfl <| kmv rfl <| K.max2 rfl rfl hmx .plain ?_; refine kas rfl <| RunK.nil <| LWP.region (by kernel_rfl) <| kad rfl rfl (wrap_i64 (by omega)) <| kmv rfl <| RunK.nil ?_)
    exact ⟨_, _, by omega, Le.of (by exact ⟨rfl, rfl, by rw [hA]; rfl, by rw [hG]; rfl, rfl, rfl, rfl, trivial⟩) (by exact ⟨rfl, by rw [hS]; rfl, trivial⟩) (by exact rfl) (by exact rfl) (by repeat' (first | refine all_cons_true ?_ ?_ | rfl | exact bytes_inUse | exact vals_inUse | exact mid_inUse rfl)), i + 1, by omega, rfl, rfl⟩
  · have e : i = fs.length := by omega
    subst e
    rw [List.take_length] at *
    have hM := multipleFrom_spec X (endAt 0 fs) (greatW fs) hgw (by omega)
    rw [show roundUp (endAt 0 fs) (greatW fs) = rowSize fs from rfl] at hM
    unfold ofR ofBx
    rw [hle]
    have hz : (ntV (startsAt 0 fs) ++ List.replicate (fs.length - fs.length) (Value.int .i64 0)).map CV.val = (ntV (startsAt 0 fs)).map CV.val := by rw [Nat.sub_self, List.replicate_zero, List.append_nil]
    rw [hz]
    have hT : rowSize fs < 1000000 := by
      have h1 := round_facts hgw (endAt 0 fs)
      have h2 : greatW fs ≤ 8 := by rcases hgw with e | e | e | e <;> omega
      have h3 : rowSize fs = roundUp (endAt 0 fs) (greatW fs) := rfl
      omega
    generalize rowSize fs = T at *
    by_cases h256 : 256 < T
    · rw [if_pos h256, if_neg (by decide), if_neg (by decide)]
      (refine LWP.seq <| LWP.region (by kernel_rfl) <| klt rfl rfl (decide_eq_false (by omega)) <| RunK.nil <| LWP.seq <| LWP.condF rfl ?_; refine LWP.exit <| LWP.seq <| LWP.region (by kernel_rfl) <| kmv rfl <| kmv rfl <| kca rfl rfl (hM) <| kas rfl <| RunK.nil <| LWP.seq <| LWP.seq <| LWP.region (by kernel_rfl) <| kmv rfl <| K.gtr rfl rfl (decide_eq_true (by omega)) .plain <| RunK.nil ?_; refine LWP.condT rfl ?_; refine LWP.seq <| LWP.region (by kernel_rfl) <| K.build rfl rfl (by exact rfl) (by exact nl2 rfl rfl rfl) .plain ?_; refine K.storeAll rfl rfl rfl rfl rfl rfl .plain ?_; refine kas rfl <| RunK.nil <| LWP.ret ?_)
      exact ⟨[], ⟨[_, _], ⟨⟨_, _, rfl, rfl, rfl, .inl ⟨AggT.h, rfl⟩⟩, rfl, trivial⟩, rfl⟩, trivial, rfl, rfl⟩
    · rw [if_neg h256, if_pos rfl, if_pos rfl]
      (refine LWP.seq <| LWP.region (by kernel_rfl) <| klt rfl rfl (decide_eq_false (by omega)) <| RunK.nil <| LWP.seq <| LWP.condF rfl ?_; refine LWP.exit <| LWP.seq <| LWP.region (by kernel_rfl) <| kmv rfl <| kmv rfl <| kca rfl rfl (hM) <| kas rfl <| RunK.nil <| LWP.seq <| LWP.seq <| LWP.region (by kernel_rfl) <| kmv rfl <| K.gtr rfl rfl (decide_eq_false (by omega)) .plain <| RunK.nil ?_; refine LWP.condF rfl ?_; refine LWP.skip ?_; refine LWP.seq <| LWP.region (by kernel_rfl) <| kmv rfl <| kmv rfl <| K.build rfl rfl (by exact rfl) (by exact nl2 rfl rfl rfl) .plain ?_; refine K.storeAll rfl rfl rfl rfl rfl rfl .plain ?_; refine kas rfl <| RunK.nil <| LWP.ret ?_)
      exact ⟨[(1000001, 17)], ⟨[_, _], ⟨⟨_, _, rfl, rfl, rfl, .inl ⟨AggT.h, rfl⟩⟩, rfl, trivial⟩, rfl⟩, (by repeat' (first | exact trivial | refine And.intro ⟨_, rfl, ?_⟩ ?_ | refine And.intro ⟨_, rfl⟩ ?_ | rfl | exact Box.ren_bytes _ _ _ _ | exact Box.ren_vals _ _ _ _ | exact Box.ren_mid rfl)), rfl, rfl⟩
end Go.Proofs.Ytjifibloagkeeaa
end
section
namespace Go.Lg.Fld
open Go Go.Lg
end Go.Lg.Fld
namespace Go.Proofs.Ytjifibloagkeeaa
open Go Go.Lg Go.Lg.Fld
set_option maxRecDepth 100000
variable (X : Nat → Option Obj)
theorem Of_err (ad : Option Addr) (cap : Nat) (fs : List Fl) (hin : FieldsIn X ad fs) (hbig : fs.length < 4611686018427387904) (h : layErr fs ≠ 0) :
    PSpec Try.prog X 35 [Lx ad fs.length cap] (.tup [planV 0 (.val (.slice none 0 0)), Sn .i64 (layErr fs)]) := by
  cases hc : canB fs with
  | false => rw [canB_err hc]; exact Of_no X ad cap fs hin hbig hc
  | true =>
    have := Of_can X ad cap fs hin hbig hc
    unfold ofR ofBx at this
    rw [if_neg h, if_neg h] at this
    exact this.plain
theorem Of_ok (ad : Option Addr) (cap : Nat) (fs : List Fl) (hin : FieldsIn X ad fs) (hbig : fs.length < 4611686018427387904) (h : layErr fs = 0) :
    MSpec Try.prog X 35 [Lx ad fs.length cap] [] (.tup [planV (rowSize fs : Nat) (.slc 1000001 0 fs.length 1), Sn .i64 0]) [(1000001, some ⟨3, (ntV (startsAt 0 fs)).map .val, false⟩)] := by
  cases hc : canB fs with
  | false => rw [canB_err hc] at h; exact absurd h (by decide)
  | true =>
    have := Of_can X ad cap fs hin hbig hc
    unfold ofR ofBx at this
    rw [if_pos h, if_pos h] at this
    exact this
theorem Check_spec (ad : Option Addr) (cap : Nat) (fs : List Fl) (hin : FieldsIn X ad fs) (hbig : fs.length < 4611686018427387904) : PSpec Try.prog X 41 [Lx ad fs.length cap] (Ln .i64 (layErr fs)) := by
  refine PSpec.intro Try.func41 rfl (by kernel_rfl) rfl rfl ?_
  intro C
  by_cases h : layErr fs = 0
  · have hO := Of_ok X ad cap fs hin hbig h
    rw [h]
    generalize rowSize fs = T at *
    generalize startsAt 0 fs = S at *
    (refine LWP.seq <| LWP.region (by kernel_rfl) <| kas rfl <| RunK.nil <| LWP.seq <| LWP.region (by kernel_rfl) <| kmv rfl <| K.callMp [(1000001, 501)] (.tup [planV (T : Nat) (.slc 501 0 fs.length 1), Sn .i64 0]) [(501, some ⟨3, (ntV S).map .val, false⟩)] (hO) rfl rfl (by exact trivial) rfl rfl rfl rfl rfl (by exact (.box rfl (Box.ren_vals _ _ _ _) .nil)) .plain <| kmv rfl <| kex rfl rfl <| kex rfl rfl <| K.alloc rfl .plain ?_; refine K.storeAll rfl rfl rfl rfl rfl rfl .plain ?_; refine kas rfl <| RunK.nil <| LWP.seq <| LWP.region (by kernel_rfl) <| kmv rfl <| kas rfl <| RunK.nil <| LWP.ret ?_)
    exact ⟨[_], ⟨rfl, trivial⟩, rfl⟩
  · have hO := Of_err X ad cap fs hin hbig h
    generalize layErr fs = e at *
    (refine LWP.seq <| LWP.region (by kernel_rfl) <| kas rfl <| RunK.nil <| LWP.seq <| LWP.region (by kernel_rfl) <| kmv rfl <| kca rfl rfl (hO) <| kmv rfl <| kex rfl rfl <| kex rfl rfl <| K.alloc rfl .plain ?_; refine K.storeAll rfl rfl rfl rfl rfl rfl .plain ?_; refine kas rfl <| RunK.nil <| LWP.seq <| LWP.region (by kernel_rfl) <| kmv rfl <| kas rfl <| RunK.nil <| LWP.ret ?_)
    exact ⟨[_], ⟨rfl, trivial⟩, rfl⟩
end Go.Proofs.Ytjifibloagkeeaa
end
section
namespace Go.Lg.Fld
open Go Go.Lg
end Go.Lg.Fld
namespace Go.Proofs.Ytjifibloagkeeaa
open Go Go.Lg Go.Lg.Fld
set_option maxRecDepth 100000
variable (X : Nat → Option Obj)
end Go.Proofs.Ytjifibloagkeeaa
end
section
namespace Go.Lg.Fld
open Go Go.Lg
end Go.Lg.Fld
namespace Go.Proofs.Ytjifibloagkeeaa
open Go Go.Lg Go.Lg.Fld
set_option maxRecDepth 100000
variable (X : Nat → Option Obj)
end Go.Proofs.Ytjifibloagkeeaa
end
section
namespace Go.Proofs.Ytjifibloagkeeaa
open Go Go.Lg Go.Lg.Fld
set_option maxRecDepth 100000
variable (X : Nat → Option Obj)
end Go.Proofs.Ytjifibloagkeeaa
end
section
namespace Go.Lg.Fld
open Go Go.Lg
instance : DecidableEq Fl := fun a b => decidable_of_iff (a.nm = b.nm ∧ a.kind = b.kind ∧ a.count = b.count) ⟨fun ⟨h1, h2, h3⟩ => by cases a; cases b; simp_all, fun h => by rw [h]; exact ⟨rfl, rfl, rfl⟩⟩
structure Cp where
  id : Int
  nm : List UInt8
  fs : List Fl
instance : DecidableEq Cp := fun a b => decidable_of_iff (a.id = b.id ∧ a.nm = b.nm ∧ a.fs = b.fs) ⟨fun ⟨h1, h2, h3⟩ => by cases a; cases b; simp_all, fun h => by rw [h]; exact ⟨rfl, rfl, rfl⟩⟩
structure Sc where
  ver : Int
  cs : List Cp
instance : DecidableEq Sc := fun a b => decidable_of_iff (a.ver = b.ver ∧ a.cs = b.cs) ⟨fun ⟨h1, h2⟩ => by cases a; cases b; simp_all, fun h => by rw [h]; exact ⟨rfl, rfl⟩⟩
def letB (c : UInt8) : Bool := decide (97 ≤ c.toNat) && decide (c.toNat ≤ 122)
def digB (c : UInt8) : Bool := decide (48 ≤ c.toNat) && decide (c.toNat ≤ 57)
def nmC (l : List UInt8) (i : Nat) : Bool := letB (l.getD i 0) || (digB (l.getD i 0) && decide (i ≠ 0))
def nmB (l : List UInt8) : Bool := decide (1 ≤ l.length) && decide (l.length ≤ 12) && (List.range l.length).all (nmC l)
def firstE (f : Nat → Int) : Nat → Nat → Int
  | _, 0 => 0
  | i, n + 1 => if f i = 0 then firstE f (i + 1) n else f i
theorem firstE_none {f : Nat → Int} : ∀ {n i : Nat}, (∀ j, i ≤ j → j < i + n → f j = 0) → firstE f i n = 0
  | 0, _, _ => rfl
  | n + 1, i, h => by
    unfold firstE
    rw [if_pos (h i (Nat.le_refl _) (by omega))]
    exact firstE_none fun j h1 h2 => h j (by omega) (by omega)
theorem firstE_some {f : Nat → Int} {e : Int} : ∀ {n i k : Nat}, (∀ j, i ≤ j → j < k → f j = 0) → i ≤ k → k < i + n → f k = e → e ≠ 0 → firstE f i n = e
  | 0, _, _, _, h1, h2, _, _ => by omega
  | n + 1, i, k, h, h1, h2, he, h0 => by
    unfold firstE
    by_cases e1 : i = k
    · subst e1; rw [if_neg (by rw [he]; exact h0), he]
    · rw [if_pos (h i (Nat.le_refl _) (by omega))]
      exact firstE_some (fun j h3 h4 => h j (by omega) h4) (by omega) (by omega) he h0
theorem firstE_zero {f : Nat → Int} : ∀ {n i : Nat}, firstE f i n = 0 → ∀ j, i ≤ j → j < i + n → f j = 0
  | 0, _, _, _, h1, h2 => by omega
  | n + 1, i, h, j, h1, h2 => by
    unfold firstE at h
    split at h
    · rename_i h3
      by_cases e : j = i
      · rw [e]; exact h3
      · exact firstE_zero h j (by omega) (by omega)
    · rename_i h3; exact absurd h h3
def fldE (fs : List Fl) (k : Nat) : Int := match fs[k]? with
  | some f => if nmB f.nm = true then (if (fs.take k).any (fun g => g.nm == f.nm) = true then 4 else 0) else 4
  | none => 0
def prevId (cs : List Cp) (i : Nat) : Int := (cs[i - 1]?.map Cp.id).getD 0
def cmpE (cs : List Cp) (i : Nat) : Int := match cs[i]? with
  | some c =>
    if c.id < 1 ∨ 24 < c.id ∨ (0 < i ∧ c.id ≤ prevId cs i) then 1
    else if nmB c.nm = true then (if (cs.take i).any (fun g => g.nm == c.nm) = true then 4 else if firstE (fldE c.fs) 0 c.fs.length = 0 then layErr c.fs else 4) else 4
  | none => 0
def chkE (s : Sc) : Int := if s.ver < 1 ∨ 1073741824 < s.ver then 1 else firstE (cmpE s.cs) 0 s.cs.length
structure CompsIn (X : Nat → Option Obj) (ad : Option Addr) (cs : List Cp) : Prop where
  at_ : ∀ (i : Nat) (c : Cp), cs[i]? = some c → ∃ (blk off : Nat) (arr : Array Value) (el : TypeId) (fr : Nat × Nat) (fad : Option Addr) (fcap : Nat), ad = some ⟨blk, off, none⟩ ∧ X blk = some (.cells arr el fr) ∧ off + i * 3 + 3 ≤ arr.size ∧
    (arr.toList.drop (off + i * 3)).take 3 = [.int .i64 c.id, .string ⟨c.nm.toArray⟩, .slice fad c.fs.length fcap] ∧ FieldsIn X fad c.fs
  small : ∀ c ∈ cs, -9223372036854775808 ≤ c.id ∧ c.id < 9223372036854775808
theorem FieldsIn.mono {X Y : Nat → Option Obj} (hXY : ∀ b o, X b = some o → Y b = some o) {ad : Option Addr} {fs : List Fl} (h : FieldsIn X ad fs) : FieldsIn Y ad fs := ⟨RowsIn.mono h.rows hXY, h.small⟩
theorem CompsIn.mono {X Y : Nat → Option Obj} (hXY : ∀ b o, X b = some o → Y b = some o) {ad : Option Addr} {cs : List Cp} (h : CompsIn X ad cs) : CompsIn Y ad cs := ⟨fun i c hc => by
  obtain ⟨blk, off, arr, el, fr, fad, fcap, h1, h2, h3, h4, h5⟩ := h.at_ i c hc
  exact ⟨blk, off, arr, el, fr, fad, fcap, h1, hXY _ _ h2, h3, h4, h5.mono hXY⟩, h.small⟩
theorem three_at {arr : Array Value} {p : Nat} {a b c : Value} (h : (arr.toList.drop p).take 3 = [a, b, c]) : arr[p]? = some a ∧ arr[p + 1]? = some b ∧ arr[p + 2]? = some c := by
  have key : ∀ j, j < 3 → arr[p + j]? = [a, b, c][j]? := fun j hj => by
    rw [← h, List.getElem?_take, if_pos hj, List.getElem?_drop, Array.getElem?_toList]
  exact ⟨key 0 (by omega), key 1 (by omega), key 2 (by omega)⟩
theorem CompsIn.get {X : Nat → Option Obj} {ad : Option Addr} {cs : List Cp} (h : CompsIn X ad cs) {i : Nat} {c : Cp} (hc : cs[i]? = some c) : ∃ (blk off : Nat) (arr : Array Value) (el : TypeId) (fr : Nat × Nat) (fad : Option Addr) (fcap : Nat), ad = some ⟨blk, off, none⟩ ∧ X blk = some (.cells arr el fr) ∧ off + i * 3 + 3 ≤ arr.size ∧
    ((arr.toList.drop (off + i * 3)).take 3).map CV.val = [.val (.int .i64 c.id), .val (.string ⟨c.nm.toArray⟩), .val (.slice fad c.fs.length fcap)] ∧ arr[off + i * 3]? = some (.int .i64 c.id) ∧ arr[off + i * 3 + 1]? = some (.string ⟨c.nm.toArray⟩) ∧ arr[off + i * 3 + 2]? = some (.slice fad c.fs.length fcap) ∧ FieldsIn X fad c.fs := by
  obtain ⟨blk, off, arr, el, fr, fad, fcap, h1, h2, h3, h4, h5⟩ := h.at_ i c hc
  obtain ⟨g1, g2, g3⟩ := three_at h4
  exact ⟨blk, off, arr, el, fr, fad, fcap, h1, h2, h3, by rw [h4]; rfl, g1, g2, g3, h5⟩
def NamesIn (cs : List Cp) : Prop := ∀ c ∈ cs, c.nm.length ≤ 9223372036854775807 ∧ ∀ f ∈ c.fs, f.nm.length ≤ 9223372036854775807
def SmallC (cs : List Cp) : Prop := cs.length ≤ 30 ∧ ∀ c ∈ cs, c.fs.length ≤ 12 ∧ c.nm.length ≤ 100 ∧ ∀ f ∈ c.fs, f.nm.length ≤ 100
end Go.Lg.Fld
namespace Go.Proofs.Ytjifibloagkeeaa
open Go Go.Lg Go.Lg.Fld
abbrev Sx (ver : Int) (ad : Option Addr) (n cap : Nat) : LV := .sv (.agg [.val (.int .i64 ver), .val (.slice ad n cap)])
abbrev Cx (c : Cp) (fad : Option Addr) (fcap : Nat) : LV := .sv (.agg [.val (.int .i64 c.id), .val (.string ⟨c.nm.toArray⟩), .val (.slice fad c.fs.length fcap)])
end Go.Proofs.Ytjifibloagkeeaa
end
section
namespace Go.Proofs.Ytjifibloagkeeaa
open Go Go.Lg Go.Lg.Fld
set_option maxRecDepth 100000
variable (X : Nat → Option Obj)
theorem getD_of {α : Type} {l : List α} {i : Nat} {d x : α} (h : l[i]? = some x) : l.getD i d = x := by rw [List.getD_eq_getElem?_getD, h]; rfl
theorem nmB_false {l : List UInt8} {i : Nat} (hi : i < l.length) (h : nmC l i = false) : nmB l = false := by
  unfold nmB
  rw [Bool.and_eq_false_iff]
  right
  exact List.all_eq_false.2 ⟨i, List.mem_range.2 hi, by rw [h]; simp⟩
theorem nmB_true {l : List UInt8} (h1 : 1 ≤ l.length) (h2 : l.length ≤ 12) (h : ∀ j, j < l.length → nmC l j = true) : nmB l = true := by
  unfold nmB
  rw [decide_eq_true h1, decide_eq_true h2, Bool.true_and, Bool.true_and]
  exact List.all_eq_true.2 fun j hj => h j (List.mem_range.1 hj)
end Go.Proofs.Ytjifibloagkeeaa
end
section
namespace Go.Lg.Fld
open Go Go.Lg
def findI {α : Type} (p : α → Bool) (l : List α) : Int := match l.findIdx? p with | some i => (i : Nat) | none => -1
theorem findI_some {α : Type} {p : α → Bool} {l : List α} {i : Nat} {x : α} (h : ∀ (j : Nat) (y : α), j < i → l[j]? = some y → p y = false) (hx : l[i]? = some x) (hp : p x = true) : findI p l = (i : Nat) := by
  unfold findI
  obtain ⟨hi, e⟩ := List.getElem?_eq_some_iff.1 hx
  rw [List.findIdx?_eq_some_iff_getElem.2 ⟨hi, by rw [e]; exact hp, fun j hj => by rw [h j _ hj (List.getElem?_eq_getElem (by omega))]; simp⟩]
theorem findI_none {α : Type} {p : α → Bool} {l : List α} (h : ∀ (j : Nat) (y : α), l[j]? = some y → p y = false) : findI p l = -1 := by
  unfold findI
  rw [List.findIdx?_eq_none_iff.2 fun x hx => by
    obtain ⟨j, hj⟩ := List.mem_iff_getElem?.1 hx
    exact h j x hj]
end Go.Lg.Fld
namespace Go.Proofs.Ytjifibloagkeeaa
open Go Go.Lg Go.Lg.Fld
set_option maxRecDepth 100000
variable (X : Nat → Option Obj)
abbrev sxB (k : Nat) (ver : Int) (ad : Option Addr) (n cap : Nat) : Nat × Option Box := (k, some ⟨24, [.val (.int .i64 ver), .val (.slice ad n cap)], false⟩)
end Go.Proofs.Ytjifibloagkeeaa
end
section
namespace Go.Lg.Fld
open Go Go.Lg
structure Pt where
  comp : Int
  val : List (Bool × Int)
theorem any_true {α : Type} {p : α → Bool} {l : List α} {k i : Nat} {y : α} (hk : k < i) (hy : l[k]? = some y) (hp : p y = true) : (l.take i).any p = true := by
  rw [List.any_eq_true]
  exact ⟨y, List.mem_of_getElem? (by rw [List.getElem?_take, if_pos hk]; exact hy), hp⟩
theorem two_at {arr : Array Value} {p : Nat} {a b : Value} (h : (arr.toList.drop p).take 2 = [a, b]) : arr[p]? = some a ∧ arr[p + 1]? = some b := by
  have key : ∀ j, j < 2 → arr[p + j]? = [a, b][j]? := fun j hj => by
    rw [← h, List.getElem?_take, if_pos hj, List.getElem?_drop, Array.getElem?_toList]
  exact ⟨key 0 (by omega), key 1 (by omega)⟩
end Go.Lg.Fld
namespace Go.Proofs.Ytjifibloagkeeaa
open Go Go.Lg Go.Lg.Fld
set_option maxRecDepth 100000
def partE (cs : List Cp) (p : Pt) : Int := match cs.find? (fun c => c.id == p.comp) with | some c => fitErr c.fs p.val | none => 6
def ptE (cs : List Cp) (ps : List Pt) (i : Nat) : Int := match ps[i]? with
  | some p => if (ps.take i).any (fun g => g.comp == p.comp) = true then 1 else partE cs p
  | none => 0
def partsE (cs : List Cp) (ps : List Pt) : Int := firstE (ptE cs ps) 0 ps.length
structure PartsIn (X : Nat → Option Obj) (ad : Option Addr) (ps : List Pt) : Prop where
  at_ : ∀ (i : Nat) (p : Pt), ps[i]? = some p → ∃ (blk off : Nat) (arr : Array Value) (el : TypeId) (fr : Nat × Nat) (vad : Option Addr) (vcap : Nat), ad = some ⟨blk, off, none⟩ ∧ X blk = some (.cells arr el fr) ∧ off + i * 2 + 2 ≤ arr.size ∧
    (arr.toList.drop (off + i * 2)).take 2 = [.int .i64 p.comp, .slice vad p.val.length vcap] ∧ NumsIn X vad p.val
  small : ∀ p ∈ ps, -9223372036854775808 ≤ p.comp ∧ p.comp < 9223372036854775808
theorem PartsIn.get {X : Nat → Option Obj} {ad : Option Addr} {ps : List Pt} (h : PartsIn X ad ps) {i : Nat} {p : Pt} (hc : ps[i]? = some p) : ∃ (blk off : Nat) (arr : Array Value) (el : TypeId) (fr : Nat × Nat) (vad : Option Addr) (vcap : Nat), ad = some ⟨blk, off, none⟩ ∧ X blk = some (.cells arr el fr) ∧ off + i * 2 + 2 ≤ arr.size ∧
    ((arr.toList.drop (off + i * 2)).take 2).map CV.val = [.val (.int .i64 p.comp), .val (.slice vad p.val.length vcap)] ∧ arr[off + i * 2]? = some (.int .i64 p.comp) ∧ arr[off + i * 2 + 1]? = some (.slice vad p.val.length vcap) ∧ NumsIn X vad p.val := by
  obtain ⟨blk, off, arr, el, fr, vad, vcap, h1, h2, h3, h4, h5⟩ := h.at_ i p hc
  obtain ⟨g1, g2⟩ := two_at h4
  exact ⟨blk, off, arr, el, fr, vad, vcap, h1, h2, h3, by rw [h4]; rfl, g1, g2, h5⟩
variable (X : Nat → Option Obj)
theorem ptE_at {cs : List Cp} {ps : List Pt} {i : Nat} {p : Pt} (h : ps[i]? = some p) : ptE cs ps i = if (ps.take i).any (fun g => g.comp == p.comp) = true then 1 else partE cs p := by unfold ptE; rw [h]
end Go.Proofs.Ytjifibloagkeeaa
end
section
namespace Go.Proofs.Ytjifibloagkeeaa
open Go Go.Lg Go.Lg.Fld Go.RowKit Go.ChangeShapes Go.WideShapes Go.Joins
set_option maxRecDepth 100000
section
variable {H : Type} {enc : TypeId × Value → H} {w : World}
theorem open_fields_l {fuel : Nat} {l : List Value} {x : DataW H × List MemPlace} (h : DataW.trod enc Try.prog w 0 (fun _ => true) true fuel 52 l = some x) :
    ∃ (ad : Option Addr) (cap : Nat) (fs : List Fl), l = [.slice ad fs.length cap] ∧ FieldsIn (fun b => w.heap[b]?) ad fs ∧ ∀ f ∈ fs, f.nm.length ≤ 9223372036854775807 := by
  obtain ⟨ad, cap, rows, rfl, _, _, h3, h4⟩ := open_rows_l (e := 94) (sz := 3) (by kernel_rfl) (by kernel_rfl) (by decide) h
  obtain ⟨fs, rfl, h5⟩ := map_of (f := Fl.vals) (q := fun f => ((-9223372036854775808 ≤ f.kind ∧ f.kind < 9223372036854775808) ∧ (-9223372036854775808 ≤ f.count ∧ f.count < 9223372036854775808)) ∧ f.nm.length ≤ 9223372036854775807) (vs := rows) (fun u hu => by
    obtain ⟨hlen, n, x, hx⟩ := h4 u hu
    obtain ⟨y0, y1, y2, n', _, _, g0, g1, g2⟩ := Deep.trod_struct3 (t := 94) Try.underlying94 hx
    obtain ⟨e0', e1', e2', rfl⟩ : ∃ c0 c1 c2, u = [c0, c1, c2] := by
      match u, hlen with
      | [c0, c1, c2], _ => exact ⟨c0, c1, c2, rfl⟩
    obtain ⟨s, e0, _, hsz⟩ := DataW.trod_string (by kernel_rfl) g0
    obtain ⟨k, e1, _, wa1⟩ := DataW.trod_int (k := .i64) (by kernel_rfl) g1
    obtain ⟨c, e2, _, wa2⟩ := DataW.trod_int (k := .i64) (by kernel_rfl) g2
    have q0 : e0' = .string s := by simpa using (show ([e0', e1', e2'].drop 0).take 1 = [.string s] from e0)
    have q1 : e1' = .int .i64 k := by simpa using (show ([e0', e1', e2'].drop 1).take 1 = [.int .i64 k] from e1)
    have q2 : e2' = .int .i64 c := by simpa using (show ([e0', e1', e2'].drop 2).take 1 = [.int .i64 c] from e2)
    subst q0 q1 q2
    have b1 := bounds_i64 wa1
    have b2 := bounds_i64 wa2
    exact ⟨⟨s.data.toList, k, c⟩, rfl, (show (-9223372036854775808 ≤ k ∧ k < 9223372036854775808) ∧ (-9223372036854775808 ≤ c ∧ c < 9223372036854775808) by omega), (show s.data.toList.length ≤ _ from (by unfold maxLen at hsz; rw [Array.length_toList]; exact hsz))⟩)
  exact ⟨ad, cap, fs, by rw [List.length_map], ⟨h3, fun f hf => (h5 f hf).1⟩, fun f hf => (h5 f hf).2⟩
theorem open_comps_l {fuel : Nat} {l : List Value} {x : DataW H × List MemPlace} (h : DataW.trod enc Try.prog w 0 (fun _ => true) true fuel 22 l = some x) :
    ∃ (ad : Option Addr) (cap : Nat) (cs : List Cp), l = [.slice ad cs.length cap] ∧ cs.length ≤ cap ∧ CompsIn (fun b => w.heap[b]?) ad cs ∧ NamesIn cs := by
  obtain ⟨ad, cap, rows, rfl, h1, _, h3, h4⟩ := open_rows_l (e := 54) (sz := 3) (by kernel_rfl) (by kernel_rfl) (by decide) h
  obtain ⟨ts, rfl, h5⟩ := map_of (f := fun t : Cp × Option Addr × Nat => [.int .i64 t.1.id, .string ⟨t.1.nm.toArray⟩, .slice t.2.1 t.1.fs.length t.2.2]) (q := fun t => (FieldsIn (fun b => w.heap[b]?) t.2.1 t.1.fs ∧ (-9223372036854775808 ≤ t.1.id ∧ t.1.id < 9223372036854775808)) ∧ t.1.nm.length ≤ 9223372036854775807 ∧ ∀ f ∈ t.1.fs, f.nm.length ≤ 9223372036854775807) (vs := rows) (fun u hu => by
    obtain ⟨hlen, n, x, hx⟩ := h4 u hu
    obtain ⟨y0, y1, y2, n', _, _, g0, g1, g2⟩ := Deep.trod_struct3 (t := 54) Try.underlying54 hx
    obtain ⟨e0', e1', e2', rfl⟩ : ∃ c0 c1 c2, u = [c0, c1, c2] := by
      match u, hlen with
      | [c0, c1, c2], _ => exact ⟨c0, c1, c2, rfl⟩
    obtain ⟨k, e0, _, wa1⟩ := DataW.trod_int (k := .i64) (by kernel_rfl) g0
    obtain ⟨s, e1, _, hsz⟩ := DataW.trod_string (by kernel_rfl) g1
    obtain ⟨fad, fcap, fs, e2, hF, hFn⟩ := open_fields_l g2
    have q0 : e0' = .int .i64 k := by simpa using (show ([e0', e1', e2'].drop 0).take 1 = [.int .i64 k] from e0)
    have q1 : e1' = .string s := by simpa using (show ([e0', e1', e2'].drop 1).take 1 = [.string s] from e1)
    have q2 : e2' = .slice fad fs.length fcap := by simpa using (show ([e0', e1', e2'].drop 2).take 1 = [.slice fad fs.length fcap] from e2)
    subst q0 q1 q2
    have b1 := bounds_i64 wa1
    exact ⟨(⟨k, s.data.toList, fs⟩, fad, fcap), rfl, ⟨hF, (show -9223372036854775808 ≤ k ∧ k < 9223372036854775808 by omega)⟩, (show s.data.toList.length ≤ _ from (by unfold maxLen at hsz; rw [Array.length_toList]; exact hsz)), hFn⟩)
  refine ⟨ad, cap, ts.map (·.1), by rw [List.length_map, List.length_map], by rw [List.length_map] at h1 ⊢; exact h1, ⟨fun i c hc => ?_, fun c hc => ?_⟩, fun c hc => ?_⟩
  · rw [List.getElem?_map] at hc
    cases ht : ts[i]? with
    | none => rw [ht] at hc; cases hc
    | some t =>
      rw [ht] at hc
      simp only [Option.map_some, Option.some.injEq] at hc
      subst hc
      obtain ⟨blk, off, arr, el, fr, g1, g2, g3, g4⟩ := h3 i _ (by rw [List.getElem?_map, ht]; rfl)
      exact ⟨blk, off, arr, el, fr, t.2.1, t.2.2, g1, g2, g3, g4, (h5 t (List.mem_of_getElem? ht)).1.1⟩
  · obtain ⟨t, ht, rfl⟩ := List.mem_map.1 hc
    exact (h5 t ht).1.2
  · obtain ⟨t, ht, rfl⟩ := List.mem_map.1 hc
    exact (h5 t ht).2
theorem cellsS : Try.prog.cellsOf 24 = 2 := by kernel_rfl
theorem open_schema_n {r : Reach} {b0 : Nat} {v : Value} {d : DataW H} {p : List MemPlace} (hv : Value.okWide Try.prog w r b0 24 v) (h : DataW.Trod enc Try.prog w 0 (fun _ => true) true 24 v d p) :
    ∃ (ver : Int) (ad : Option Addr) (cap : Nat) (cs : List Cp), v = .agg #[.int .i64 ver, .slice ad cs.length cap] ∧ cs.length ≤ cap ∧ CompsIn (fun b => w.heap[b]?) ad cs ∧ NamesIn cs := by
  obtain ⟨v0, v1, y0, y1, m, rfl, rfl, rfl, hy0, hy1⟩ := open_agg2 Try.underlying24 (by kernel_rfl) cellsS hv h
  obtain ⟨x, e0, rfl, _⟩ := DataW.trod_int (k := .i64) (by kernel_rfl) hy0
  obtain ⟨ad, cap, cs, e1, h1, h2, h3⟩ := open_comps_l hy1
  simp at e0 e1
  subst e0 e1
  exact ⟨x, ad, cap, cs, rfl, h1, h2, h3⟩
end
end Go.Proofs.Ytjifibloagkeeaa
end
section
namespace Go.Lg
open Go Go.RowKit Go.ChangeShapes Go.WideShapes Go.Joins
end Go.Lg
end
section
namespace Go.Lg.Fld
open Go Go.Lg
section
variable {cs : List Cp} {i : Nat} {c : Cp}
theorem cmpE_at (h : cs[i]? = some c) : cmpE cs i = if c.id < 1 ∨ 24 < c.id ∨ (0 < i ∧ c.id ≤ prevId cs i) then 1
    else if nmB c.nm = true then (if (cs.take i).any (fun g => g.nm == c.nm) = true then 4 else if firstE (fldE c.fs) 0 c.fs.length = 0 then layErr c.fs else 4) else 4 := by unfold cmpE; rw [h]
theorem fldE_at {fs : List Fl} {k : Nat} {f : Fl} (h : fs[k]? = some f) : fldE fs k = if nmB f.nm = true then (if (fs.take k).any (fun g => g.nm == f.nm) = true then 4 else 0) else 4 := by unfold fldE; rw [h]
theorem prev_at {p : Cp} (h : cs[i - 1]? = some p) : prevId cs i = p.id := by unfold prevId; rw [h]; rfl
end
theorem FieldsIn.nm {X : Nat → Option Obj} {ad : Option Addr} {fs : List Fl} (h : FieldsIn X ad fs) {k : Nat} {f : Fl} (hf : fs[k]? = some f) :
    ∃ (blk off : Nat) (arr : Array Value) (el : TypeId) (fr : Nat × Nat), ad = some ⟨blk, off, none⟩ ∧ X blk = some (.cells arr el fr) ∧ arr[off + k * 3]? = some (.string ⟨f.nm.toArray⟩) := by
  obtain ⟨blk, off, arr, el, fr, h1, h2, h3, h4⟩ := h.rows k f.vals (by rw [List.getElem?_map, hf]; rfl)
  exact ⟨blk, off, arr, el, fr, h1, h2, (three_at h4).1⟩
end Go.Lg.Fld
namespace Go.Proofs.Ytjifibloagkeeaa
open Go Go.Lg Go.Lg.Fld
set_option maxRecDepth 100000
variable (X : Nat → Option Obj)
abbrev cpB (k : Nat) (c : Cp) (fad : Option Addr) (fcap : Nat) : Nat × Option Box := (k, some ⟨54, [.val (.int .i64 c.id), .val (.string ⟨c.nm.toArray⟩), .val (.slice fad c.fs.length fcap)], false⟩)
end Go.Proofs.Ytjifibloagkeeaa
end
section
namespace Go.Lg
open Go Go.RowKit
def joinM (X H : Nat → Option Obj) : Nat → Option Obj := fun b => (H b).or (X b)
def cutM (H : Nat → Option Obj) (blk : Nat) : Nat → Option Obj := fun b => if b = blk then none else H b
theorem joinM_in {X H : Nat → Option Obj} {b : Nat} {o : Obj} (h : H b = some o) : joinM X H b = some o := by unfold joinM; rw [h]; rfl
theorem joinM_out {X H : Nat → Option Obj} {b : Nat} (h : H b = none) : joinM X H b = X b := by unfold joinM; rw [h]; rfl
theorem joinM_none {X H : Nat → Option Obj} {b : Nat} (h : joinM X H b = none) : H b = none ∧ X b = none := by
  unfold joinM at h
  cases hh : H b with
  | none => rw [hh] at h; exact ⟨rfl, h⟩
  | some o => rw [hh] at h; cases h
theorem cutM_at (H : Nat → Option Obj) (blk : Nat) : cutM H blk blk = none := if_pos rfl
theorem cutM_other {H : Nat → Option Obj} {blk b : Nat} (h : b ≠ blk) : cutM H blk b = H b := if_neg h
theorem cutM_some {H : Nat → Option Obj} {blk b : Nat} {o : Obj} (h : cutM H blk b = some o) : b ≠ blk ∧ H b = some o := by
  unfold cutM at h
  split at h
  · cases h
  · rename_i hne; exact ⟨hne, h⟩
structure OwnedM (C : Ctx) (X H : Nat → Option Obj) : Prop where
  own : ∀ b o, H b = some o → (C.own b ∨ C.w0.heap.size ≤ b) ∧ Loose o ∧ X b = none
theorem OwnedM.cut {C : Ctx} {X H : Nat → Option Obj} (h : OwnedM C X H) (blk : Nat) : OwnedM C X (cutM H blk) := ⟨fun b o hb => h.own b o (cutM_some hb).2⟩
theorem joinM_cut {X H : Nat → Option Obj} {blk : Nat} {o : Obj} (h : H blk = some o) : joinM X H = withBlock (joinM X (cutM H blk)) blk o := by
  funext b
  unfold withBlock
  by_cases e : b = blk
  · rw [if_pos e, e]; exact joinM_in h
  · rw [if_neg e]; unfold joinM; rw [cutM_other e]
theorem joinM_with {X H : Nat → Option Obj} {blk : Nat} {o : Obj} : withBlock (joinM X H) blk o = joinM X (withBlock H blk o) := by
  funext b
  unfold withBlock joinM
  by_cases e : b = blk
  · simp [e]
  · simp [e]
theorem joinM_nil (X : Nat → Option Obj) : joinM X (fun _ => none) = X := by funext b; rfl
theorem OwnedM.more {C : Ctx} {X H : Nat → Option Obj} (h : OwnedM C X H) {blk : Nat} {arr : Array Value} {el : TypeId} {fr : Nat × Nat} (hF : Frozen C blk arr fr) (hX : joinM X H blk = none) : OwnedM C X (withBlock H blk (.cells arr el fr)) := ⟨fun b o hb => by
  unfold withBlock at hb
  split at hb
  · rename_i e; subst e; cases hb; exact ⟨hF.own, hF.thaw, (joinM_none hX).2⟩
  · exact h.own b o hb⟩
theorem OwnedM.nil (C : Ctx) (X : Nat → Option Obj) : OwnedM C X (fun _ => none) := ⟨fun _ _ h => by cases h⟩
theorem OwnedM.frozen {C : Ctx} {X H : Nat → Option Obj} (h : OwnedM C X H) {blk : Nat} {arr : Array Value} {el : TypeId} {fr : Nat × Nat} (hb : H blk = some (.cells arr el fr)) : Frozen C blk arr fr := ⟨(h.own _ _ hb).1, (h.own _ _ hb).2.1⟩
section
variable {P : Program} {n : Nat} {C : Ctx} {c : Code} {Q : Exit → St → Prop} {X : Nat → Option Obj} {s : List (Nat × LV)} {bx : List (Nat × Option Box)} {k : Nat}
theorem stat_hd (b : Option Box) (j : Nat) : (⟨s, (k, b) :: bx, X⟩ : St).stat j = if j = k then some b else look j bx := stat_cons s bx X k j b
theorem later_same {S S' : Nat → Option (Option Box)} (ι : Nat → Nat × Nat) (h : ∀ j, S j ≠ none → S' j ≠ none ∧ ∀ b', S' j = some (some b') → ∃ b, S j = some (some b)) : Later S S' ι ι :=
  fun j hj => ⟨(h j hj).1, fun b' hb' => ⟨rfl, (h j hj).2 b' hb'⟩⟩
theorem later_hd (ι : Nat → Nat × Nat) (b b' : Box) (X X' : Nat → Option Obj) : Later (⟨s, (k, some b) :: bx, X⟩ : St).stat (⟨s, (k, some b') :: bx, X'⟩ : St).stat ι ι := later_same ι fun j hj => by
  rw [stat_hd] at hj ⊢
  rw [stat_hd]
  by_cases e : j = k
  · rw [if_pos e, if_pos e]; exact ⟨by simp, fun _ _ => ⟨b, rfl⟩⟩
  · rw [if_neg e] at hj ⊢
    rw [if_neg e]; exact ⟨hj, fun b1 hb1 => ⟨b1, hb1⟩⟩
theorem Rel.openRes {ι : Nat → Nat × Nat} {a : Act} {w : World} {e : TypeId} {cs : List CV} {R : Rsc} (hroot : ∀ ρ H, R.holds ρ H → ∃ vals el fr, H ρ.1 = some (.cells vals el fr) ∧ vals.size = ρ.2)
    (hr : Rel n C ι ⟨s, (k, some ⟨e, cs, .res R⟩) :: bx, X⟩ a w) :
    ∃ (ρ : Nat × Nat) (H : Nat → Option Obj) (vals : Array Value) (el : TypeId) (fr : Nat × Nat), R.holds ρ H ∧ H ρ.1 = some (.cells vals el fr) ∧ OwnedM C X H ∧
      Rel n C ι ⟨s, (k, some ⟨el, vals.toList.map .val, false⟩) :: bx, joinM X (cutM H ρ.1)⟩ a w := by
  obtain ⟨F, hF⟩ := hr.res
  have hk : (⟨s, (k, some ⟨e, cs, .res R⟩) :: bx, X⟩ : St).stat k = some (some ⟨e, cs, .res R⟩) := by rw [stat_hd, if_pos rfl]
  obtain ⟨hR, _⟩ := hF.holds k _ _ _ hk
  obtain ⟨vals, el, fr, hv, hsz⟩ := hroot _ _ hR
  refine ⟨ι k, F k, vals, el, fr, hR, hv, ⟨fun b o hb => let h := hF.mem k b o hb; ⟨h.2.2.2.1, h.2.2.1, h.2.2.2.2.1⟩⟩, ?_⟩
  have hlater := later_hd (s := s) (bx := bx) (k := k) ι ⟨e, cs, .res R⟩ ⟨el, vals.toList.map .val, false⟩ X (joinM X (cutM (F k) (ι k).1))
  have live : ∀ j b, (⟨s, (k, some ⟨el, vals.toList.map .val, false⟩) :: bx, joinM X (cutM (F k) (ι k).1)⟩ : St).stat j = some (some b) → ∃ b0, (⟨s, (k, some ⟨e, cs, .res R⟩) :: bx, X⟩ : St).stat j = some (some b0) ∧ (j ≠ k → b = b0) := fun j b hj => by
    rw [stat_hd] at hj ⊢
    by_cases e : j = k
    · rw [if_pos e]; exact ⟨_, rfl, fun h => absurd e h⟩
    · rw [if_neg e] at hj ⊢; exact ⟨b, hj, fun _ => rfl⟩
  have hnot : ∀ j b, (⟨s, (k, some ⟨e, cs, .res R⟩) :: bx, X⟩ : St).stat j = some (some b) → cutM (F k) (ι k).1 (ι j).1 = none := fun j b hj => by
    cases hc : cutM (F k) (ι k).1 (ι j).1 with
    | none => rfl
    | some o =>
      obtain ⟨h1, h2⟩ := cutM_some hc
      have := (hF.mem k _ o h2).2.2.2.2.2 j b hj rfl
      rw [this] at h1
      exact absurd rfl h1
  have hmv := hF.mem k _ _ hv
  exact {
    defers := hr.defers, size := hr.size
    slots := fun d lv hd => by
      obtain ⟨v, hv, hvr⟩ := hr.slots d lv hd
      exact ⟨v, hv, LV.rel_later hlater hvr⟩
    boxes := fun j b hj hbk => by
      by_cases ej : j = k
      · subst ej
        rw [stat_hd, if_pos rfl] at hj
        simp only [Option.some.injEq] at hj
        subst hj
        exact ⟨vals, fr, hmv.2.1, hmv.2.2.1, hsz, CVs.rel_map_val _⟩
      · obtain ⟨b0, h0, h1⟩ := live j b hj
        have := h1 ej
        subst this
        obtain ⟨arr, fr', g1, g2, g3, g4⟩ := hr.boxes j b h0 hbk
        exact ⟨arr, fr', g1, g2, g3, Box.rel_later hlater g4⟩
    own := fun j b hj => by
      obtain ⟨b0, h0, _⟩ := live j b hj
      obtain ⟨h1, h2⟩ := hr.own j b0 h0
      exact ⟨h1, (joinM_out (hnot j b0 h0)).trans h2⟩
    inj := fun i j bi bj hi hj he => by
      obtain ⟨b1, h1, _⟩ := live i bi hi
      obtain ⟨b2, h2, _⟩ := live j bj hj
      exact hr.inj i j b1 b2 h1 h2 he
    keep := fun j b hj hge => by obtain ⟨b0, h0, _⟩ := live j b hj; exact hr.keep j b0 h0 hge
    ext := fun b o hb => by
      have hb : joinM X (cutM (F k) (ι k).1) b = some o := hb
      cases hc : cutM (F k) (ι k).1 b with
      | none => rw [joinM_out hc] at hb; exact hr.ext b o hb
      | some o' =>
        rw [joinM_in hc] at hb
        cases hb
        exact (hF.mem k b o (cutM_some hc).2).2.1
    res := by
      have hold : ∀ j, isRes (⟨s, (k, some ⟨el, vals.toList.map .val, false⟩) :: bx, joinM X (cutM (F k) (ι k).1)⟩ : St).stat j ↔ (j ≠ k ∧ isRes (⟨s, (k, some ⟨e, cs, .res R⟩) :: bx, X⟩ : St).stat j) := fun j => by
        unfold isRes
        simp only [stat_hd]
        by_cases ej : j = k
        · rw [if_pos ej, if_pos ej]
          exact ⟨fun ⟨_, _, _, h⟩ => (by cases h), fun h => absurd ej h.1⟩
        · rw [if_neg ej, if_neg ej]
          exact ⟨fun h => ⟨ej, h⟩, fun h => h.2⟩
      refine ⟨fun j => open Classical in if j = k then fun _ => none else F j, fun j e' cs' R' hj => ?_, fun j b o ho => ?_, fun i j b h1 h2 => ?_⟩
      · rw [stat_hd] at hj
        by_cases ej : j = k
        · rw [if_pos ej] at hj; cases hj
        · rw [if_neg ej] at hj
          rw [if_neg ej]
          exact hF.holds j e' cs' R' (by rw [stat_hd, if_neg ej]; exact hj)
      · by_cases ej : j = k
        · rw [if_pos ej] at ho; cases ho
        · rw [if_neg ej] at ho
          obtain ⟨h1, h2, h3, h4, h5, h6⟩ := hF.mem j b o ho
          refine ⟨(hold j).2 ⟨ej, h1⟩, h2, h3, h4, ?_, fun i bi hi ei => ?_⟩
          · have hc : cutM (F k) (ι k).1 b = none := by
              cases hc : cutM (F k) (ι k).1 b with
              | none => rfl
              | some o' => exact absurd (hF.apart j k b (by rw [ho]; simp) (by rw [(cutM_some hc).2]; simp)) ej
            exact (joinM_out hc).trans h5
          · obtain ⟨b0, h0, _⟩ := live i bi hi
            exact h6 i b0 h0 ei
      · by_cases ei : i = k
        · rw [if_pos ei] at h1; exact absurd rfl h1
        · by_cases ej : j = k
          · rw [if_pos ej] at h2; exact absurd rfl h2
          · rw [if_neg ei] at h1
            rw [if_neg ej] at h2
            exact hF.apart i j b h1 h2
    frame := hr.frame, big := hr.big, os := hr.os, tape := hr.tape, output := hr.output }
theorem LWP.openRes {e : TypeId} {cs : List CV} {R : Rsc} (hroot : ∀ ρ H, R.holds ρ H → ∃ vals el fr, H ρ.1 = some (.cells vals el fr) ∧ vals.size = ρ.2)
    (h : ∀ (ρ : Nat × Nat) (H : Nat → Option Obj) (vals : Array Value) (el : TypeId) (fr : Nat × Nat), R.holds ρ H → H ρ.1 = some (.cells vals el fr) → OwnedM C X H → LWP P n C c Q ⟨s, (k, some ⟨el, vals.toList.map .val, false⟩) :: bx, joinM X (cutM H ρ.1)⟩) :
    LWP P n C c Q ⟨s, (k, some ⟨e, cs, .res R⟩) :: bx, X⟩ := by
  refine ⟨fun ι a w hr => ?_⟩
  obtain ⟨ρ, H, vals, el, fr, h1, h2, h3, h4⟩ := hr.openRes hroot
  exact (h ρ H vals el fr h1 h2 h3).out ι a w h4
theorem Rel.closeRes {ι : Nat → Nat × Nat} {a : Act} {w : World} {el : TypeId} {vals : List Value} {H : Nat → Option Obj} {R : Rsc} (hO : OwnedM C X H)
    (hR : ∀ (ρ : Nat × Nat) (fr : Nat × Nat), H ρ.1 = none → X ρ.1 = none → ρ.2 = vals.length → R.holds ρ (withBlock H ρ.1 (.cells vals.toArray el fr)))
    (hr : Rel n C ι ⟨s, (k, some ⟨el, vals.map .val, false⟩) :: bx, joinM X H⟩ a w) :
    Rel n C ι ⟨s, (k, some ⟨0, [], .res R⟩) :: bx, X⟩ a w := by
  obtain ⟨F, hF⟩ := hr.res
  have hk : (⟨s, (k, some ⟨el, vals.map .val, false⟩) :: bx, joinM X H⟩ : St).stat k = some (some ⟨el, vals.map .val, false⟩) := by rw [stat_hd, if_pos rfl]
  obtain ⟨arr, fr, harr, hth, hsz, hbr⟩ := hr.boxes k _ hk rfl
  have hav : arr.toList = vals := rel_vals hbr
  have hav2 : arr = vals.toArray := by rw [← hav]
  obtain ⟨hkown, hkX⟩ := hr.own k _ hk
  obtain ⟨hkH, hkX⟩ := joinM_none hkX
  have hlater := later_hd (s := s) (bx := bx) (k := k) ι ⟨el, vals.map .val, false⟩ ⟨0, [], .res R⟩ (joinM X H) X
  have live : ∀ j b, (⟨s, (k, some ⟨0, [], .res R⟩) :: bx, X⟩ : St).stat j = some (some b) → ∃ b0, (⟨s, (k, some ⟨el, vals.map .val, false⟩) :: bx, joinM X H⟩ : St).stat j = some (some b0) ∧ (j ≠ k → b = b0) := fun j b hj => by
    rw [stat_hd] at hj ⊢
    by_cases e : j = k
    · rw [if_pos e]; exact ⟨_, rfl, fun h => absurd e h⟩
    · rw [if_neg e] at hj ⊢; exact ⟨b, hj, fun _ => rfl⟩
  have hroots : ∀ j b, (⟨s, (k, some ⟨el, vals.map .val, false⟩) :: bx, joinM X H⟩ : St).stat j = some (some b) → H (ι j).1 = none ∧ X (ι j).1 = none := fun j b hj => joinM_none (hr.own j b hj).2
  exact {
    defers := hr.defers, size := hr.size
    slots := fun d lv hd => by
      obtain ⟨v, hv, hvr⟩ := hr.slots d lv hd
      exact ⟨v, hv, LV.rel_later hlater hvr⟩
    boxes := fun j b hj hbk => by
      by_cases ej : j = k
      · subst ej
        rw [stat_hd, if_pos rfl] at hj
        simp only [Option.some.injEq] at hj
        subst hj
        cases hbk
      · obtain ⟨b0, h0, h1⟩ := live j b hj
        have := h1 ej
        subst this
        obtain ⟨arr', fr', g1, g2, g3, g4⟩ := hr.boxes j b h0 hbk
        exact ⟨arr', fr', g1, g2, g3, Box.rel_later hlater g4⟩
    own := fun j b hj => by
      obtain ⟨b0, h0, _⟩ := live j b hj
      exact ⟨(hr.own j b0 h0).1, (hroots j b0 h0).2⟩
    inj := fun i j bi bj hi hj he => by
      obtain ⟨b1, h1, _⟩ := live i bi hi
      obtain ⟨b2, h2, _⟩ := live j bj hj
      exact hr.inj i j b1 b2 h1 h2 he
    keep := fun j b hj hge => by obtain ⟨b0, h0, _⟩ := live j b hj; exact hr.keep j b0 h0 hge
    ext := fun b o hb => by
      have hb : X b = some o := hb
      have hH : H b = none := by
        cases hc : H b with
        | none => rfl
        | some o' => have := (hO.own b o' hc).2.2; rw [hb] at this; cases this
      exact hr.ext b o ((joinM_out hH).trans hb)
    res := by
      have hG : ∀ b o, withBlock H (ι k).1 (.cells vals.toArray el fr) b = some o → w.heap[b]? = some o ∧ Loose o ∧ (C.own b ∨ C.w0.heap.size ≤ b) ∧ X b = none ∧ (b = (ι k).1 ∨ H b = some o) := fun b o hb => by
        unfold withBlock at hb
        split at hb
        · rename_i e
          cases hb
          subst e
          refine ⟨by rw [← hav2]; exact harr, by rw [← hav2]; exact hth, hkown, hkX, .inl rfl⟩
        · obtain ⟨h1, h2, h3⟩ := hO.own b o hb
          exact ⟨hr.ext b o (joinM_in hb), h2, h1, h3, .inr hb⟩
      have hFX : ∀ j b, F j b ≠ none → H b = none ∧ X b = none ∧ b ≠ (ι k).1 := fun j b hb => by
        cases ho : F j b with
        | none => exact absurd ho hb
        | some o =>
          obtain ⟨h1, _, _, _, h5, h6⟩ := hF.mem j b o ho
          obtain ⟨h7, h8⟩ := joinM_none h5
          refine ⟨h7, h8, fun e => ?_⟩
          have := h6 k _ hk e.symm
          subst this
          obtain ⟨_, _, _, h9⟩ := h1
          rw [hk] at h9
          cases h9
      refine ⟨fun j => open Classical in if j = k then withBlock H (ι k).1 (.cells vals.toArray el fr) else F j, fun j e' cs' R' hj => ?_, fun j b o ho => ?_, fun i j b h1 h2 => ?_⟩
      · rw [stat_hd] at hj
        by_cases ej : j = k
        · rw [if_pos ej] at hj
          cases hj
          rw [if_pos ej, ej]
          exact ⟨hR (ι k) fr hkH hkX (by rw [← hsz, ← Array.length_toList, hav]), by rw [withBlock_at]; simp⟩
        · rw [if_neg ej] at hj
          rw [if_neg ej]
          exact hF.holds j e' cs' R' (by rw [stat_hd, if_neg ej]; exact hj)
      · by_cases ej : j = k
        · rw [if_pos ej] at ho
          obtain ⟨h1, h2, h3, h4, h5⟩ := hG b o ho
          refine ⟨⟨0, [], R, by rw [stat_hd, if_pos ej]⟩, h1, h2, h3, h4, fun i bi hi ei => ?_⟩
          obtain ⟨b0, h0, _⟩ := live i bi hi
          rw [ej]
          rcases h5 with h5 | h5
          · exact hr.inj i k b0 _ h0 hk (by rw [ei, h5])
          · have := (hroots i b0 h0).1; rw [ei, h5] at this; cases this
        · rw [if_neg ej] at ho
          obtain ⟨⟨e1, cs1, R1, h1⟩, h2, h3, h4, h5, h6⟩ := hF.mem j b o ho
          refine ⟨⟨e1, cs1, R1, by rw [stat_hd, if_neg ej]; rw [stat_hd, if_neg ej] at h1; exact h1⟩, h2, h3, h4, (joinM_none h5).2, fun i bi hi ei => ?_⟩
          obtain ⟨b0, h0, _⟩ := live i bi hi
          exact h6 i b0 h0 ei
      · by_cases ei : i = k
        · by_cases ej : j = k
          · rw [ei, ej]
          · rw [if_pos ei] at h1
            rw [if_neg ej] at h2
            obtain ⟨h3, _, h5⟩ := hFX j b h2
            cases ho : withBlock H (ι k).1 (.cells vals.toArray el fr) b with
            | none => exact absurd ho h1
            | some o =>
              rcases (hG b o ho).2.2.2.2 with h6 | h6
              · exact absurd h6 h5
              · rw [h3] at h6; cases h6
        · by_cases ej : j = k
          · rw [if_neg ei] at h1
            rw [if_pos ej] at h2
            obtain ⟨h3, _, h5⟩ := hFX i b h1
            cases ho : withBlock H (ι k).1 (.cells vals.toArray el fr) b with
            | none => exact absurd ho h2
            | some o =>
              rcases (hG b o ho).2.2.2.2 with h6 | h6
              · exact absurd h6 h5
              · rw [h3] at h6; cases h6
          · rw [if_neg ei] at h1
            rw [if_neg ej] at h2
            exact hF.apart i j b h1 h2
    frame := hr.frame, big := hr.big, os := hr.os, tape := hr.tape, output := hr.output }
theorem LWP.closeRes {el : TypeId} {vals : List Value} {H : Nat → Option Obj} {R : Rsc} (hO : OwnedM C X H)
    (hR : ∀ (ρ : Nat × Nat) (fr : Nat × Nat), H ρ.1 = none → X ρ.1 = none → ρ.2 = vals.length → R.holds ρ (withBlock H ρ.1 (.cells vals.toArray el fr)))
    (h : LWP P n C c Q ⟨s, (k, some ⟨0, [], .res R⟩) :: bx, X⟩) : LWP P n C c Q ⟨s, (k, some ⟨el, vals.map .val, false⟩) :: bx, joinM X H⟩ :=
  ⟨fun ι a w hr => h.out ι a w (hr.closeRes hO hR)⟩
theorem Leads.closeRes {Mid : St → Prop} {el : TypeId} {vals : List Value} {H : Nat → Option Obj} {R : Rsc} (hO : OwnedM C X H)
    (hR : ∀ (ρ : Nat × Nat) (fr : Nat × Nat), H ρ.1 = none → X ρ.1 = none → ρ.2 = vals.length → R.holds ρ (withBlock H ρ.1 (.cells vals.toArray el fr)))
    (h : Leads n C Mid ⟨s, (k, some ⟨0, [], .res R⟩) :: bx, X⟩) : Leads n C Mid ⟨s, (k, some ⟨el, vals.map .val, false⟩) :: bx, joinM X H⟩ :=
  ⟨fun ι a w hr => h.out ι a w (hr.closeRes hO hR)⟩
theorem LWP.ends (h : LWP P n C c (fun e σ => Leads n C (fun σ' => Q e σ') σ) ⟨s, bx, X⟩) : LWP P n C c Q ⟨s, bx, X⟩ :=
  ⟨fun ι a w hr => wp_mono (h.out ι a w hr) fun _ a' w' ⟨ι', σ', hl, hr'⟩ => by
    obtain ⟨ι2, σ2, hq, hr2⟩ := hl.out ι' a' w' hr'
    exact ⟨ι2, σ2, hq, hr2⟩⟩
end
end Go.Lg
end
section
namespace Go.Lg
open Go Go.RowKit
section
variable {P : Program} {n : Nat} {C : Ctx} {c : Code} {Q : Exit → St → Prop} {X : Nat → Option Obj} {s : List (Nat × LV)} {bx : List (Nat × Option Box)}
theorem Rel.thawName {ι : Nat → Nat × Nat} {a : Act} {w : World} {k blk : Nat} {el : TypeId} {vals : List Value} {arr : Array Value} {fr : Nat × Nat}
    (hX : X blk = none) (hF : Frozen C blk arr fr) (hsp : ∃ sp, arr.toList = vals ++ sp)
    (hs : s.all (fun p => p.2.inUse bx) = true) (hb : bx.all (fun p => match p.2 with | some b => b.cells.all (CV.inUse bx) | none => true) = true) (hk : look k bx = none) (hlt : k < 1000000)
    (hr : Rel n C ι ⟨s, bx, withBlock X blk (.cells arr el fr)⟩ a w) :
    Rel n C (put1 ι k (blk, arr.size)) ⟨s, (k, some ⟨el, vals.map .val, true⟩) :: bx, X⟩ a w := by
  have hlk : ∀ k' x, look k' bx = some x → k' ≠ k := fun k' x h' e => by rw [e, hk] at h'; cases h'
  have hι : ∀ k', k' ≠ k → put1 ι k (blk, arr.size) k' = ι k' := fun k' e => by unfold put1; rw [if_neg e]
  have hιk : put1 ι k (blk, arr.size) k = (blk, arr.size) := by unfold put1; rw [if_pos rfl]
  have hst : ∀ k' b, (⟨s, (k, some ⟨el, vals.map .val, true⟩) :: bx, X⟩ : St).stat k' = some (some b) → (k' = k ∧ b = ⟨el, vals.map .val, true⟩) ∨ (k' ≠ k ∧ look k' bx = some (some b)) := fun k' b h' => by
    rw [stat_hd] at h'
    by_cases e : k' = k
    · rw [if_pos e] at h'
      simp only [Option.some.injEq] at h'
      exact .inl ⟨e, h'.symm⟩
    · rw [if_neg e] at h'; exact .inr ⟨e, h'⟩
  have hon : SameOn bx (⟨s, bx, withBlock X blk (.cells arr el fr)⟩ : St).stat (⟨s, (k, some ⟨el, vals.map .val, true⟩) :: bx, X⟩ : St).stat := fun k' x h' => by
    rw [stat_hd, if_neg (hlk k' x h')]; rfl
  have hmean : ∀ {b : Box} {us : List Value}, b.rel (⟨s, (k, some ⟨el, vals.map .val, true⟩) :: bx, X⟩ : St).stat ι us → b.cells.all (CV.inUse bx) = true → b.rel (⟨s, (k, some ⟨el, vals.map .val, true⟩) :: bx, X⟩ : St).stat (put1 ι k (blk, arr.size)) us := fun {b us} h1 h2 => by
    unfold Box.rel at h1 ⊢
    cases hrow : b.row with
    | res R => rw [hrow] at h1; exact h1.elim
    | bool r =>
      cases r with
      | false => rw [hrow] at h1; exact CVs.rel_means (fun k' hk' => hι k' (by obtain ⟨x, hx⟩ := Option.isSome_iff_exists.1 hk'; exact hlk k' x hx)) h2 h1
      | true =>
        rw [hrow] at h1
        obtain ⟨us', sp, e, hl⟩ := h1
        exact ⟨us', sp, e, CVs.rel_means (fun k' hk' => hι k' (by obtain ⟨x, hx⟩ := Option.isSome_iff_exists.1 hk'; exact hlk k' x hx)) h2 hl⟩
  exact {
    defers := hr.defers, size := hr.size
    slots := fun d' lv hd => by
      obtain ⟨v', hv', hr'⟩ := hr.slots d' lv hd
      have hu := List.all_eq_true.1 hs _ (look_mem hd)
      exact ⟨v', hv', LV.rel_means (fun k' hk' => hι k' (by obtain ⟨x, hx⟩ := Option.isSome_iff_exists.1 hk'; exact hlk k' x hx)) hu (LV.rel_on hon hu hr')⟩
    res := by
      obtain ⟨F, hG⟩ := hr.res
      refine hG.keep (fun j e cs R hj => ?_) (fun _ _ _ _ _ hj => hj) (fun _ _ ho => ho) (fun b _ hx _ _ => ?_) (fun j bj hj => ?_)
      · rcases hst j _ hj with ⟨_, h2⟩ | ⟨hne, h2⟩
        · cases h2
        · exact ⟨h2, hι j hne⟩
      · have hx : withBlock X blk (.cells arr el fr) b = none := hx
        unfold withBlock at hx
        split at hx
        · cases hx
        · exact hx
      · rcases hst j bj hj with ⟨rfl, _⟩ | ⟨hne, h2⟩
        · rw [hιk]
          refine .inr (.inr (.inr ?_))
          show withBlock X blk (.cells arr el fr) blk ≠ none
          rw [withBlock_at]; simp
        · exact .inl ⟨bj, h2, by rw [hι j hne]⟩
    boxes := fun k' b hb' hbk => by
      rcases hst k' b hb' with ⟨rfl, rfl⟩ | ⟨hne, hb''⟩
      · rw [hιk]
        obtain ⟨sp, hsp⟩ := hsp
        exact ⟨arr, fr, hr.ext blk _ (withBlock_at _ _ _), hF.thaw, rfl, vals, sp, hsp, CVs.rel_map_val vals⟩
      · rw [hι k' hne]
        obtain ⟨arr', fr', h1, h2, h3, h4⟩ := hr.boxes k' b hb'' hbk
        have hu : b.cells.all (CV.inUse bx) = true := by simpa using List.all_eq_true.1 hb _ (look_mem hb'')
        exact ⟨arr', fr', h1, h2, h3, hmean (Box.rel_on hon hu h4) hu⟩
    own := fun k' b hb' => by
      rcases hst k' b hb' with ⟨rfl, rfl⟩ | ⟨hne, hb''⟩
      · rw [hιk]; exact ⟨hF.own, hX⟩
      · rw [hι k' hne]
        obtain ⟨h1, h2⟩ := hr.own k' b hb''
        refine ⟨h1, ?_⟩
        have h2 : withBlock X blk (.cells arr el fr) (ι k').1 = none := h2
        unfold withBlock at h2
        split at h2
        · cases h2
        · exact h2
    inj := fun k1 k2 b1 b2 h1 h2 he => by
      have hne : ∀ k' b, look k' bx = some (some b) → (ι k').1 ≠ blk := fun k' b hb' e => by
        have h2 : withBlock X blk (.cells arr el fr) (ι k').1 = none := (hr.own k' b hb').2
        rw [e, withBlock_at] at h2
        cases h2
      rcases hst k1 b1 h1 with ⟨e1, _⟩ | ⟨n1, h1'⟩ <;> rcases hst k2 b2 h2 with ⟨e2, _⟩ | ⟨n2, h2'⟩
      · rw [e1, e2]
      · rw [e1, hιk, hι k2 n2] at he; exact absurd he.symm (hne k2 b2 h2')
      · rw [e2, hιk, hι k1 n1] at he; exact absurd he (hne k1 b1 h1')
      · rw [hι k1 n1, hι k2 n2] at he; exact hr.inj k1 k2 b1 b2 h1' h2' he
    keep := fun k' b hb' hge => by
      rcases hst k' b hb' with ⟨e, _⟩ | ⟨hne, hb''⟩
      · omega
      · rw [hι k' hne]; exact hr.keep k' b hb'' hge
    ext := fun b o hbo => hr.ext b o (withBlock_old hX b o hbo)
    frame := hr.frame, big := hr.big, os := hr.os, tape := hr.tape, output := hr.output }
theorem rel_swap {S : Nat → Option (Option Box)} {ι : Nat → Nat × Nat} {c' : CV} {v : Value} (hc : c'.rel S ι v) : ∀ {A B : List CV} {vs : List Value}, CVs.rel S ι (A ++ .val v :: B) vs → CVs.rel S ι (A ++ c' :: B) vs
  | [], _, u :: _, h => ⟨by have := h.1; simp only [CV.rel] at this; rw [this]; exact hc, h.2⟩
  | [], _, [], h => h.elim
  | _ :: A, _, _ :: _, h => ⟨h.1, rel_swap hc (A := A) h.2⟩
  | _ :: _, _, [], h => h.elim
theorem Rel.recell {ι : Nat → Nat × Nat} {a : Act} {w : World} {j : Nat} {el2 : TypeId} {A B : List CV} {v : Value} {c' : CV} {row2 : Bool}
    (hc : c'.rel (⟨s, (j, some ⟨el2, A ++ c' :: B, row2⟩) :: bx, X⟩ : St).stat ι v)
    (hr : Rel n C ι ⟨s, (j, some ⟨el2, A ++ .val v :: B, row2⟩) :: bx, X⟩ a w) : Rel n C ι ⟨s, (j, some ⟨el2, A ++ c' :: B, row2⟩) :: bx, X⟩ a w := by
  have hlater := later_hd (s := s) (bx := bx) (k := j) ι ⟨el2, A ++ .val v :: B, row2⟩ ⟨el2, A ++ c' :: B, row2⟩ X X
  have live : ∀ i b, (⟨s, (j, some ⟨el2, A ++ c' :: B, row2⟩) :: bx, X⟩ : St).stat i = some (some b) → ∃ b0, (⟨s, (j, some ⟨el2, A ++ .val v :: B, row2⟩) :: bx, X⟩ : St).stat i = some (some b0) ∧ (i ≠ j → b = b0) := fun i b hi => by
    rw [stat_hd] at hi ⊢
    by_cases e : i = j
    · rw [if_pos e]; exact ⟨_, rfl, fun h => absurd e h⟩
    · rw [if_neg e] at hi ⊢; exact ⟨b, hi, fun _ => rfl⟩
  exact {
    defers := hr.defers, size := hr.size
    slots := fun d lv hd => by
      obtain ⟨v, hv, hvr⟩ := hr.slots d lv hd
      exact ⟨v, hv, LV.rel_later hlater hvr⟩
    boxes := fun i b hi hbk => by
      by_cases e : i = j
      · subst e
        rw [stat_hd, if_pos rfl] at hi
        simp only [Option.some.injEq] at hi
        subst hi
        obtain ⟨arr, fr, g1, g2, g3, g4⟩ := hr.boxes i ⟨el2, A ++ .val v :: B, row2⟩ (by rw [stat_hd, if_pos rfl]) rfl
        refine ⟨arr, fr, g1, g2, g3, ?_⟩
        have g5 := Box.rel_later hlater g4
        unfold Box.rel at g5 ⊢
        cases row2 with
        | false => exact rel_swap hc g5
        | true =>
          obtain ⟨us, sp, e, hl⟩ := g5
          exact ⟨us, sp, e, rel_swap hc hl⟩
      · obtain ⟨b0, h0, h1⟩ := live i b hi
        have := h1 e
        subst this
        obtain ⟨arr, fr, g1, g2, g3, g4⟩ := hr.boxes i b h0 hbk
        exact ⟨arr, fr, g1, g2, g3, Box.rel_later hlater g4⟩
    own := fun i b hi => by obtain ⟨b0, h0, _⟩ := live i b hi; exact hr.own i b0 h0
    inj := fun i i' bi bj hi hj he => by
      obtain ⟨b1, h1, _⟩ := live i bi hi
      obtain ⟨b2, h2, _⟩ := live i' bj hj
      exact hr.inj i i' b1 b2 h1 h2 he
    keep := fun i b hi hge => by obtain ⟨b0, h0, _⟩ := live i b hi; exact hr.keep i b0 h0 hge
    ext := hr.ext
    res := by
      obtain ⟨F, hG⟩ := hr.res
      refine hG.keep (fun i e cs R hi => ?_) (fun _ _ _ _ _ hi => hi) (fun _ _ ho => ho) (fun b _ hx _ _ => hx) (fun i bi hi => ?_)
      · rw [stat_hd] at hi ⊢
        by_cases e : i = j
        · rw [if_pos e] at hi; cases hi
        · rw [if_neg e] at hi ⊢; exact ⟨hi, rfl⟩
      · obtain ⟨b0, h0, _⟩ := live i bi hi
        exact .inl ⟨b0, h0, rfl⟩
    frame := hr.frame, big := hr.big, os := hr.os, tape := hr.tape, output := hr.output }
theorem LWP.thawCell {j k off len sz blk cap : Nat} {el el2 : TypeId} {A B : List CV} {row2 : Bool} {vals : List Value} {arr : Array Value} {fr : Nat × Nat}
    (hX : X blk = none) (hF : Frozen C blk arr fr) (hc : len ≤ cap) (hfit : off + cap * sz ≤ arr.size) (hsp : ∃ sp, arr.toList = vals ++ sp)
    (hs : s.all (fun p => p.2.inUse ((j, some ⟨el2, A ++ .val (.slice (some ⟨blk, off, none⟩) len cap) :: B, row2⟩) :: bx)) = true)
    (hb : ((j, some (⟨el2, A ++ .val (.slice (some ⟨blk, off, none⟩) len cap) :: B, row2⟩ : Box)) :: bx).all (fun p => match p.2 with | some b => b.cells.all (CV.inUse ((j, some ⟨el2, A ++ .val (.slice (some ⟨blk, off, none⟩) len cap) :: B, row2⟩) :: bx)) | none => true) = true)
    (hk : look k bx = none) (hjk : Nat.beq j k = false) (hlt : Nat.blt k 1000000 = true)
    (h : LWP P n C c Q ⟨s, (j, some ⟨el2, A ++ .slc k off len sz :: B, row2⟩) :: (k, some ⟨el, vals.map .val, true⟩) :: bx, X⟩) :
    LWP P n C c Q ⟨s, (j, some ⟨el2, A ++ .val (.slice (some ⟨blk, off, none⟩) len cap) :: B, row2⟩) :: bx, withBlock X blk (.cells arr el fr)⟩ := by
  have hjk' : k ≠ j := fun e => by rw [e, Nat.beq_refl] at hjk; cases hjk
  refine ⟨fun ι a w hr => ?_⟩
  have h1 := hr.thawName (k := k) hX hF hsp hs hb (by simp only [look, hjk, cond_false]; exact hk) (by rw [Nat.blt_eq] at hlt; exact hlt)
  have h2 : Rel n C (put1 ι k (blk, arr.size)) ⟨s, (j, some ⟨el2, A ++ .val (.slice (some ⟨blk, off, none⟩) len cap) :: B, row2⟩) :: (k, some ⟨el, vals.map .val, true⟩) :: bx, X⟩ a w := by
    refine h1.same ⟨fun _ => rfl, fun i => ?_, rfl⟩
    simp only [St.stat, look]
    cases e1 : Nat.beq j i with
    | false => rfl
    | true =>
      cases e2 : Nat.beq k i with
      | false => rfl
      | true => exact absurd ((Nat.eq_of_beq_eq_true e2).trans (Nat.eq_of_beq_eq_true e1).symm) hjk'
  refine h.out _ a w (h2.recell ?_)
  simp only [CV.rel]
  rw [stat_hd, if_neg hjk']
  simp only [look, show Nat.beq k k = true from Nat.beq_refl k, cond_true]
  unfold put1
  rw [if_pos rfl]
  exact ⟨cap, rfl, hc, hfit⟩
theorem LWP.freezeCell {j k off len sz : Nat} {el el2 : TypeId} {A B : List CV} {row2 : Bool} {vals : List Value} {row : Bool}
    (hs : s.all (fun p => p.2.inUse ((j, none) :: bx)) = true) (hA : A.all (CV.inUse ((j, none) :: bx)) = true) (hB : B.all (CV.inUse ((j, none) :: bx)) = true) (hb : bx.all (fun p => match p.2 with | some b => b.cells.all (CV.inUse ((j, none) :: bx)) | none => true) = true) (hk : look k bx = none) (hjk : Nat.beq j k = false)
    (h : ∀ (blk cap : Nat) (arr : Array Value) (fr : Nat × Nat), X blk = none → Frozen C blk arr fr → len ≤ cap → off + cap * sz ≤ arr.size → (∃ sp, arr.toList = vals ++ sp) →
      LWP P n C c Q ⟨s, (j, some ⟨el2, A ++ .val (.slice (some ⟨blk, off, none⟩) len cap) :: B, row2⟩) :: bx, withBlock X blk (.cells arr el fr)⟩) :
    LWP P n C c Q ⟨s, (j, some ⟨el2, A ++ .slc k off len sz :: B, row2⟩) :: (k, some ⟨el, vals.map .val, row⟩) :: bx, X⟩ := ⟨fun ι a w hr => by
  obtain ⟨blk, cap, arr, fr, h1, h2, h3, h4, h5, h6⟩ := hr.freezeCell hs hA hB hb hk hjk
  exact (h blk cap arr fr h1 h2 h3 h4 h5).out ι a w h6⟩
end
end Go.Lg
end
section
namespace Go.Lg
open Go Go.RowKit
section
variable {P : Program} {n : Nat} {ops os : List Oper} {acc : List Eff} {K : List Eff → St → Prop} {s : List (Nat × LV)} {bx : List (Nat × Option Box)} {X : Nat → Option Obj} {σ : St}
end
end Go.Lg
end
