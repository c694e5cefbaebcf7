/- A piece of a proof over this program: contracts of its functions, and a logic to prove them by. -/
import Derived.Test.YtamplgnbbanamaaGreatDoorF2
import Derived.Test.YtamplgnbbanamaaGreatDoorF3
import Derived.Test.YtamplgnbbanamaaGreatDoorF4
import Derived.Shelf.Strings.Builder1
import Derived.Shelf.Strings.Builder2
import Derived.Shelf.Strings.OnBuilder
import Derived.Shelf.Small.Bits
import Derived.Shelf.Strings.BuilderF
import Derived.Shelf.Strconv.Itoa0
import Derived.Shelf.Strconv.Itoa1
import Derived.Shelf.LaysM
import Derived.Shelf.Strconv.Itoa2
import Derived.Shelf.Strconv.Itoa3
import Derived.Shelf.Strings.Prefix
import Derived.Shelf.Bits.Mul64
import Derived.Shelf.Strings.Repeat
import Derived.Test.YtamplgnbbanamaaGreatDoorProg
import Derived.Lib.Walk
import Derived.Lib.ItoaMem
import Derived.Lib.AppendIntMem
import Derived.WalkKit
import Derived.BigCall
import Derived.BigGuard
import Derived.ChangeKeysEq
section
namespace Go.Proofs
open Go.Shelf
def Tryz.lays156_ren : Go.Shelf.Ren := ⟨fun | 156 => 44 | 165 => 67 | 166 => 68 | 169 => 69 | 240 => 83 | 241 => 84 | 276 => 95 | 277 => 96 | n => n, fun | 31 => 55 | 9 => 9 | 3 => 3 | 4 => 4 | 0 => 0 | 20 => 20 | 72 => 119 | 76 => 123 | 70 => 117 | 37 => 59 | 75 => 122 | 127 => 143 | 164 => 155 | 5 => 5 | 80 => 80 | n => n, fun | n => n⟩
theorem Tryz.lays156 : Go.Proofs.Lays.n156 Tryz.prog Tryz.lays156_ren := {
  mixed := by kernel_rfl
  f156 := Tryz.func44.trans (congrArg some (by kernel_rfl))
  f165 := Tryz.func67.trans (congrArg some (by kernel_rfl))
  f166 := Tryz.func68.trans (congrArg some (by kernel_rfl))
  f169 := Tryz.func69.trans (congrArg some (by kernel_rfl))
  f240 := Tryz.func83.trans (congrArg some (by kernel_rfl))
  f241 := Tryz.func84.trans (congrArg some (by kernel_rfl))
  f276 := Tryz.func95.trans (congrArg some (by kernel_rfl))
  f277 := Tryz.func96.trans (congrArg some (by kernel_rfl))
  t0 := Tryz.underlying0
  a0 := Tryz.isAgg0
  z0 := Tryz.sizeOf0
  v0 := Tryz.zeroValue0
  t3 := Tryz.underlying3
  a3 := Tryz.isAgg3
  z3 := Tryz.sizeOf3
  v3 := Tryz.zeroValue3
  t4 := Tryz.underlying4
  a4 := Tryz.isAgg4
  z4 := Tryz.sizeOf4
  v4 := Tryz.zeroValue4
  t9 := Tryz.underlying9
  a9 := Tryz.isAgg9
  z9 := Tryz.sizeOf9
  v9 := Tryz.zeroValue9
  t20 := Tryz.underlying20
  a20 := Tryz.isAgg20
  z20 := Tryz.sizeOf20
  v20 := Tryz.zeroValue20
  t31 := Tryz.underlying55
  a31 := Tryz.isAgg55
  z31 := Tryz.sizeOf55
  v31 := Tryz.zeroValue55
  t37 := Tryz.underlying59
  a37 := Tryz.isAgg59
  z37 := Tryz.sizeOf59
  v37 := Tryz.zeroValue59
  t70 := Tryz.underlying117
  a70 := Tryz.isAgg117
  z70 := Tryz.sizeOf117
  v70 := Tryz.zeroValue117
  t72 := Tryz.underlying119
  a72 := Tryz.isAgg119
  z72 := Tryz.sizeOf119
  v72 := Tryz.zeroValue119
  t75 := Tryz.underlying122
  a75 := Tryz.isAgg122
  z75 := Tryz.sizeOf122
  v75 := Tryz.zeroValue122
  t76 := Tryz.underlying123
  a76 := Tryz.isAgg123
  z76 := Tryz.sizeOf123
  v76 := Tryz.zeroValue123
  t127 := Tryz.underlying143
  a127 := Tryz.isAgg143
  z127 := Tryz.sizeOf143
  v127 := Tryz.zeroValue143
  t164 := Tryz.underlying155
  a164 := Tryz.isAgg155
  z164 := Tryz.sizeOf155
  v164 := Tryz.zeroValue155 }
theorem Tryz.Builder_Extra_156 : Builder.Extra Tryz.prog Tryz.lays156_ren := {
  sizeBuilder := by kernel_rfl
  liesBuilder := by kernel_rfl
  t5 := Tryz.underlying5
  a5 := Tryz.isAgg5
  z5 := Tryz.sizeOf5
  v5 := Tryz.zeroValue5
  infoByte := by kernel_rfl
  cellsByte := by kernel_rfl
  sizeByte := by kernel_rfl
  neB5 := by decide }
open Go.RowKit in
theorem Tryz.strings_Join (bk o c : Nat) (xs : List ByteArray) (sep : ByteArray) (w : World) (hcells : ∀ (j : Nat) x, xs[j]? = some x → w.cell? ⟨bk, o + j, none⟩ = some (.string x)) (hbk : bk < w.heap.size) (hN : xs.length ≤ 140737488355328) (hcap : xs.length ≤ c) (hlen : (Lib.join (xs.map (·.data.toList)) sep.data.toList).length ≤ 140737488355328) :
    Calls Tryz.prog 44 #[.slice (some ⟨bk, o, none⟩) xs.length c, .string sep] w fun e w' => e = .returned (.string ⟨(Lib.join (xs.map (·.data.toList)) sep.data.toList).toArray⟩) ∧ Below w.heap.size w w' := Any.strings_Join Tryz.lays156 Tryz.Builder_Extra_156 bk o c xs sep w hcells hbk hN hcap hlen
def Tryz.lays134_ren : Go.Shelf.Ren := ⟨fun | 134 => 169 | 129 => 155 | n => n, fun | 53 => 62 | 3 => 3 | 4 => 4 | 46 => 212 | 5 => 5 | 9 => 9 | n => n, fun | n => n⟩
theorem Tryz.lays134 : Go.Proofs.Lays.n134 Tryz.prog Tryz.lays134_ren := {
  mixed := by kernel_rfl
  f129 := Tryz.func155.trans (congrArg some (by kernel_rfl))
  f134 := Tryz.func169.trans (congrArg some (by kernel_rfl))
  t3 := Tryz.underlying3
  a3 := Tryz.isAgg3
  z3 := Tryz.sizeOf3
  v3 := Tryz.zeroValue3
  t4 := Tryz.underlying4
  a4 := Tryz.isAgg4
  z4 := Tryz.sizeOf4
  v4 := Tryz.zeroValue4
  t5 := Tryz.underlying5
  a5 := Tryz.isAgg5
  z5 := Tryz.sizeOf5
  v5 := Tryz.zeroValue5
  t9 := Tryz.underlying9
  a9 := Tryz.isAgg9
  z9 := Tryz.sizeOf9
  v9 := Tryz.zeroValue9
  t46 := Tryz.underlying212
  a46 := Tryz.isAgg212
  z46 := Tryz.sizeOf212
  v46 := Tryz.zeroValue212
  t53 := Tryz.underlying62
  a53 := Tryz.isAgg62
  z53 := Tryz.sizeOf62
  v53 := Tryz.zeroValue62 }
theorem Tryz.bits_LeadingZeros64 (x : Int) (w : World) (h0 : 0 ≤ x) (h1 : x ≤ 18446744073709551615) :
    Calls Tryz.prog 169 #[.int .u64 x] w fun e w' => e = .returned (.int .i64 (64 - (Lib.bitLen x.toNat : Int))) ∧ w' = w := Any.bits_LeadingZeros64 Tryz.lays134 x w h0 h1
def Tryz.lays283_ren : Go.Shelf.Ren := ⟨fun | 283 => 124 | n => n, fun | 3 => 3 | 9 => 9 | 4 => 4 | n => n, fun | n => n⟩
theorem Tryz.lays283 : Go.Proofs.Lays.n283 Tryz.prog Tryz.lays283_ren := {
  mixed := by kernel_rfl
  f283 := Tryz.func124.trans (congrArg some (by kernel_rfl))
  t3 := Tryz.underlying3
  a3 := Tryz.isAgg3
  z3 := Tryz.sizeOf3
  v3 := Tryz.zeroValue3
  t4 := Tryz.underlying4
  a4 := Tryz.isAgg4
  z4 := Tryz.sizeOf4
  v4 := Tryz.zeroValue4
  t9 := Tryz.underlying9
  a9 := Tryz.isAgg9
  z9 := Tryz.sizeOf9
  v9 := Tryz.zeroValue9 }
open Go.Lib in
theorem Tryz.internal_strconv_small (i : Nat) (h : i < 100) (w : World) :
    Calls Tryz.prog 124 #[.int .i64 i] w fun e w' => e = .returned (.string ⟨(Lib.decDigits i).toArray⟩) ∧ w' = w := Any.internal_strconv_small Tryz.lays283 i h w
def Tryz.laysM284_ren : Go.Shelf.Ren := ⟨fun | 284 => 125 | 129 => 155 | 317 => 154 | 318 => 156 | n => n, fun | 53 => 62 | 3 => 3 | 212 => 209 | 0 => 0 | 4 => 4 | 46 => 212 | 5 => 5 | 9 => 9 | n => n, fun | 17 => 1 | n => n⟩
theorem Tryz.laysM284 : Go.Proofs.LaysM.n284 Tryz.prog Tryz.laysM284_ren := {
  mixed := by kernel_rfl
  f129 := Tryz.func155.trans (congrArg some (by kernel_rfl))
  f284 := Tryz.func125.trans (congrArg some (by kernel_rfl))
  f317 := Tryz.func154.trans (congrArg some (by kernel_rfl))
  f318 := Tryz.func156.trans (congrArg some (by kernel_rfl))
  t0 := Tryz.underlying0
  a0 := Tryz.isAgg0
  z0 := Tryz.sizeOf0
  v0 := Tryz.zeroValue0
  t3 := Tryz.underlying3
  a3 := Tryz.isAgg3
  z3 := Tryz.sizeOf3
  v3 := Tryz.zeroValue3
  t4 := Tryz.underlying4
  a4 := Tryz.isAgg4
  z4 := Tryz.sizeOf4
  v4 := Tryz.zeroValue4
  t5 := Tryz.underlying5
  a5 := Tryz.isAgg5
  z5 := Tryz.sizeOf5
  v5 := Tryz.zeroValue5
  t9 := Tryz.underlying9
  a9 := Tryz.isAgg9
  z9 := Tryz.sizeOf9
  v9 := Tryz.zeroValue9
  t46 := Tryz.underlying212
  a46 := Tryz.isAgg212
  z46 := Tryz.sizeOf212
  v46 := Tryz.zeroValue212
  t53 := Tryz.underlying62
  a53 := Tryz.isAgg62
  z53 := Tryz.sizeOf62
  v53 := Tryz.zeroValue62
  t212 := Tryz.underlying209
  a212 := Tryz.isAgg209
  z212 := Tryz.sizeOf209
  v212 := Tryz.zeroValue209
  g17 := by kernel_rfl
  i0 := by kernel_rfl
  i3 := by kernel_rfl
  i4 := by kernel_rfl
  i5 := by kernel_rfl
  i9 := by kernel_rfl
  i46 := by kernel_rfl
  i53 := by kernel_rfl
  i212 := by kernel_rfl
  m17 := by kernel_rfl }
open Go.Lib in
theorem Tryz.internal_strconv_numDigits (u : Nat) (h1 : 1 ≤ u) (h2 : u < 18446744073709551616) (w : World) (htab : Lib.TabIs Tryz.prog w "internal/strconv.uint64pow10" .u64 Lib.pow10Tab) :
    Calls Tryz.prog 125 #[.int .u64 u] w fun e w' => e = .returned (.int .i64 (Lib.nDigits u)) ∧ w' = w := Any.internal_strconv_numDigits Tryz.laysM284 u h1 h2 w htab
def Tryz.lays285_ren : Go.Shelf.Ren := ⟨fun | 285 => 126 | n => n, fun | 37 => 59 | 53 => 62 | 3 => 3 | 4 => 4 | 51 => 210 | 9 => 9 | 5 => 5 | 0 => 0 | n => n, fun | n => n⟩
theorem Tryz.lays285 : Go.Proofs.Lays.n285 Tryz.prog Tryz.lays285_ren := {
  mixed := by kernel_rfl
  f285 := Tryz.func126.trans (congrArg some (by kernel_rfl))
  t0 := Tryz.underlying0
  a0 := Tryz.isAgg0
  z0 := Tryz.sizeOf0
  v0 := Tryz.zeroValue0
  t3 := Tryz.underlying3
  a3 := Tryz.isAgg3
  z3 := Tryz.sizeOf3
  v3 := Tryz.zeroValue3
  t4 := Tryz.underlying4
  a4 := Tryz.isAgg4
  z4 := Tryz.sizeOf4
  v4 := Tryz.zeroValue4
  t5 := Tryz.underlying5
  a5 := Tryz.isAgg5
  z5 := Tryz.sizeOf5
  v5 := Tryz.zeroValue5
  t9 := Tryz.underlying9
  a9 := Tryz.isAgg9
  z9 := Tryz.sizeOf9
  v9 := Tryz.zeroValue9
  t37 := Tryz.underlying59
  a37 := Tryz.isAgg59
  z37 := Tryz.sizeOf59
  v37 := Tryz.zeroValue59
  t51 := Tryz.underlying210
  a51 := Tryz.isAgg210
  z51 := Tryz.sizeOf210
  v51 := Tryz.zeroValue210
  t53 := Tryz.underlying62
  a53 := Tryz.isAgg62
  z53 := Tryz.sizeOf62
  v53 := Tryz.zeroValue62 }
open Go.RowKit Go.Sort Go.Lib in
theorem Tryz.internal_strconv_formatBase10 (blk off cap : Nat) (u : Nat) (d : Array UInt8) (w : World) (hH : Holds (fun (b : UInt8) => Value.int .u8 (b.toNat : Int)) w blk off d) (hu : u < 10 ^ d.size) (hu64 : u < 18446744073709551616) (hsz : d.size < 4611686018427387904) :
    Calls Tryz.prog 126 #[.slice (some ⟨blk, off, none⟩) d.size cap, .int .u64 u] w fun e w' =>
      e = .returned (.tuple #[]) ∧ ∃ (n v' : Nat) (dk : Array UInt8), w' = (putRow (fun (b : UInt8) => Value.int .u8 (b.toNat : Int)) w blk off dk).drewN n ∧ FmtInv d.size u 0 v' dk := Any.internal_strconv_formatBase10 Tryz.lays285 blk off cap u d w hH hu hu64 hsz
def Tryz.lays171_ren : Go.Shelf.Ren := ⟨fun | 171 => 70 | 243 => 85 | 246 => 97 | 283 => 124 | 284 => 125 | 285 => 126 | 286 => 127 | 129 => 155 | 317 => 154 | 318 => 156 | 319 => 157 | 320 => 158 | 337 => 167 | 338 => 168 | n => n, fun | 3 => 3 | 9 => 9 | 2 => 2 | 4 => 4 | 171 => 177 | 0 => 0 | 53 => 62 | 37 => 59 | 5 => 5 | 173 => 180 | 212 => 209 | 51 => 210 | 20 => 20 | 213 => 211 | 46 => 212 | 232 => 225 | 233 => 226 | n => n, fun | 17 => 1 | 18 => 4 | 19 => 5 | n => n⟩
theorem Tryz.lays171 : Go.Proofs.Lays.n171 Tryz.prog Tryz.lays171_ren := {
  mixed := by kernel_rfl
  f129 := Tryz.func155.trans (congrArg some (by kernel_rfl))
  f171 := Tryz.func70.trans (congrArg some (by kernel_rfl))
  f243 := Tryz.func85.trans (congrArg some (by kernel_rfl))
  f246 := Tryz.func97.trans (congrArg some (by kernel_rfl))
  f283 := Tryz.func124.trans (congrArg some (by kernel_rfl))
  f284 := Tryz.func125.trans (congrArg some (by kernel_rfl))
  f285 := Tryz.func126.trans (congrArg some (by kernel_rfl))
  f286 := Tryz.func127.trans (congrArg some (by kernel_rfl))
  f317 := Tryz.func154.trans (congrArg some (by kernel_rfl))
  f318 := Tryz.func156.trans (congrArg some (by kernel_rfl))
  f319 := Tryz.func157.trans (congrArg some (by kernel_rfl))
  f320 := Tryz.func158.trans (congrArg some (by kernel_rfl))
  f337 := Tryz.func167.trans (congrArg some (by kernel_rfl))
  f338 := Tryz.func168.trans (congrArg some (by kernel_rfl))
  t0 := Tryz.underlying0
  a0 := Tryz.isAgg0
  z0 := Tryz.sizeOf0
  v0 := Tryz.zeroValue0
  t2 := Tryz.underlying2
  a2 := Tryz.isAgg2
  z2 := Tryz.sizeOf2
  v2 := Tryz.zeroValue2
  t3 := Tryz.underlying3
  a3 := Tryz.isAgg3
  z3 := Tryz.sizeOf3
  v3 := Tryz.zeroValue3
  t4 := Tryz.underlying4
  a4 := Tryz.isAgg4
  z4 := Tryz.sizeOf4
  v4 := Tryz.zeroValue4
  t5 := Tryz.underlying5
  a5 := Tryz.isAgg5
  z5 := Tryz.sizeOf5
  v5 := Tryz.zeroValue5
  t9 := Tryz.underlying9
  a9 := Tryz.isAgg9
  z9 := Tryz.sizeOf9
  v9 := Tryz.zeroValue9
  t20 := Tryz.underlying20
  a20 := Tryz.isAgg20
  z20 := Tryz.sizeOf20
  v20 := Tryz.zeroValue20
  t37 := Tryz.underlying59
  a37 := Tryz.isAgg59
  z37 := Tryz.sizeOf59
  v37 := Tryz.zeroValue59
  t46 := Tryz.underlying212
  a46 := Tryz.isAgg212
  z46 := Tryz.sizeOf212
  v46 := Tryz.zeroValue212
  t51 := Tryz.underlying210
  a51 := Tryz.isAgg210
  z51 := Tryz.sizeOf210
  v51 := Tryz.zeroValue210
  t53 := Tryz.underlying62
  a53 := Tryz.isAgg62
  z53 := Tryz.sizeOf62
  v53 := Tryz.zeroValue62
  t171 := Tryz.underlying177
  a171 := Tryz.isAgg177
  z171 := Tryz.sizeOf177
  v171 := Tryz.zeroValue177
  t173 := Tryz.underlying180
  a173 := Tryz.isAgg180
  z173 := Tryz.sizeOf180
  v173 := Tryz.zeroValue180
  t212 := Tryz.underlying209
  a212 := Tryz.isAgg209
  z212 := Tryz.sizeOf209
  v212 := Tryz.zeroValue209
  t213 := Tryz.underlying211
  a213 := Tryz.isAgg211
  z213 := Tryz.sizeOf211
  t232 := Tryz.underlying225
  a232 := Tryz.isAgg225
  z232 := Tryz.sizeOf225
  v232 := Tryz.zeroValue225
  t233 := Tryz.underlying226
  a233 := Tryz.isAgg226
  z233 := Tryz.sizeOf226
  v233 := Tryz.zeroValue226
  g17 := by kernel_rfl
  g18 := by kernel_rfl
  g19 := by kernel_rfl }
open Go.RowKit Go.Sort Go.Lib in
theorem Tryz.strconv_Itoa_small (i : Nat) (hi : i < 100) (w : World) :
    Calls Tryz.prog 70 #[.int .i64 i] w fun e w' => e = .returned (.string ⟨(Lib.decDigits i).toArray⟩) ∧ w' = w := Any.strconv_Itoa_small Tryz.lays171 i hi w
def Tryz.lays99_ren : Go.Shelf.Ren := ⟨fun | 99 => 172 | 206 => 176 | n => n, fun | 9 => 9 | 4 => 4 | 3 => 3 | n => n, fun | n => n⟩
theorem Tryz.lays99 : Go.Proofs.Lays.n99 Tryz.prog Tryz.lays99_ren := {
  mixed := by kernel_rfl
  f99 := Tryz.func172.trans (congrArg some (by kernel_rfl))
  f206 := Tryz.func176.trans (congrArg some (by kernel_rfl))
  t3 := Tryz.underlying3
  a3 := Tryz.isAgg3
  z3 := Tryz.sizeOf3
  v3 := Tryz.zeroValue3
  t4 := Tryz.underlying4
  a4 := Tryz.isAgg4
  z4 := Tryz.sizeOf4
  v4 := Tryz.zeroValue4
  t9 := Tryz.underlying9
  a9 := Tryz.isAgg9
  z9 := Tryz.sizeOf9
  v9 := Tryz.zeroValue9 }
def Tryz.lays264_ren : Go.Shelf.Ren := ⟨fun | 264 => 165 | n => n, fun | 53 => 62 | 46 => 212 | n => n, fun | n => n⟩
theorem Tryz.lays264 : Go.Proofs.Lays.n264 Tryz.prog Tryz.lays264_ren := {
  mixed := by kernel_rfl
  f264 := Tryz.func165.trans (congrArg some (by kernel_rfl))
  t46 := Tryz.underlying212
  a46 := Tryz.isAgg212
  z46 := Tryz.sizeOf212
  v46 := Tryz.zeroValue212
  t53 := Tryz.underlying62
  a53 := Tryz.isAgg62
  z53 := Tryz.sizeOf62
  v53 := Tryz.zeroValue62 }
open Go.RowKit Go.Lib in
theorem Tryz.bits_Mul64 (x y : Nat) (hx : x < 18446744073709551616) (hy : y < 18446744073709551616) (w : World) :
    Calls Tryz.prog 165 #[.int .u64 x, .int .u64 y] w fun e w' => e = .returned (.tuple #[.int .u64 ((x * y / 18446744073709551616 : Nat) : Int), .int .u64 ((x * y % 18446744073709551616 : Nat) : Int)]) ∧ w' = w := Any.bits_Mul64 Tryz.lays264 x y hx hy w
def Tryz.lays105_ren : Go.Shelf.Ren := ⟨fun | 105 => 161 | 212 => 171 | 99 => 172 | 165 => 67 | 166 => 68 | 170 => 173 | 169 => 69 | 263 => 175 | 264 => 165 | 206 => 176 | 240 => 83 | 241 => 84 | 276 => 95 | 277 => 96 | n => n, fun | 9 => 9 | 3 => 3 | 4 => 4 | 20 => 20 | 0 => 0 | 46 => 212 | 109 => 221 | 5 => 5 | 72 => 119 | 76 => 123 | 51 => 210 | 146 => 227 | 53 => 62 | 148 => 214 | 70 => 117 | 37 => 59 | 75 => 122 | 127 => 143 | 164 => 155 | 80 => 80 | n => n, fun | n => n⟩
theorem Tryz.lays105 : Go.Proofs.Lays.n105 Tryz.prog Tryz.lays105_ren := {
  mixed := by kernel_rfl
  f99 := Tryz.func172.trans (congrArg some (by kernel_rfl))
  f105 := Tryz.func161.trans (congrArg some (by kernel_rfl))
  f165 := Tryz.func67.trans (congrArg some (by kernel_rfl))
  f166 := Tryz.func68.trans (congrArg some (by kernel_rfl))
  f169 := Tryz.func69.trans (congrArg some (by kernel_rfl))
  f170 := Tryz.func173.trans (congrArg some (by kernel_rfl))
  f206 := Tryz.func176.trans (congrArg some (by kernel_rfl))
  f212 := Tryz.func171.trans (congrArg some (by kernel_rfl))
  f240 := Tryz.func83.trans (congrArg some (by kernel_rfl))
  f241 := Tryz.func84.trans (congrArg some (by kernel_rfl))
  f263 := Tryz.func175.trans (congrArg some (by kernel_rfl))
  f264 := Tryz.func165.trans (congrArg some (by kernel_rfl))
  f276 := Tryz.func95.trans (congrArg some (by kernel_rfl))
  f277 := Tryz.func96.trans (congrArg some (by kernel_rfl))
  t0 := Tryz.underlying0
  a0 := Tryz.isAgg0
  z0 := Tryz.sizeOf0
  v0 := Tryz.zeroValue0
  t3 := Tryz.underlying3
  a3 := Tryz.isAgg3
  z3 := Tryz.sizeOf3
  v3 := Tryz.zeroValue3
  t4 := Tryz.underlying4
  a4 := Tryz.isAgg4
  z4 := Tryz.sizeOf4
  v4 := Tryz.zeroValue4
  t5 := Tryz.underlying5
  a5 := Tryz.isAgg5
  z5 := Tryz.sizeOf5
  v5 := Tryz.zeroValue5
  t9 := Tryz.underlying9
  a9 := Tryz.isAgg9
  z9 := Tryz.sizeOf9
  v9 := Tryz.zeroValue9
  t20 := Tryz.underlying20
  a20 := Tryz.isAgg20
  z20 := Tryz.sizeOf20
  v20 := Tryz.zeroValue20
  t37 := Tryz.underlying59
  a37 := Tryz.isAgg59
  z37 := Tryz.sizeOf59
  v37 := Tryz.zeroValue59
  t46 := Tryz.underlying212
  a46 := Tryz.isAgg212
  z46 := Tryz.sizeOf212
  v46 := Tryz.zeroValue212
  t51 := Tryz.underlying210
  a51 := Tryz.isAgg210
  z51 := Tryz.sizeOf210
  v51 := Tryz.zeroValue210
  t53 := Tryz.underlying62
  a53 := Tryz.isAgg62
  z53 := Tryz.sizeOf62
  v53 := Tryz.zeroValue62
  t70 := Tryz.underlying117
  a70 := Tryz.isAgg117
  z70 := Tryz.sizeOf117
  v70 := Tryz.zeroValue117
  t72 := Tryz.underlying119
  a72 := Tryz.isAgg119
  z72 := Tryz.sizeOf119
  v72 := Tryz.zeroValue119
  t75 := Tryz.underlying122
  a75 := Tryz.isAgg122
  z75 := Tryz.sizeOf122
  v75 := Tryz.zeroValue122
  t76 := Tryz.underlying123
  a76 := Tryz.isAgg123
  z76 := Tryz.sizeOf123
  v76 := Tryz.zeroValue123
  t109 := Tryz.underlying221
  a109 := Tryz.isAgg221
  z109 := Tryz.sizeOf221
  v109 := Tryz.zeroValue221
  t127 := Tryz.underlying143
  a127 := Tryz.isAgg143
  z127 := Tryz.sizeOf143
  v127 := Tryz.zeroValue143
  t146 := Tryz.underlying227
  a146 := Tryz.isAgg227
  z146 := Tryz.sizeOf227
  v146 := Tryz.zeroValue227
  t148 := Tryz.underlying214
  a148 := Tryz.isAgg214
  z148 := Tryz.sizeOf214
  v148 := Tryz.zeroValue214
  t164 := Tryz.underlying155
  a164 := Tryz.isAgg155
  z164 := Tryz.sizeOf155
  v164 := Tryz.zeroValue155 }
theorem Tryz.Builder_Extra_105 : Builder.Extra Tryz.prog Tryz.lays105_ren := {
  sizeBuilder := by kernel_rfl
  liesBuilder := by kernel_rfl
  t5 := Tryz.underlying5
  a5 := Tryz.isAgg5
  z5 := Tryz.sizeOf5
  v5 := Tryz.zeroValue5
  infoByte := by kernel_rfl
  cellsByte := by kernel_rfl
  sizeByte := by kernel_rfl
  neB5 := by decide }
open Go.RowKit Go.Lib in
theorem Tryz.strings_Repeat (s : ByteArray) (c : Nat) (w : World) (hc : c ≤ 9223372036854775807) (hlen : s.size * c ≤ 140737488355328) :
    Calls Tryz.prog 161 #[.string s, .int .i64 c] w fun e w' => e = .returned (.string ⟨(Lib.repeatL s.data.toList c).toArray⟩) ∧ Below w.heap.size w w' := Any.strings_Repeat Tryz.lays105 Tryz.Builder_Extra_105 s c w hc hlen
end Go.Proofs
end
section
namespace Go.Proofs.YtamplgnbbanamaaGreatDoor
open Go Go.Lg Go.Lg.Arith
variable (X:Nat→Option Obj)
theorem mul64_spec (x y p:Int) (hx:0≤x∧x<18446744073709551616) (hy:0≤y∧y<18446744073709551616) (hp:x*y=p):
    PSpec Tryz.prog X 165 [Ln .u64 x,Ln .u64 y] (.tup [Sn .u64 (p/18446744073709551616),Sn .u64 (p%18446744073709551616)]):=by
  subst hp
  obtain ⟨a,rfl⟩:=Int.eq_ofNat_of_zero_le hx.1
  obtain ⟨b,rfl⟩:=Int.eq_ofNat_of_zero_le hy.1
  refine PSpec.ofCalls (vals:=[.int .u64 a,.int .u64 b]) (v:=.tuple #[.int .u64 (a*b/18446744073709551616),.int .u64 (a*b%18446744073709551616)]) (by kernel_rfl) O O (fun w _ => ?_)
  have h:=Tryz.bits_Mul64 a b (by omega) (by omega) w
  have e1:((a*b/18446744073709551616:Nat):Int)=(a:Int)*b/18446744073709551616:=by rw [Int.natCast_ediv,Int.natCast_mul];rfl
  have e2:((a*b%18446744073709551616:Nat):Int)=(a:Int)*b%18446744073709551616:=by rw [Int.natCast_emod,Int.natCast_mul];rfl
  rw [e1,e2] at h
  exact h
theorem times_spec (M N:Int) (hM:In2 M) (hN:In2 N) (hw:M<18446744073709551616∨N<18446744073709551616) (r:Bool) (hr:decide (M*N<340282366920938463463374607431768211456)=r):
    PSpec Tryz.prog X 141 [LZ M,LZ N] (.tup [SZ (M*N%340282366920938463463374607431768211456),Sb r]):=by
  have core:∀ H L m p q P:Int,0≤H∧H<18446744073709551616→0≤L∧L<18446744073709551616→0≤m∧m<18446744073709551616→H*m=p→L*m=q→(H*18446744073709551616+L)*m=P →
      0≤p∧0≤q∧P=p*18446744073709551616+q∧q/18446744073709551616<18446744073709551616∧p/18446744073709551616<18446744073709551616:=by
    intro H L m p q P hH hL hm hp hq hP
    have b1:=mul_bound (A:=18446744073709551615) (B:=18446744073709551615) ⟨hH.1,by omega⟩ (show 0≤m∧m≤18446744073709551615 by omega)
    have b2:=mul_bound (A:=18446744073709551615) (B:=18446744073709551615) ⟨hL.1,by omega⟩ (show 0≤m∧m≤18446744073709551615 by omega)
    have:=times_low hp hq hP
    rw [hp] at b1
    rw [hq] at b2
    omega
  unfold In2 at *
  refine cF Tryz.func141 rfl (by kernel_rfl) rfl rfl ?_
  intro C
  by_cases h0:M/18446744073709551616=0
  · obtain ⟨p,hp⟩:∃ p,N/18446744073709551616*(M%18446744073709551616)=p:=⟨_,rfl⟩
    obtain ⟨q,hq⟩:∃ q,N%18446744073709551616*(M%18446744073709551616)=q:=⟨_,rfl⟩
    obtain ⟨S,hS⟩:∃ S,M*N=S:=⟨_,rfl⟩
    obtain ⟨c1,c2,c3,c4,c5⟩:=core _ _ _ p q S (by omega) (by omega) (by omega) hp hq (by
      rw [← hS,show N/18446744073709551616*18446744073709551616+N%18446744073709551616=N by omega,show M%18446744073709551616=M by omega];exact Int.mul_comm _ _)
    rw [hS] at hr ⊢
    by_cases hP:S<340282366920938463463374607431768211456
    · rw [cP hP] at hr
      subst hr
      (refine aA<|rgN<|aL O O O dR<|aL O O O dR<|aP O dR ?_;refine kas O<|aB<|aA<|aA<|rgN<|kfa O O ?_;refine kl1 O O O<|keq O O (cU (by omega))<|aB<|aE O ?_;refine rgN<|aK O O O dR ?_;refine aK O O O dR ?_;refine aM O O O O O O dR ?_;refine aM O O O O O O dR ?_;refine aB<|aA<|aA<|rgN<|kfa O O ?_;refine kl1 O O O<|kne O O ((cS (by omega)))<|aB<|aF O ?_;refine aH ?_;refine aA<|rgN<|kfa O O ?_;refine kl1 O O O<|kfa O O ?_;refine kl1 O O O<|kca O O (mul64_spec _ _ _ p (by omega) (by omega) hp)<|kmv O<|kex O O<|kex O O<|kas O<|kas O<|aB<|aA<|rgN<|kfa O O ?_;refine kl1 O O O<|kfa O O ?_;refine kl1 O O O<|kca O O (mul64_spec _ _ _ q (by omega) (by omega) hq)<|kmv O<|kex O O<|kex O O<|kas O<|kas O<|aB<|aA<|rgN<|kmv O<|kmv O<|K.callN O O (add64 (s:=S%340282366920938463463374607431768211456/18446744073709551616) (t:=0) (by omega) (by omega) (by omega)) O dR<|kmv O ?_;refine kex O O<|kex O O<|kas O<|kas O<|aB<|aA<|rgN<|kmv O<|kmv O<|aT O O (by exact O) (by exact nl2 O O O) dR ?_;refine kmv O<|keq O O (cU (by omega))<|kmv O<|gmv O O O<|bC O O (cU (by omega)) (dS O O) ?_;refine kpt O O<|aM O O O O O O dR ?_;refine kas O<|aB<|aI ?_)
      unfold SZ;rw [show S%340282366920938463463374607431768211456%18446744073709551616=q%18446744073709551616 by omega]
      exact ⟨[_,_],⟨⟨_,_,O,O,O,.inl ⟨AggT.h,O⟩⟩,O,trivial⟩,O⟩
    · rw [cO hP] at hr
      subst hr
      by_cases ho:p/18446744073709551616=0
      · (refine aA<|rgN<|aL O O O dR<|aL O O O dR<|aP O dR ?_;refine kas O<|aB<|aA<|aA<|rgN<|kfa O O ?_;refine kl1 O O O<|keq O O (cU (by omega))<|aB<|aE O ?_;refine rgN<|aK O O O dR ?_;refine aK O O O dR ?_;refine aM O O O O O O dR ?_;refine aM O O O O O O dR ?_;refine aB<|aA<|aA<|rgN<|kfa O O ?_;refine kl1 O O O<|kne O O ((cS (by omega)))<|aB<|aF O ?_;refine aH ?_;refine aA<|rgN<|kfa O O ?_;refine kl1 O O O<|kfa O O ?_;refine kl1 O O O<|kca O O (mul64_spec _ _ _ p (by omega) (by omega) hp)<|kmv O<|kex O O<|kex O O<|kas O<|kas O<|aB<|aA<|rgN<|kfa O O ?_;refine kl1 O O O<|kfa O O ?_;refine kl1 O O O<|kca O O (mul64_spec _ _ _ q (by omega) (by omega) hq)<|kmv O<|kex O O<|kex O O<|kas O<|kas O<|aB<|aA<|rgN<|kmv O<|kmv O<|K.callN O O (add64 (s:=S%340282366920938463463374607431768211456/18446744073709551616) (t:=1) (by omega) (by omega) (by omega)) O dR<|kmv O ?_;refine kex O O<|kex O O<|kas O<|kas O<|aB<|aA<|rgN<|kmv O<|kmv O<|aT O O (by exact O) (by exact nl2 O O O) dR ?_;refine kmv O<|keq O O (cU (by omega))<|kmv O<|gmv O O O<|bC O O (cR (by omega)) (dS O O) ?_;refine kpt O O<|aM O O O O O O dR ?_;refine kas O<|aB<|aI ?_)
        unfold SZ;rw [show S%340282366920938463463374607431768211456%18446744073709551616=q%18446744073709551616 by omega]
        exact ⟨[_,_],⟨⟨_,_,O,O,O,.inl ⟨AggT.h,O⟩⟩,O,trivial⟩,O⟩
      · (refine aA<|rgN<|aL O O O dR<|aL O O O dR<|aP O dR ?_;refine kas O<|aB<|aA<|aA<|rgN<|kfa O O ?_;refine kl1 O O O<|keq O O (cU (by omega))<|aB<|aE O ?_;refine rgN<|aK O O O dR ?_;refine aK O O O dR ?_;refine aM O O O O O O dR ?_;refine aM O O O O O O dR ?_;refine aB<|aA<|aA<|rgN<|kfa O O ?_;refine kl1 O O O<|kne O O ((cS (by omega)))<|aB<|aF O ?_;refine aH ?_;refine aA<|rgN<|kfa O O ?_;refine kl1 O O O<|kfa O O ?_;refine kl1 O O O<|kca O O (mul64_spec _ _ _ p (by omega) (by omega) hp)<|kmv O<|kex O O<|kex O O<|kas O<|kas O<|aB<|aA<|rgN<|kfa O O ?_;refine kl1 O O O<|kfa O O ?_;refine kl1 O O O<|kca O O (mul64_spec _ _ _ q (by omega) (by omega) hq)<|kmv O<|kex O O<|kex O O<|kas O<|kas O<|aB<|aA<|rgN<|kmv O<|kmv O<|K.callN O O (add64 (s:=S%340282366920938463463374607431768211456/18446744073709551616) (t:=(q/18446744073709551616+p%18446744073709551616)/18446744073709551616) (by omega) (by omega) (by omega)) O dR<|kmv O ?_;refine kex O O<|kex O O<|kas O<|kas O<|aB<|aA<|rgN<|kmv O<|kmv O<|aT O O (by exact O) (by exact nl2 O O O) dR ?_;refine kmv O<|keq O O (cR (by omega))<|kmv O<|aC O O O<|aC O O O<|kpf O O<|aM O O O O O O dR ?_;refine kas O<|aB<|aI ?_)
        unfold SZ;rw [show S%340282366920938463463374607431768211456%18446744073709551616=q%18446744073709551616 by omega]
        exact ⟨[_,_],⟨⟨_,_,O,O,O,.inl ⟨AggT.h,O⟩⟩,O,trivial⟩,O⟩
  · have hN0:N/18446744073709551616=0:=by omega
    obtain ⟨p,hp⟩:∃ p,M/18446744073709551616*(N%18446744073709551616)=p:=⟨_,rfl⟩
    obtain ⟨q,hq⟩:∃ q,M%18446744073709551616*(N%18446744073709551616)=q:=⟨_,rfl⟩
    obtain ⟨S,hS⟩:∃ S,M*N=S:=⟨_,rfl⟩
    obtain ⟨c1,c2,c3,c4,c5⟩:=core _ _ _ p q S (by omega) (by omega) (by omega) hp hq (by
      rw [← hS,show M/18446744073709551616*18446744073709551616+M%18446744073709551616=M by omega,show N%18446744073709551616=N by omega])
    rw [hS] at hr ⊢
    by_cases hP:S<340282366920938463463374607431768211456
    · rw [cP hP] at hr
      subst hr
      (refine aA<|rgN<|aL O O O dR<|aL O O O dR<|aP O dR ?_;refine kas O<|aB<|aA<|aA<|rgN<|kfa O O ?_;refine kl1 O O O<|keq O O (cR (by omega))<|aB<|aF O ?_;refine aH ?_;refine aA<|aA<|rgN<|kfa O O ?_;refine kl1 O O O<|kne O O ((cS (by omega)))<|aB<|aF O ?_;refine aH ?_;refine aA<|rgN<|kfa O O ?_;refine kl1 O O O<|kfa O O ?_;refine kl1 O O O<|kca O O (mul64_spec _ _ _ p (by omega) (by omega) hp)<|kmv O<|kex O O<|kex O O<|kas O<|kas O<|aB<|aA<|rgN<|kfa O O ?_;refine kl1 O O O<|kfa O O ?_;refine kl1 O O O<|kca O O (mul64_spec _ _ _ q (by omega) (by omega) hq)<|kmv O<|kex O O<|kex O O<|kas O<|kas O<|aB<|aA<|rgN<|kmv O<|kmv O<|K.callN O O (add64 (s:=S%340282366920938463463374607431768211456/18446744073709551616) (t:=0) (by omega) (by omega) (by omega)) O dR<|kmv O ?_;refine kex O O<|kex O O<|kas O<|kas O<|aB<|aA<|rgN<|kmv O<|kmv O<|aT O O (by exact O) (by exact nl2 O O O) dR ?_;refine kmv O<|keq O O (cU (by omega))<|kmv O<|gmv O O O<|bC O O (cU (by omega)) (dS O O) ?_;refine kpt O O<|aM O O O O O O dR ?_;refine kas O<|aB<|aI ?_)
      unfold SZ;rw [show S%340282366920938463463374607431768211456%18446744073709551616=q%18446744073709551616 by omega]
      exact ⟨[_,_],⟨⟨_,_,O,O,O,.inl ⟨AggT.h,O⟩⟩,O,trivial⟩,O⟩
    · rw [cO hP] at hr
      subst hr
      by_cases ho:p/18446744073709551616=0
      · (refine aA<|rgN<|aL O O O dR<|aL O O O dR<|aP O dR ?_;refine kas O<|aB<|aA<|aA<|rgN<|kfa O O ?_;refine kl1 O O O<|keq O O (cR (by omega))<|aB<|aF O ?_;refine aH ?_;refine aA<|aA<|rgN<|kfa O O ?_;refine kl1 O O O<|kne O O ((cS (by omega)))<|aB<|aF O ?_;refine aH ?_;refine aA<|rgN<|kfa O O ?_;refine kl1 O O O<|kfa O O ?_;refine kl1 O O O<|kca O O (mul64_spec _ _ _ p (by omega) (by omega) hp)<|kmv O<|kex O O<|kex O O<|kas O<|kas O<|aB<|aA<|rgN<|kfa O O ?_;refine kl1 O O O<|kfa O O ?_;refine kl1 O O O<|kca O O (mul64_spec _ _ _ q (by omega) (by omega) hq)<|kmv O<|kex O O<|kex O O<|kas O<|kas O<|aB<|aA<|rgN<|kmv O<|kmv O<|K.callN O O (add64 (s:=S%340282366920938463463374607431768211456/18446744073709551616) (t:=1) (by omega) (by omega) (by omega)) O dR<|kmv O ?_;refine kex O O<|kex O O<|kas O<|kas O<|aB<|aA<|rgN<|kmv O<|kmv O<|aT O O (by exact O) (by exact nl2 O O O) dR ?_;refine kmv O<|keq O O (cU (by omega))<|kmv O<|gmv O O O<|bC O O (cR (by omega)) (dS O O) ?_;refine kpt O O<|aM O O O O O O dR ?_;refine kas O<|aB<|aI ?_)
        unfold SZ;rw [show S%340282366920938463463374607431768211456%18446744073709551616=q%18446744073709551616 by omega]
        exact ⟨[_,_],⟨⟨_,_,O,O,O,.inl ⟨AggT.h,O⟩⟩,O,trivial⟩,O⟩
      · (refine aA<|rgN<|aL O O O dR<|aL O O O dR<|aP O dR ?_;refine kas O<|aB<|aA<|aA<|rgN<|kfa O O ?_;refine kl1 O O O<|keq O O (cR (by omega))<|aB<|aF O ?_;refine aH ?_;refine aA<|aA<|rgN<|kfa O O ?_;refine kl1 O O O<|kne O O ((cS (by omega)))<|aB<|aF O ?_;refine aH ?_;refine aA<|rgN<|kfa O O ?_;refine kl1 O O O<|kfa O O ?_;refine kl1 O O O<|kca O O (mul64_spec _ _ _ p (by omega) (by omega) hp)<|kmv O<|kex O O<|kex O O<|kas O<|kas O<|aB<|aA<|rgN<|kfa O O ?_;refine kl1 O O O<|kfa O O ?_;refine kl1 O O O<|kca O O (mul64_spec _ _ _ q (by omega) (by omega) hq)<|kmv O<|kex O O<|kex O O<|kas O<|kas O<|aB<|aA<|rgN<|kmv O<|kmv O<|K.callN O O (add64 (s:=S%340282366920938463463374607431768211456/18446744073709551616) (t:=(q/18446744073709551616+p%18446744073709551616)/18446744073709551616) (by omega) (by omega) (by omega)) O dR<|kmv O ?_;refine kex O O<|kex O O<|kas O<|kas O<|aB<|aA<|rgN<|kmv O<|kmv O<|aT O O (by exact O) (by exact nl2 O O O) dR ?_;refine kmv O<|keq O O (cR (by omega))<|kmv O<|aC O O O<|aC O O O<|kpf O O<|aM O O O O O O dR ?_;refine kas O<|aB<|aI ?_)
        unfold SZ;rw [show S%340282366920938463463374607431768211456%18446744073709551616=q%18446744073709551616 by omega]
        exact ⟨[_,_],⟨⟨_,_,O,O,O,.inl ⟨AggT.h,O⟩⟩,O,trivial⟩,O⟩
theorem times_far (M N:Int) (hM:In2 M) (hN:In2 N) (h1:18446744073709551616≤M) (h2:18446744073709551616≤N):
    PSpec Tryz.prog X 141 [LZ M,LZ N] (.tup [.agg [.val (.int .u64 0),.val (.int .u64 0)],Sb false]):=by
  unfold In2 at *
  refine cF Tryz.func141 rfl (by kernel_rfl) rfl rfl ?_
  intro C
  (refine aA<|rgN<|aL O O O dR<|aL O O O dR<|aP O dR ?_;refine kas O<|aB<|aA<|aA<|rgN<|kfa O O ?_;refine kl1 O O O<|keq O O (cR (by omega))<|aB<|aF O ?_;refine aH ?_;refine aA<|aA<|rgN<|kfa O O ?_;refine kl1 O O O<|kne O O (cT (by omega))<|aB<|aE O ?_;refine aA<|rgN<|aT O O (by exact O) (by exact nl2 O O O) dR ?_;refine aM O O O O O O dR ?_;refine kas O<|aB<|aI ?_)
  exact ⟨[_,_],⟨⟨_,_,O,O,O,.inl ⟨AggT.h,O⟩⟩,O,trivial⟩,O⟩
end Go.Proofs.YtamplgnbbanamaaGreatDoor
end
section
namespace Go.Proofs.YtamplgnbbanamaaGreatDoor
open Go Go.Lg Go.Lg.Arith
variable (X:Nat→Option Obj)
theorem Mul_arg (b c:Bool) (M N:Int) (hM:In2 M) (hN:In2 N) (hf:(formB b M&&formB c N)=false):PSpec Tryz.prog X 110 [LI b M,LI c N] (.tup [S0,Sn .i64 1]):=by
  refine cF Tryz.func110 rfl (by kernel_rfl) rfl rfl ?_
  intro C
  (refine aA<|rgN<|aL O O O dR<|aL O O O dR<|aP O dR ?_;refine kas O<|aB<|aA<|aA<|rgN<|aK O O O dR ?_;refine aK O O O dR ?_;refine kca O O (bothForm_spec _ _ _ _ _ hM hN _ hf)<|aV O O dR<|aB<|aE O ?_;refine aA<|rgN<|aT O O (by exact O) (by exact nl3 O O O O) dR ?_;refine aM O O O O O O dR ?_;refine kas O<|aB<|aI ?_)
  exact ⟨[_,_],⟨⟨_,_,O,O,O,.inl ⟨AggT.h,O⟩⟩,O,trivial⟩,O⟩
theorem zv_mul (x y:Int):zv (decide (x<0) != decide (y<0)) (mg x*mg y)=x*y:=by
  unfold zv mg
  by_cases cx:x<0<;>by_cases cy:y<0<;>simp [cx,cy,Int.neg_mul,Int.mul_neg]
theorem range_zv {b:Bool} {N:Int} (hN:0≤N):R127 (zv b N)↔N<170141183460469231731687303715884105728:=by
  unfold R127 zv
  cases b<;>simp<;>omega
theorem Mul_q (x y:Int) (hx:R127 x) (hy:R127 y):PSpec Tryz.prog X 110 [LQ x,LQ y] (addR (x*y)):=by
  have hf:=both_q hx hy
  have hB:=bothForm_spec X _ _ _ _ (mg_in2 hx) (mg_in2 hy) true hf
  have hz:=zv_mul x y
  have hp0:0≤mg x*mg y:=Int.mul_nonneg (mg_nonneg x) (mg_nonneg y)
  have hrange:=range_zv (b:=decide (x<0) != decide (y<0)) hp0
  rw [hz] at hrange
  by_cases hfar:18446744073709551616≤mg x∧18446744073709551616≤mg y
  · have hm:=Int.mul_le_mul hfar.1 hfar.2 (by decide) (by omega:(0:Int)≤mg x)
    rw [addR_out (by rw [hrange];omega)]
    refine cF Tryz.func110 rfl (by kernel_rfl) rfl rfl ?_
    intro C
    (refine aA<|rgN<|aL O O O dR<|aL O O O dR<|aP O dR ?_;refine kas O<|aB<|aA<|aA<|rgN<|aK O O O dR ?_;refine aK O O O dR ?_;refine kca O O (hB)<|aV O O dR<|aB<|aF O ?_;refine aH ?_;refine aA<|rgD mixed<|aK O O O dR ?_;refine kca O O (sizeOf_spec _ _ _ _)<|aK O O O dR ?_;refine kca O O (sizeOf_spec _ _ _ _)<|kca O O (times_far _ _ _ (mg_in2 hx) (mg_in2 hy) hfar.1 hfar.2)<|kmv O<|kex O O<|kex O O<|aP O dR ?_;refine aM O O O O O O dR ?_;refine kas O<|aB<|rgA ?_;refine aA<|aA<|rgN<|kmv O<|aV O O dR<|aB<|aE O ?_;refine aA<|rgN<|aT O O (by exact O) (by exact nl3 O O O O) dR ?_;refine aM O O O O O O dR ?_;refine kas O<|aB<|aI ?_)
    exact ⟨[_,_],⟨⟨_,_,O,O,O,.inl ⟨AggT.h,O⟩⟩,O,trivial⟩,O⟩
  · have ht:=times_spec X (mg x) (mg y) (mg_in2 hx) (mg_in2 hy) (by omega)
    by_cases hbig:mg x*mg y<340282366920938463463374607431768211456
    · have ht':=ht true (cP hbig)
      have e:mg x*mg y%340282366920938463463374607431768211456=mg x*mg y:=by omega
      rw [e] at ht'
      by_cases hfit:mg x*mg y<170141183460469231731687303715884105728
      · rw [addR_in (hrange.2 hfit),← tup_q hp0 hz]
        have hb:=bounded_ok X (decide (x<0) != decide (y<0)) (mg x*mg y) ⟨hp0,hfit⟩ _ rfl
        refine cF Tryz.func110 rfl (by kernel_rfl) rfl rfl ?_
        intro C
        (refine aA<|rgN<|aL O O O dR<|aL O O O dR<|aP O dR ?_;refine kas O<|aB<|aA<|aA<|rgN<|aK O O O dR ?_;refine aK O O O dR ?_;refine kca O O (hB)<|aV O O dR<|aB<|aF O ?_;refine aH ?_;refine aA<|rgD mixed<|aK O O O dR ?_;refine kca O O (sizeOf_spec _ _ _ _)<|aK O O O dR ?_;refine kca O O (sizeOf_spec _ _ _ _)<|kca O O (ht')<|kmv O<|kex O O<|kex O O<|aP O dR ?_;refine aM O O O O O O dR ?_;refine kas O<|aB<|rgA ?_;refine aA<|aA<|rgN<|kmv O<|aV O O dR<|aB<|aF O ?_;refine aH ?_;refine aA<|rgN<|kfa O O ?_;refine kl1 O O O<|kfa O O ?_;refine kl1 O O O<|K.neqB O O O dR<|aK O O O dR ?_;refine kca O O (hb)<|kex O O<|kex O O<|aM O O O O O O dR ?_;refine kas O<|aB<|aI ?_)
        exact ⟨[_,_],⟨⟨_,_,O,O,O,.inl ⟨AggT.h,O⟩⟩,O,trivial⟩,O⟩
      · rw [addR_out (by rw [hrange];omega)]
        have hb:=bounded_no X (decide (x<0) != decide (y<0)) (mg x*mg y) (by omega) ⟨hp0,hbig⟩
        refine cF Tryz.func110 rfl (by kernel_rfl) rfl rfl ?_
        intro C
        (refine aA<|rgN<|aL O O O dR<|aL O O O dR<|aP O dR ?_;refine kas O<|aB<|aA<|aA<|rgN<|aK O O O dR ?_;refine aK O O O dR ?_;refine kca O O (hB)<|aV O O dR<|aB<|aF O ?_;refine aH ?_;refine aA<|rgD mixed<|aK O O O dR ?_;refine kca O O (sizeOf_spec _ _ _ _)<|aK O O O dR ?_;refine kca O O (sizeOf_spec _ _ _ _)<|kca O O (ht')<|kmv O<|kex O O<|kex O O<|aP O dR ?_;refine aM O O O O O O dR ?_;refine kas O<|aB<|rgA ?_;refine aA<|aA<|rgN<|kmv O<|aV O O dR<|aB<|aF O ?_;refine aH ?_;refine aA<|rgN<|kfa O O ?_;refine kl1 O O O<|kfa O O ?_;refine kl1 O O O<|K.neqB O O O dR<|aK O O O dR ?_;refine kca O O (hb)<|kex O O<|kex O O<|aM O O O O O O dR ?_;refine kas O<|aB<|aI ?_)
        exact ⟨[_,_],⟨⟨_,_,O,O,O,.inl ⟨AggT.h,O⟩⟩,O,trivial⟩,O⟩
    · have ht':=ht false (cO hbig)
      rw [addR_out (by rw [hrange];omega)]
      refine cF Tryz.func110 rfl (by kernel_rfl) rfl rfl ?_
      intro C
      (refine aA<|rgN<|aL O O O dR<|aL O O O dR<|aP O dR ?_;refine kas O<|aB<|aA<|aA<|rgN<|aK O O O dR ?_;refine aK O O O dR ?_;refine kca O O (hB)<|aV O O dR<|aB<|aF O ?_;refine aH ?_;refine aA<|rgD mixed<|aK O O O dR ?_;refine kca O O (sizeOf_spec _ _ _ _)<|aK O O O dR ?_;refine kca O O (sizeOf_spec _ _ _ _)<|kca O O (ht')<|kmv O<|kex O O<|kex O O<|aP O dR ?_;refine aM O O O O O O dR ?_;refine kas O<|aB<|rgA ?_;refine aA<|aA<|rgN<|kmv O<|aV O O dR<|aB<|aE O ?_;refine aA<|rgN<|aT O O (by exact O) (by exact nl3 O O O O) dR ?_;refine aM O O O O O O dR ?_;refine kas O<|aB<|aI ?_)
      exact ⟨[_,_],⟨⟨_,_,O,O,O,.inl ⟨AggT.h,O⟩⟩,O,trivial⟩,O⟩
end Go.Proofs.YtamplgnbbanamaaGreatDoor
end
section
namespace Go.Proofs.YtamplgnbbanamaaGreatDoor
open Go Go.Lg Go.Lg.Arith
variable (X:Nat→Option Obj)
def lzOf (y:Int):Nat:=64-Lib.bitLen y.toNat
theorem lzOf_spec {y:Int} (hy:0<y∧y<18446744073709551616):lzOf y≤63∧9223372036854775808≤y*2^lzOf y∧y*2^lzOf y<18446744073709551616:=by
  obtain ⟨n,rfl⟩:=Int.eq_ofNat_of_zero_le (Int.le_of_lt hy.1)
  have hb:=Lib.bitLenAux_bounds 64 n (by have:=hy.2;omega) (by have:=hy.1;omega)
  have hle:Lib.bitLen n≤64:=Lib.bitLen_le n 64 (by decide) (by have:=hy.2;omega)
  change 1≤Lib.bitLen n∧2^(Lib.bitLen n-1)≤n∧n<2^Lib.bitLen n at hb
  have e:lzOf (n:Int)=64-Lib.bitLen n:=by simp [lzOf]
  rw [e]
  generalize Lib.bitLen n=k at *
  obtain ⟨h1,h2,h3⟩:=hb
  have m1:=Nat.mul_le_mul_right (2^(64-k)) h2
  have m2:=Nat.mul_lt_mul_of_pos_right h3 (Nat.two_pow_pos (64-k))
  rw [← Nat.pow_add,show k-1+(64-k)=63 by omega] at m1
  rw [← Nat.pow_add,show k+(64-k)=64 by omega] at m2
  have ec:((n:Int)*2^(64-k))=((n*2^(64-k):Nat):Int):=by rw [Int.natCast_mul,Int.natCast_pow];rfl
  rw [ec]
  exact ⟨by omega,by omega,by omega⟩
theorem lz_spec (y:Int) (hy:0≤y∧y<18446744073709551616):PSpec Tryz.prog X 169 [Ln .u64 y] (Ln .i64 (lzOf y:Nat)):=by
  refine PSpec.ofCalls (vals:=[.int .u64 y]) (v:=.int .i64 (lzOf y:Nat)) (by kernel_rfl) O O (fun w _ => ?_)
  refine (Tryz.bits_LeadingZeros64 y w hy.1 (by omega)).mono ?_
  rintro e w' ⟨rfl,rfl⟩
  refine ⟨?_,O⟩
  have hle:Lib.bitLen y.toNat≤64:=Lib.bitLen_le _ 64 (by decide) (by have:=hy.2;omega)
  have:((lzOf y:Nat):Int)=64-(Lib.bitLen y.toNat:Int):=by unfold lzOf;omega
  rw [this]
set_option maxHeartbeats 1000000 in
theorem Div64_spec (hi lo y:Int) (hh:0≤hi∧hi<y) (hl:0≤lo∧lo<18446744073709551616) (hy:y<18446744073709551616):
    PSpec Tryz.prog X 159 [Ln .u64 hi,Ln .u64 lo,Ln .u64 y] (.tup [Sn .u64 ((hi*18446744073709551616+lo)/y),Sn .u64 ((hi*18446744073709551616+lo)%y)]):=by
  have hlz:=lz_spec X y (by omega)
  obtain ⟨hs,hY1,hY2⟩:=lzOf_spec (y:=y) (by omega)
  generalize lzOf y=s at hlz hs hY1 hY2
  have hE:(0:Int)<2^s:=Int.pow_pos (by decide)
  have hF:(0:Int)<2^(64-s):=Int.pow_pos (by decide)
  have hEF:=pow_split (s:=s) (by omega)
  have hsh:=shift2 (hi:=hi) (lo:=lo) hE hF hEF hl.1
  have hsc:=scale (N:=hi*18446744073709551616+lo) (y:=y) hE (by omega)
  have hlo2:0≤lo/2^(64-s)∧lo/2^(64-s)<2^s:=by
    refine ⟨Int.ediv_nonneg hl.1 (Int.le_of_lt hF),?_⟩
    rw [Int.ediv_lt_iff_lt_mul hF,hEF];exact hl.2
  have hhi2:0≤hi∧hi*2^s<18446744073709551616:=by
    refine ⟨hh.1,?_⟩
    have:=Int.mul_le_mul_of_nonneg_right (Int.le_of_lt hh.2) (Int.le_of_lt hE)
    omega
  have hhi3:0≤hi*2^s:=Int.mul_nonneg hh.1 (Int.le_of_lt hE)
  obtain ⟨Y,hY⟩:∃ Y,y*2^s=Y:=⟨_,rfl⟩
  obtain ⟨U,hU⟩:∃ U,hi*2^s+lo/2^(64-s)=U:=⟨_,rfl⟩
  obtain ⟨V,hV⟩:∃ V,lo*2^s%18446744073709551616=V:=⟨_,rfl⟩
  have hV0:0≤V∧V<18446744073709551616:=by omega
  have hUY:U<Y:=by
    have h1:(hi*18446744073709551616+lo)*2^s<(y*18446744073709551616)*2^s:=Int.mul_lt_mul_of_pos_right (by omega) hE
    rw [Int.mul_right_comm] at h1
    rw [hY] at h1
    rw [hsh,hU,hV] at h1
    omega
  have hU0:0≤U:=by omega
  rw [hsh,hU,hV,hY] at hsc
  rw [hY] at hY1 hY2
  have ka1:KArg (Y/4294967296) (Y%4294967296) U (V/4294967296):=⟨by omega,by omega,by omega,by omega⟩
  have eY:Y/4294967296*4294967296+Y%4294967296=Y:=by omega
  have ks1:=k_start ka1
  have kq1:∀ q r,KInv (Y/4294967296) (Y%4294967296) U (V/4294967296) q r→q*Y≤U*4294967296+V/4294967296→q=(U*4294967296+V/4294967296)/Y∧U*4294967296+V/4294967296-q*Y=(U*4294967296+V/4294967296)%Y:=by
    intro q r k he
    have:=k_quo ka1 k (by rw [eY];exact he)
    rw [eY] at this
    exact this
  refine cF Tryz.func159 rfl (by kernel_rfl) rfl rfl ?_
  intro C
  by_cases hz:hi=0
  · subst hz
    (refine aA<|rgN<|kas O<|kas O<|aB<|aA<|aA<|rgN<|kmv O<|keq O O (cR (by omega))<|aB<|aF O ?_;refine aH ?_;refine aA<|aA<|rgN<|kmv O<|kmv O<|K.leq O O (cO (by omega)) dR<|aB<|aF O ?_;refine aH ?_;refine aA<|aA<|rgN<|kmv O<|keq O O (cU (by omega))<|aB<|aE O ?_;refine aA<|rgD mixed<|kmv O<|kmv O<|K.quo O O (by omega) (quo_u64 (by omega) (by omega)) dR<|kmv O<|kmv O<|K.rem O O (by omega) (rem_pos (by omega)) dR<|kas O<|kas O<|aB<|rgA ?_;refine aI ?_)
    exact ⟨[_,_],⟨rfl,rfl,trivial⟩,by simp [resOf]⟩
  · have hm1:0≤U/(Y/4294967296)*(Y/4294967296)∧U/(Y/4294967296)*(Y/4294967296)≤U:=by have:=ks1.r0;have:=ks1.eq;exact ⟨Int.mul_nonneg ks1.q0 (by omega),by omega⟩
    (refine aA<|rgN<|kas O<|kas O<|aB<|aA<|aA<|rgN<|kmv O<|keq O O (cR (by omega))<|aB<|aF O ?_;refine aH ?_;refine aA<|aA<|rgN<|kmv O<|kmv O<|K.leq O O (cO (by omega)) dR<|aB<|aF O ?_;refine aH ?_;refine aA<|aA<|rgN<|kmv O<|keq O O (cR (by omega))<|aB<|aF O ?_;refine aH ?_;refine aA<|rgN<|kmv O<|kca O O (hlz)<|kcv O (by exact wrap_u64 (by omega)) ?_;refine kas O<|aB<|aA<|rgN<|kmv O<|kmv O<|K.shl O O (by omega) (shl_s (by omega) hY (by omega)) dR<|kas O<|aB<|aA<|rgN<|kmv O<|bO O O (by omega) (shr_32 _) dR<|kas O ?_;refine aB<|aA<|rgN<|kmv O<|K.bitop (by simp) O O (and_32 (by omega)) dR<|kas O<|aB<|aA<|rgN<|kmv O<|kmv O<|K.shl O O (by omega) (shl_s (by omega) O ⟨hhi3,hhi2.2⟩) dR<|kmv O<|kmv O ?_;refine bA O O (wrap_u64 (by omega)) dR<|bO O O (by omega) (shr_64s (by omega)) dR<|K.bitop (by simp) O O (or_apart' (by omega) hhi2 hlo2 hU) dR<|kas O<|aB<|aA<|rgN<|kmv O<|kmv O<|K.shl O O (by omega) ((shl_mod (by omega)).trans hV) dR<|kas O<|aB<|aA<|rgN ?_;refine kmv O<|bO O O (by omega) (shr_32 _) dR<|kas O<|aB<|aA<|rgN<|kmv O<|K.bitop (by simp) O O (and_32 (by omega)) dR<|kas O<|aB<|aA<|rgN<|kmv O<|kmv O ?_;refine K.quo O O (by omega) (quo_u64 (by omega) (by omega)) dR<|kas O<|aB<|aA<|rgN<|kmv O<|kmv O<|kmv O<|bL O O (wrap_u64 (by omega)) dR<|bA O O (wrap_u64 (by omega)) dR<|kas O<|aB<|aA<|aG ?_)
    have hy1:U-U/(Y/4294967296)*(Y/4294967296)<Y/4294967296:=by
      have h2:=Int.emod_add_mul_ediv U (Y/4294967296)
      have h3:=Int.emod_lt_of_pos U (show 0<Y/4294967296 by omega)
      rw [Int.mul_comm] at h2
      omega
    refine LWP.meet (fun σ=>∃ q r:Int,q=(U*4294967296+V/4294967296)/Y∧σ=⟨[(2,Ln .u64 Y),(8,Ln .u64 s),(9,Ln .u64 (Y/4294967296)),(10,Ln .u64 (Y%4294967296)),(11,Ln .u64 U),(13,Ln .u64 (V/4294967296)),(14,Ln .u64 (V%4294967296)),(15,Ln .u64 q),(16,Ln .u64 r)],[],X⟩) ?_ ?_
    · refine cL (fun m σ=>∃ q r:Int,KInv (Y/4294967296) (Y%4294967296) U (V/4294967296) q r∧r<4294967296∧m=q.toNat∧σ=⟨[(2,Ln .u64 Y),(8,Ln .u64 s),(9,Ln .u64 (Y/4294967296)),(10,Ln .u64 (Y%4294967296)),(11,Ln .u64 U),(13,Ln .u64 (V/4294967296)),(14,Ln .u64 (V%4294967296)),(15,Ln .u64 q),(16,Ln .u64 r)],[],X⟩) (U/(Y/4294967296)).toNat
        ⟨_,Le.of (by exact ⟨rfl,rfl,rfl,rfl,rfl,rfl,rfl,rfl,rfl,trivial⟩) (by exact trivial) (by exact rfl) (by exact rfl) (by exact rfl),_,_,ks1,by omega,rfl,rfl⟩ ?_
      rintro m σ ⟨q,r,k,hr,rfl,rfl⟩
      have hq0:=k.q0
      have hr0:=k.r0
      have hqU:q≤U:=by
        have:=k.eq
        have:=Int.mul_le_mul_of_nonneg_left (show (1:Int)≤Y/4294967296 by omega) hq0
        omega
      have next:∀ q' r',KInv (Y/4294967296) (Y%4294967296) U (V/4294967296) q' r'→4294967296≤r'→q'=(U*4294967296+V/4294967296)/Y:=fun q' r' k' h'=>(kq1 q' r' k' (by have:=k_break ka1 k' h';rwa [eY] at this)).1
      by_cases hq:4294967296≤q
      · have k':=k_big ka1 k hq
        have hrn:=next _ _ k'
        by_cases hr2:4294967296≤r+Y/4294967296
        · (refine aA<|aA<|rgN<|kmv O<|bD O O (cP (by omega)) dR<|kmv O<|aC O O O<|aC O O O<|aC O O O<|aC O O O<|aC O O O<|aC O O O<|aC O O O<|aC O O O ?_;refine kpt O O<|aB<|aE O ?_;refine aH ?_;refine aG<|aA<|rgN<|kmv O<|bA O O (wrap_u64 (by omega)) dR<|kas O<|aB<|aA<|rgN<|kmv O<|kmv O<|kad O O (wrap_u64 (by omega))<|kas O<|aB ?_;refine aA<|rgN<|kmv O<|bD O O (cP (by omega)) dR<|aB<|aE O ?_;refine aJ ?_)
          exact ⟨_,Le.of (by exact ⟨O,O,O,O,O,O,O,O,O,trivial⟩) (by exact trivial) (by exact O) (by exact O) (by exact O),_,_,hrn hr2,O⟩
        · (refine aA<|aA<|rgN<|kmv O<|bD O O (cP (by omega)) dR<|kmv O<|aC O O O<|aC O O O<|aC O O O<|aC O O O<|aC O O O<|aC O O O<|aC O O O<|aC O O O ?_;refine kpt O O<|aB<|aE O ?_;refine aH ?_;refine aG<|aA<|rgN<|kmv O<|bA O O (wrap_u64 (by omega)) dR<|kas O<|aB<|aA<|rgN<|kmv O<|kmv O<|kad O O (wrap_u64 (by omega))<|kas O<|aB ?_;refine aA<|rgN<|kmv O<|bD O O (cO (by omega)) dR<|aB<|aF O ?_;refine aH ?_)
          exact ⟨_,_,by omega,Le.of (by exact ⟨O,O,O,O,O,O,O,O,O,trivial⟩) (by exact trivial) (by exact O) (by exact O) (by exact O),_,_,k',by omega,O,O⟩
      · have hqy:=mul_bound (a:=q) (b:=Y%4294967296) (A:=4294967295) (B:=4294967295) ⟨hq0,by omega⟩ ⟨by omega,by omega⟩
        by_cases hb:4294967296*r+V/4294967296<q*(Y%4294967296)
        · have k':=k_high ka1 k hb
          have hrn:=next _ _ k'
          have hq1:1≤q:=by have:=k'.q0;omega
          by_cases hr2:4294967296≤r+Y/4294967296
          · (refine aA<|aA<|rgN<|kmv O<|bD O O (cO (by omega)) dR<|kmv O<|gmv O O O<|gmv O O O<|bL O O (wrap_u64 (by omega)) (dS O O) ?_;refine gmv O O O<|bL O O (wrap_u64 (by omega)) (dS O O) ?_;refine gmv O O O<|K.add O O (wrap_u64 (by omega)) (dS O O) ?_;refine aS O O (cP (by omega)) (dS O O) ?_;refine kpf O O<|aB<|aE O ?_;refine aH ?_;refine aG<|aA<|rgN<|kmv O<|bA O O (wrap_u64 (by omega)) dR<|kas O<|aB<|aA<|rgN<|kmv O<|kmv O<|kad O O (wrap_u64 (by omega))<|kas O<|aB ?_;refine aA<|rgN<|kmv O<|bD O O (cP (by omega)) dR<|aB<|aE O ?_;refine aJ ?_)
            exact ⟨_,Le.of (by exact ⟨O,O,O,O,O,O,O,O,O,trivial⟩) (by exact trivial) (by exact O) (by exact O) (by exact O),_,_,hrn hr2,O⟩
          · (refine aA<|aA<|rgN<|kmv O<|bD O O (cO (by omega)) dR<|kmv O<|gmv O O O<|gmv O O O<|bL O O (wrap_u64 (by omega)) (dS O O) ?_;refine gmv O O O<|bL O O (wrap_u64 (by omega)) (dS O O) ?_;refine gmv O O O<|K.add O O (wrap_u64 (by omega)) (dS O O) ?_;refine aS O O (cP (by omega)) (dS O O) ?_;refine kpf O O<|aB<|aE O ?_;refine aH ?_;refine aG<|aA<|rgN<|kmv O<|bA O O (wrap_u64 (by omega)) dR<|kas O<|aB<|aA<|rgN<|kmv O<|kmv O<|kad O O (wrap_u64 (by omega))<|kas O<|aB ?_;refine aA<|rgN<|kmv O<|bD O O (cO (by omega)) dR<|aB<|aF O ?_;refine aH ?_)
            exact ⟨_,_,by omega,Le.of (by exact ⟨O,O,O,O,O,O,O,O,O,trivial⟩) (by exact trivial) (by exact O) (by exact O) (by exact O),_,_,k',by omega,O,O⟩
        · (refine aA<|aA<|rgN<|kmv O<|bD O O (cO (by omega)) dR<|kmv O<|gmv O O O<|gmv O O O<|bL O O (wrap_u64 (by omega)) (dS O O) ?_;refine gmv O O O<|bL O O (wrap_u64 (by omega)) (dS O O) ?_;refine gmv O O O<|K.add O O (wrap_u64 (by omega)) (dS O O) ?_;refine aS O O (cO (by omega)) (dS O O) ?_;refine kpf O O<|aB<|aF O ?_;refine aJ ?_)
          exact ⟨_,Le.of (by exact ⟨O,O,O,O,O,O,O,O,O,trivial⟩) (by exact trivial) (by exact O) (by exact O) (by exact O),_,_,(kq1 q r k (by have:=k_end k (by omega);rwa [eY] at this)).1,O⟩
    · rintro σ ⟨q1,r1,hq1,rfl⟩
      have hYp:0<Y:=by omega
      have hq1B:=digit_lt hYp hUY (show V/4294967296<4294967296 by omega) hq1
      obtain ⟨R,hR⟩:∃ R,(U*4294967296+V/4294967296)%Y=R:=⟨_,rfl⟩
      have hR0:=Int.emod_nonneg (U*4294967296+V/4294967296) (show Y≠0 by omega)
      have hR1:=Int.emod_lt_of_pos (U*4294967296+V/4294967296) hYp
      have hRe:=Int.emod_add_mul_ediv (U*4294967296+V/4294967296) Y
      rw [← hq1,Int.mul_comm Y q1] at hRe
      rw [hR] at hR0 hR1 hRe
      have hq10:0≤q1:=by rw [hq1];exact Int.ediv_nonneg (by omega) (by omega)
      have hsub1:IntKind.u64.wrap (IntKind.u64.wrap (IntKind.u64.wrap (U*4294967296)+V/4294967296)-IntKind.u64.wrap (q1*Y))=R:=by rw [wrap3 (by omega)];omega
      have ka2:KArg (Y/4294967296) (Y%4294967296) R (V%4294967296):=⟨by omega,by omega,by omega,by omega⟩
      have ks2:=k_start ka2
      have kq2:∀ q r,KInv (Y/4294967296) (Y%4294967296) R (V%4294967296) q r→q*Y≤R*4294967296+V%4294967296→q=(R*4294967296+V%4294967296)/Y∧R*4294967296+V%4294967296-q*Y=(R*4294967296+V%4294967296)%Y:=by
        intro q r k he
        have:=k_quo ka2 k (by rw [eY];exact he)
        rw [eY] at this
        exact this
      have hm2:0≤R/(Y/4294967296)*(Y/4294967296)∧R/(Y/4294967296)*(Y/4294967296)≤R:=by have:=ks2.r0;have:=ks2.eq;exact ⟨Int.mul_nonneg ks2.q0 (by omega),by omega⟩
      have hy2:R-R/(Y/4294967296)*(Y/4294967296)<Y/4294967296:=by
        have h2:=Int.emod_add_mul_ediv R (Y/4294967296)
        have h3:=Int.emod_lt_of_pos R (show 0<Y/4294967296 by omega)
        rw [Int.mul_comm] at h2
        omega
      (refine aA<|rgN<|kmv O<|bL O O O dR<|kmv O<|kad O O O<|kmv O<|kmv O<|bL O O O dR<|bA O O hsub1 dR<|kas O<|aB<|aA<|rgN ?_;refine kmv O<|kmv O<|K.quo O O (by omega) (quo_u64 (by omega) (by omega)) dR<|kas O<|aB<|aA<|rgN<|kmv O<|kmv O<|kmv O<|bL O O (wrap_u64 (by omega)) dR<|bA O O (wrap_u64 (by omega)) dR<|kas O<|aB ?_;refine aA<|aG ?_)
      refine LWP.meet (fun σ=>∃ q r:Int,q=(R*4294967296+V%4294967296)/Y∧σ=⟨[(2,Ln .u64 Y),(8,Ln .u64 s),(14,Ln .u64 (V%4294967296)),(15,Ln .u64 q1),(17,Ln .u64 R),(18,Ln .u64 q),(16,Ln .u64 r)],[],X⟩) ?_ ?_
      · refine cL (fun m σ=>∃ q r:Int,KInv (Y/4294967296) (Y%4294967296) R (V%4294967296) q r∧r<4294967296∧m=q.toNat∧σ=⟨[(2,Ln .u64 Y),(8,Ln .u64 s),(9,Ln .u64 (Y/4294967296)),(10,Ln .u64 (Y%4294967296)),(14,Ln .u64 (V%4294967296)),(15,Ln .u64 q1),(17,Ln .u64 R),(18,Ln .u64 q),(16,Ln .u64 r)],[],X⟩) (R/(Y/4294967296)).toNat
          ⟨_,Le.of (by exact ⟨rfl,rfl,rfl,rfl,rfl,rfl,rfl,rfl,rfl,trivial⟩) (by exact trivial) (by exact rfl) (by exact rfl) (by exact rfl),_,_,ks2,by omega,rfl,rfl⟩ ?_
        rintro m σ ⟨q,r,k,hr,rfl,rfl⟩
        have hq0:=k.q0
        have hr0:=k.r0
        have hqU:q≤R:=by
          have:=k.eq
          have:=Int.mul_le_mul_of_nonneg_left (show (1:Int)≤Y/4294967296 by omega) hq0
          omega
        have next:∀ q' r',KInv (Y/4294967296) (Y%4294967296) R (V%4294967296) q' r'→4294967296≤r'→q'=(R*4294967296+V%4294967296)/Y:=fun q' r' k' h'=>(kq2 q' r' k' (by have:=k_break ka2 k' h';rwa [eY] at this)).1
        by_cases hq:4294967296≤q
        · have k':=k_big ka2 k hq
          have hrn:=next _ _ k'
          by_cases hr2:4294967296≤r+Y/4294967296
          · (refine aA<|aA<|rgN<|kmv O<|bD O O (cP (by omega)) dR<|kmv O<|aC O O O<|aC O O O<|aC O O O<|aC O O O<|aC O O O<|aC O O O<|aC O O O<|aC O O O ?_;refine kpt O O<|aB<|aE O ?_;refine aH ?_;refine aG<|aA<|rgN<|kmv O<|bA O O (wrap_u64 (by omega)) dR<|kas O<|aB<|aA<|rgN<|kmv O<|kmv O<|kad O O (wrap_u64 (by omega))<|kas O<|aB ?_;refine aA<|rgN<|kmv O<|bD O O (cP (by omega)) dR<|aB<|aE O ?_;refine aJ ?_)
            exact ⟨_,Le.of (by exact ⟨O,O,O,O,O,O,O,trivial⟩) (by exact trivial) (by exact O) (by exact O) (by exact O),_,_,hrn hr2,O⟩
          · (refine aA<|aA<|rgN<|kmv O<|bD O O (cP (by omega)) dR<|kmv O<|aC O O O<|aC O O O<|aC O O O<|aC O O O<|aC O O O<|aC O O O<|aC O O O<|aC O O O ?_;refine kpt O O<|aB<|aE O ?_;refine aH ?_;refine aG<|aA<|rgN<|kmv O<|bA O O (wrap_u64 (by omega)) dR<|kas O<|aB<|aA<|rgN<|kmv O<|kmv O<|kad O O (wrap_u64 (by omega))<|kas O<|aB ?_;refine aA<|rgN<|kmv O<|bD O O (cO (by omega)) dR<|aB<|aF O ?_;refine aH ?_)
            exact ⟨_,_,by omega,Le.of (by exact ⟨O,O,O,O,O,O,O,O,O,trivial⟩) (by exact trivial) (by exact O) (by exact O) (by exact O),_,_,k',by omega,O,O⟩
        · have hqy:=mul_bound (a:=q) (b:=Y%4294967296) (A:=4294967295) (B:=4294967295) ⟨hq0,by omega⟩ ⟨by omega,by omega⟩
          by_cases hb:4294967296*r+V%4294967296<q*(Y%4294967296)
          · have k':=k_high ka2 k hb
            have hrn:=next _ _ k'
            have hq1:1≤q:=by have:=k'.q0;omega
            by_cases hr2:4294967296≤r+Y/4294967296
            · (refine aA<|aA<|rgN<|kmv O<|bD O O (cO (by omega)) dR<|kmv O<|gmv O O O<|gmv O O O<|bL O O (wrap_u64 (by omega)) (dS O O) ?_;refine gmv O O O<|bL O O (wrap_u64 (by omega)) (dS O O) ?_;refine gmv O O O<|K.add O O (wrap_u64 (by omega)) (dS O O) ?_;refine aS O O (cP (by omega)) (dS O O) ?_;refine kpf O O<|aB<|aE O ?_;refine aH ?_;refine aG<|aA<|rgN<|kmv O<|bA O O (wrap_u64 (by omega)) dR<|kas O<|aB<|aA<|rgN<|kmv O<|kmv O<|kad O O (wrap_u64 (by omega))<|kas O<|aB ?_;refine aA<|rgN<|kmv O<|bD O O (cP (by omega)) dR<|aB<|aE O ?_;refine aJ ?_)
              exact ⟨_,Le.of (by exact ⟨O,O,O,O,O,O,O,trivial⟩) (by exact trivial) (by exact O) (by exact O) (by exact O),_,_,hrn hr2,O⟩
            · (refine aA<|aA<|rgN<|kmv O<|bD O O (cO (by omega)) dR<|kmv O<|gmv O O O<|gmv O O O<|bL O O (wrap_u64 (by omega)) (dS O O) ?_;refine gmv O O O<|bL O O (wrap_u64 (by omega)) (dS O O) ?_;refine gmv O O O<|K.add O O (wrap_u64 (by omega)) (dS O O) ?_;refine aS O O (cP (by omega)) (dS O O) ?_;refine kpf O O<|aB<|aE O ?_;refine aH ?_;refine aG<|aA<|rgN<|kmv O<|bA O O (wrap_u64 (by omega)) dR<|kas O<|aB<|aA<|rgN<|kmv O<|kmv O<|kad O O (wrap_u64 (by omega))<|kas O<|aB ?_;refine aA<|rgN<|kmv O<|bD O O (cO (by omega)) dR<|aB<|aF O ?_;refine aH ?_)
              exact ⟨_,_,by omega,Le.of (by exact ⟨O,O,O,O,O,O,O,O,O,trivial⟩) (by exact trivial) (by exact O) (by exact O) (by exact O),_,_,k',by omega,O,O⟩
          · (refine aA<|aA<|rgN<|kmv O<|bD O O (cO (by omega)) dR<|kmv O<|gmv O O O<|gmv O O O<|bL O O (wrap_u64 (by omega)) (dS O O) ?_;refine gmv O O O<|bL O O (wrap_u64 (by omega)) (dS O O) ?_;refine gmv O O O<|K.add O O (wrap_u64 (by omega)) (dS O O) ?_;refine aS O O (cO (by omega)) (dS O O) ?_;refine kpf O O<|aB<|aF O ?_;refine aJ ?_)
            exact ⟨_,Le.of (by exact ⟨O,O,O,O,O,O,O,trivial⟩) (by exact trivial) (by exact O) (by exact O) (by exact O),_,_,(kq2 q r k (by have:=k_end k (by omega);rwa [eY] at this)).1,O⟩
      · rintro σ ⟨q2,r2,hq2,rfl⟩
        have hend:=quo_end hYp hq1 hR.symm hq2
        have hq2B:=digit_lt hYp hR1 (show V%4294967296<4294967296 by omega) hq2
        have hq20:0≤q2:=by rw [hq2];exact Int.ediv_nonneg (by omega) (by omega)
        obtain ⟨T,hT⟩:∃ T,(R*4294967296+V%4294967296)%Y=T:=⟨_,rfl⟩
        have hT0:=Int.emod_nonneg (R*4294967296+V%4294967296) (show Y≠0 by omega)
        have hT1:=Int.emod_lt_of_pos (R*4294967296+V%4294967296) hYp
        have hTe:=Int.emod_add_mul_ediv (R*4294967296+V%4294967296) Y
        rw [← hq2,Int.mul_comm Y q2] at hTe
        rw [hT] at hT0 hT1 hTe hend
        have hsub2:IntKind.u64.wrap (IntKind.u64.wrap (IntKind.u64.wrap (R*4294967296)+V%4294967296)-IntKind.u64.wrap (q2*Y))=T:=by rw [wrap3 (by omega)];omega
        (refine aA<|rgN<|kmv O<|bL O O (wrap_u64 (by omega)) dR<|kmv O<|kad O O (wrap_u64 (by omega))<|kmv O<|bL O O O dR<|kmv O<|kad O O O<|kmv O<|kmv O<|bL O O O dR<|bA O O hsub2 dR ?_;refine kmv O<|bO O O (by omega) (shr_s (by omega)) dR<|kas O<|kas O<|aB<|aI ?_)
        rw [← hsc.1,← hsc.2,← hend.1,← hend.2]
        exact ⟨[_,_],⟨O,O,trivial⟩,O⟩
end Go.Proofs.YtamplgnbbanamaaGreatDoor
end
section
namespace Go.Proofs.YtamplgnbbanamaaGreatDoor
open Go Go.Lg Go.Lg.Arith
variable (X:Nat→Option Obj)
theorem LZ_word {g:Int} (h:0≤g∧g<18446744073709551616):LZ g=Lz 0 g:=by
  unfold LZ
  rw [show g/18446744073709551616=0 by omega,show g%18446744073709551616=g by omega]
set_option maxHeartbeats 1000000 in
theorem divideLong_spec (M N:Int) (hM:Lim M) (hN:18446744073709551616≤N∧N<170141183460469231731687303715884105728):
    PSpec Tryz.prog X 166 [LZ M,LZ N] (.tup [SZ (M/N),SZ (M%N)]):=by
  obtain ⟨hM0,hM1⟩:=hM
  obtain ⟨H,hH⟩:∃ H,N/18446744073709551616=H:=⟨_,rfl⟩
  obtain ⟨l,hl⟩:∃ l,N%18446744073709551616=l:=⟨_,rfl⟩
  have hH1:0<H∧H<9223372036854775808:=by omega
  have hl1:0≤l∧l<18446744073709551616:=by omega
  have hlz:=lz_spec X H (by omega)
  obtain ⟨hs,hY1,hY2⟩:=lzOf_spec (y:=H) (by omega)
  generalize lzOf H=s at hlz hs hY1 hY2
  have hs1:1≤s:=by
    rcases Nat.eq_zero_or_pos s with h|h
    · subst h;simp at hY1;omega
    · exact h
  have hE:(0:Int)<2^s:=Int.pow_pos (by decide)
  have hF:(0:Int)<2^(64-s):=Int.pow_pos (by decide)
  have hEF:=pow_split (s:=s) (by omega)
  have hF2:(2:Int)≤2^(64-s):=by
    rw [show 64-s=(63-s)+1 by omega,Int.pow_succ]
    have:(0:Int)<2^(63-s):=Int.pow_pos (by decide)
    omega
  have hlo2:0≤l/2^(64-s)∧l/2^(64-s)<2^s:=by
    refine ⟨Int.ediv_nonneg hl1.1 (Int.le_of_lt hF),?_⟩
    rw [Int.ediv_lt_iff_lt_mul hF,hEF];exact hl1.2
  have hH2:0≤H*2^s:=Int.mul_nonneg (by omega) (Int.le_of_lt hE)
  obtain ⟨L,hL⟩:∃ L,H*2^s+l/2^(64-s)=L:=⟨_,rfl⟩
  have hLW:L<18446744073709551616:=by
    have h1:H<2^(64-s):=by
      rcases Int.lt_or_le H (2^(64-s)) with h|h
      · exact h
      · have:=Int.mul_le_mul_of_nonneg_right h (Int.le_of_lt hE)
        rw [Int.mul_comm ((2:Int)^(64-s)),hEF] at this
        omega
    have h2:=Int.mul_le_mul_of_nonneg_right (show H≤2^(64-s)-1 by omega) (Int.le_of_lt hE)
    rw [Int.sub_mul,Int.one_mul,Int.mul_comm ((2:Int)^(64-s)),hEF] at h2
    omega
  have hNL:∃ r0,N=L*2^(64-s)+r0∧0≤r0∧r0<2^(64-s):=by
    have h1:=Int.emod_add_mul_ediv l (2^(64-s))
    have h2:=Int.emod_nonneg l (show (2:Int)^(64-s)≠0 by omega)
    have h3:=Int.emod_lt_of_pos l hF
    refine ⟨l%2^(64-s),?_,h2,h3⟩
    have h4:H*2^s*2^(64-s)=H*18446744073709551616:=by rw [Int.mul_assoc,hEF]
    rw [← hL,Int.add_mul,h4,Int.mul_comm (l/2^(64-s))]
    omega
  obtain ⟨r0,hNL,hr0⟩:=hNL
  obtain ⟨g,hg⟩:∃ g,M/(L*2^(64-s))=g:=⟨_,rfl⟩
  obtain ⟨hg0,hgz,hgp⟩:=long_guess (M:=M) (N:=N) ⟨hM0,hM1⟩ (show 9223372036854775808≤L by omega) hF2 hNL hr0 hg.symm
  have hd3:=div3 (M:=M) (L:=L) (P:=2^(64-s)) (s:=s) hs rfl (by omega)
  rw [hg] at hd3
  have hNne:0<N:=by omega
  have hq0:=Int.emod_nonneg M (show N≠0 by omega)
  have hq1:=Int.emod_lt_of_pos M hNne
  have hq2:=Int.emod_add_mul_ediv M N
  have hqq:0≤M/N:=Int.ediv_nonneg hM0 (by omega)
  have hqW:M/N<18446744073709551616:=by
    rw [Int.ediv_lt_iff_lt_mul hNne];omega
  have hgW:g<18446744073709551617:=by
    rcases Int.lt_or_le g 18446744073709551617 with h|h
    · exact h
    · have h1:=(hgp (by omega)).1
      have:=Int.mul_le_mul (show (18446744073709551616:Int)≤g-1 by omega) hN.1 (by decide) (by omega)
      omega
  have hLZl:LZ N=Lz H l:=by unfold LZ;rw [hH,hl]
  have hor2:M/18446744073709551616%2*2^63+M%18446744073709551616/2=M/2%18446744073709551616:=by
    show M/18446744073709551616%2*9223372036854775808+M%18446744073709551616/2=_
    omega
  have hdiv:=Div64_spec X (M/18446744073709551616/2) (M/2%18446744073709551616) L (by omega) (by omega) hLW
  rw [show M/18446744073709551616/2*18446744073709551616+M/2%18446744073709551616=M/2 by omega] at hdiv
  have hMz:0≤M/2/L:=Int.ediv_nonneg (by omega) (by omega)
  have hcall:=compare_spec X
  rw [hLZl]
  refine cF Tryz.func166 rfl (by kernel_rfl) rfl rfl ?_
  intro C
  by_cases hg00:g=0
  · have hMN:=hgz hg00
    subst hg00
    have e1:M/N=0:=Int.ediv_eq_zero_of_lt hM0 hMN
    have e2:M%N=M:=Int.emod_eq_of_lt hM0 hMN
    rw [e1,e2]
    have ht:=times_spec X N 0 ⟨by omega,by omega⟩ ⟨by omega,by omega⟩ (by omega) true (by simp)
    rw [LZ_word (g:=0) (by omega),Int.mul_zero,hLZl] at ht
    have hmi:=minus_spec X M 0 ⟨by omega,by omega⟩ ⟨by omega,by omega⟩ hM0
    rw [Int.sub_zero] at hmi
    have hcm:=compare_spec X M N (-1) (by simp [cmpI,hMN])
    rw [hLZl] at hcm
    ((refine aA<|rgN<|aL O O O dR<|aL O O O dR<|aP O dR ?_;refine aP O dR ?_;refine aB<|aA<|rgN<|kfa O O ?_;refine kl1 O O O<|kca O O (hlz)<|kcv O (by exact wrap_u64 (by omega)) ?_;refine kas O<|aB<|aA<|rgN<|kfa O O ?_;refine kl1 O O O<|kmv O<|K.shl O O (by omega) (shl_s (by omega) O ⟨hH2,hY2⟩) dR<|kfa O O ?_;refine kl1 O O O<|kmv O<|bA O O (wrap_u64 (by omega)) dR<|bO O O (by omega) (shr_64s (by omega)) dR<|K.bitop (by simp) O O (or_apart' (by omega) ⟨by omega,hY2⟩ hlo2 hL) dR<|kas O<|aB<|aA<|rgN<|kfa O O ?_;refine kl1 O O O<|bO O O (by omega) (shr_1 _) dR<|kfa O O ?_;refine kl1 O O O<|K.shl O O (by omega) (shl_63 _) dR<|kfa O O ?_;refine kl1 O O O<|bO O O (by omega) (shr_1 _) dR<|K.bitop (by simp) O O (or_apart' (by decide) (by omega) (by omega) hor2) dR<|kmv O<|kca O O (hdiv)<|kmv O<|kex O O<|kex O O<|kas O<|kas O<|aB<|aA<|rgN<|kmv O ?_;refine kmv O<|bA O O (wrap_u64 (by omega)) dR<|bO O O (by omega) ((shr_63s hs).trans hd3) dR<|kas O<|aB<|aA<|aA<|rgN<|kmv O<|kne O O ((cS (by omega)))<|aB<|aF O ?_;refine aH ?_);(refine aA<|rgN<|aK O O O dR ?_;refine kmv O<|aT O O (by exact O) (by exact nl2 O O O) dR ?_;refine kca O O (ht)<|kmv O<|kex O O<|kex O O<|aP O dR ?_;refine aM O O O O O O dR ?_;refine kas O<|aB<|aA<|rgN<|aK O O O dR ?_;refine aK O O O dR ?_;refine kca O O (hmi)<|aP O dR ?_;refine aM O O O O O O dR ?_;refine aB<|aA<|aA<|rgN<|aK O O O dR ?_;refine aK O O O dR ?_;refine kca O O (hcm)<|bD O O (cO (by omega)) dR<|aB<|aF O ?_;refine aH ?_);(refine aA<|rgD mixed<|kmv O<|aT O O (by exact O) (by exact nl2 O O O) dR ?_;refine aK O O O dR ?_;refine aM O O O O O O dR ?_;refine aM O O O O O O dR ?_;refine aB<|rgA ?_;refine aI ?_))
    exact ⟨[_,_],⟨⟨_,_,O,O,O,.inl ⟨AggT.h,O⟩⟩,⟨_,_,O,O,O,.inl ⟨AggT.h,O⟩⟩,trivial⟩,O⟩
  · obtain ⟨h1,h2⟩:=hgp hg00
    obtain ⟨G,hG⟩:∃ G,g-1=G:=⟨_,rfl⟩
    rw [hG] at h1 h2
    have hGN:0≤G*N:=Int.mul_nonneg (by omega) (by omega)
    have ht:=times_spec X N G ⟨by omega,by omega⟩ ⟨by omega,by omega⟩ (by omega) true (cP (by rw [Int.mul_comm];omega))
    rw [LZ_word (g:=G) (by omega),Int.mul_comm N G,show G*N%340282366920938463463374607431768211456=G*N by omega,hLZl] at ht
    have hmi:=minus_spec X M (G*N) ⟨by omega,by omega⟩ ⟨by omega,by omega⟩ h1
    have huse:∀ q:Int,q*N≤M→M<q*N+N→M/N=q∧M%N=M-q*N:=by
      intro q a b
      have e:M/N=q:=by rw [Int.ediv_eq_iff_of_pos hNne];exact ⟨a,b⟩
      rw [e,Int.mul_comm] at hq2
      exact ⟨e,by omega⟩
    by_cases hlt:M-G*N<N
    · obtain ⟨e1,e2⟩:=huse G h1 (by omega)
      rw [e1,e2]
      have hcm:=compare_spec X (M-G*N) N (-1) (by simp [cmpI,hlt])
      rw [hLZl] at hcm
      ((refine aA<|rgN<|aL O O O dR<|aL O O O dR<|aP O dR ?_;refine aP O dR ?_;refine aB<|aA<|rgN<|kfa O O ?_;refine kl1 O O O<|kca O O (hlz)<|kcv O (by exact wrap_u64 (by omega)) ?_;refine kas O<|aB<|aA<|rgN<|kfa O O ?_;refine kl1 O O O<|kmv O<|K.shl O O (by omega) (shl_s (by omega) O ⟨hH2,hY2⟩) dR<|kfa O O ?_;refine kl1 O O O<|kmv O<|bA O O (wrap_u64 (by omega)) dR<|bO O O (by omega) (shr_64s (by omega)) dR<|K.bitop (by simp) O O (or_apart' (by omega) ⟨by omega,hY2⟩ hlo2 hL) dR<|kas O<|aB<|aA<|rgN<|kfa O O ?_;refine kl1 O O O<|bO O O (by omega) (shr_1 _) dR<|kfa O O ?_;refine kl1 O O O<|K.shl O O (by omega) (shl_63 _) dR<|kfa O O ?_;refine kl1 O O O<|bO O O (by omega) (shr_1 _) dR<|K.bitop (by simp) O O (or_apart' (by decide) (by omega) (by omega) hor2) dR<|kmv O<|kca O O (hdiv)<|kmv O<|kex O O<|kex O O<|kas O<|kas O<|aB<|aA<|rgN<|kmv O ?_;refine kmv O<|bA O O (wrap_u64 (by omega)) dR<|bO O O (by omega) ((shr_63s hs).trans hd3) dR<|kas O<|aB<|aA<|aA<|rgN<|kmv O<|kne O O (cT (by omega))<|aB<|aE O ?_;refine rgN<|kmv O<|bA O O ((wrap_u64 (by omega)).trans hG) dR<|kas O<|aB<|aA<|rgN<|aK O O O dR ?_);(refine kmv O<|aT O O (by exact O) (by exact nl2 O O O) dR ?_;refine kca O O (ht)<|kmv O<|kex O O<|kex O O<|aP O dR ?_;refine aM O O O O O O dR ?_;refine kas O<|aB<|aA<|rgN<|aK O O O dR ?_;refine aK O O O dR ?_;refine kca O O (hmi)<|aP O dR ?_;refine aM O O O O O O dR ?_;refine aB<|aA<|aA<|rgN<|aK O O O dR ?_;refine aK O O O dR ?_;refine kca O O (hcm)<|bD O O (cO (by omega)) dR<|aB<|aF O ?_;refine aH ?_;refine aA<|rgD mixed<|kmv O<|aT O O (by exact O) (by exact nl2 O O O) dR ?_);(refine aK O O O dR ?_;refine aM O O O O O O dR ?_;refine aM O O O O O O dR ?_;refine aB<|rgA ?_;refine aI ?_))
      rw [show SZ G = .agg [.val (.int .u64 0),.val (.int .u64 G)] by unfold SZ;rw [show G/18446744073709551616=0 by omega,show G%18446744073709551616=G by omega]]
      exact ⟨[_,_],⟨⟨_,_,O,O,O,.inl ⟨AggT.h,O⟩⟩,⟨_,_,O,O,O,.inl ⟨AggT.h,O⟩⟩,trivial⟩,O⟩
    · have hG1:(G+1)*N=G*N+N:=by rw [Int.add_mul,Int.one_mul]
      obtain ⟨e1,e2⟩:=huse (G+1) (by omega) (by omega)
      rw [e1] at hqW
      rw [e1,e2,hG1,show M-(G*N+N)=M-G*N-N by omega]
      have hcm:∃ r,(r=0∨r=1)∧cmpI (M-G*N) N=r:=⟨_,by unfold cmpI;(repeat' split)<;>omega,rfl⟩
      obtain ⟨r,hr,hcm⟩:=hcm
      have hcm:=compare_spec X (M-G*N) N r hcm
      have hmi2:=minus_spec X (M-G*N) N ⟨by omega,by omega⟩ ⟨by omega,by omega⟩ (by omega)
      rw [hLZl] at hcm hmi2
      ((refine aA<|rgN<|aL O O O dR<|aL O O O dR<|aP O dR ?_;refine aP O dR ?_;refine aB<|aA<|rgN<|kfa O O ?_;refine kl1 O O O<|kca O O (hlz)<|kcv O (by exact wrap_u64 (by omega)) ?_;refine kas O<|aB<|aA<|rgN<|kfa O O ?_;refine kl1 O O O<|kmv O<|K.shl O O (by omega) (shl_s (by omega) O ⟨hH2,hY2⟩) dR<|kfa O O ?_;refine kl1 O O O<|kmv O<|bA O O (wrap_u64 (by omega)) dR<|bO O O (by omega) (shr_64s (by omega)) dR<|K.bitop (by simp) O O (or_apart' (by omega) ⟨by omega,hY2⟩ hlo2 hL) dR<|kas O<|aB<|aA<|rgN<|kfa O O ?_;refine kl1 O O O<|bO O O (by omega) (shr_1 _) dR<|kfa O O ?_;refine kl1 O O O<|K.shl O O (by omega) (shl_63 _) dR<|kfa O O ?_;refine kl1 O O O<|bO O O (by omega) (shr_1 _) dR<|K.bitop (by simp) O O (or_apart' (by decide) (by omega) (by omega) hor2) dR<|kmv O<|kca O O (hdiv)<|kmv O<|kex O O<|kex O O<|kas O<|kas O<|aB<|aA<|rgN<|kmv O ?_;refine kmv O<|bA O O (wrap_u64 (by omega)) dR<|bO O O (by omega) ((shr_63s hs).trans hd3) dR<|kas O<|aB<|aA<|aA<|rgN<|kmv O<|kne O O (cT (by omega))<|aB<|aE O ?_;refine rgN<|kmv O<|bA O O ((wrap_u64 (by omega)).trans hG) dR<|kas O<|aB<|aA<|rgN<|aK O O O dR ?_);(refine kmv O<|aT O O (by exact O) (by exact nl2 O O O) dR ?_;refine kca O O (ht)<|kmv O<|kex O O<|kex O O<|aP O dR ?_;refine aM O O O O O O dR ?_;refine kas O<|aB<|aA<|rgN<|aK O O O dR ?_;refine aK O O O dR ?_;refine kca O O (hmi)<|aP O dR ?_;refine aM O O O O O O dR ?_;refine aB<|aA<|aA<|rgN<|aK O O O dR ?_;refine aK O O O dR ?_;refine kca O O (hcm)<|bD O O (cP (by omega)) dR<|aB<|aE O ?_;refine aA<|rgN<|kmv O<|kad O O (wrap_u64 (by omega))<|kas O<|aB<|rgN<|aK O O O dR ?_;refine aK O O O dR ?_);(refine kca O O (hmi2)<|aM O O O O O O dR ?_;refine aB<|aA<|rgD mixed<|kmv O<|aT O O (by exact O) (by exact nl2 O O O) dR ?_;refine aK O O O dR ?_;refine aM O O O O O O dR ?_;refine aM O O O O O O dR ?_;refine aB<|rgA ?_;refine aI ?_))
      rw [show SZ (G+1) = .agg [.val (.int .u64 0),.val (.int .u64 (G+1))] by unfold SZ;rw [show (G+1)/18446744073709551616=0 by omega,show (G+1)%18446744073709551616=G+1 by omega]]
      exact ⟨[_,_],⟨⟨_,_,O,O,O,.inl ⟨AggT.h,O⟩⟩,⟨_,_,O,O,O,.inl ⟨AggT.h,O⟩⟩,trivial⟩,O⟩
end Go.Proofs.YtamplgnbbanamaaGreatDoor
end
section
namespace Go.Proofs.YtamplgnbbanamaaGreatDoor
open Go Go.Lg Go.Lg.Arith
variable (X:Nat→Option Obj)
theorem two_word {T d Y:Int} (hY:0<Y) (hd:0≤d∧d<18446744073709551616) (hT:0≤T):
    (T*18446744073709551616+d)/Y=T/Y*18446744073709551616+(T%Y*18446744073709551616+d)/Y∧(T*18446744073709551616+d)%Y=(T%Y*18446744073709551616+d)%Y ∧
    0≤(T%Y*18446744073709551616+d)/Y∧(T%Y*18446744073709551616+d)/Y<18446744073709551616∧0≤T%Y∧T%Y<Y∧0≤T/Y:=by
  have h:=Int.emod_add_mul_ediv T Y
  have h0:=Int.emod_nonneg T (show Y≠0 by omega)
  have h1:=Int.emod_lt_of_pos T hY
  have e:T*18446744073709551616+d=(T%Y*18446744073709551616+d)+Y*(T/Y*18446744073709551616):=by
    rw [← Int.mul_assoc]
    generalize Y*(T/Y)=a at *
    omega
  have hq0:0≤(T%Y*18446744073709551616+d)/Y:=Int.ediv_nonneg (by omega) (by omega)
  have hq1:(T%Y*18446744073709551616+d)/Y<18446744073709551616:=by rw [Int.ediv_lt_iff_lt_mul hY];omega
  refine ⟨?_,?_,hq0,hq1,h0,h1,Int.ediv_nonneg hT (by omega)⟩
  · rw [e,Int.add_mul_ediv_left _ _ (by omega)];omega
  · rw [e,Int.add_mul_emod_self_left]
theorem divide_spec (M N:Int) (hM:Lim M) (hN:0<N∧N<170141183460469231731687303715884105728):
    PSpec Tryz.prog X 143 [LZ M,LZ N] (.tup [SZ (M/N),SZ (M%N)]):=by
  obtain ⟨hM0,hM1⟩:=hM
  refine cF Tryz.func143 rfl (by kernel_rfl) rfl rfl ?_
  intro C
  by_cases hl:18446744073709551616≤N
  · (refine aA<|rgN<|aL O O O dR<|aL O O O dR<|aP O dR ?_;refine aP O dR ?_;refine aB<|aA<|aA<|rgN<|kfa O O ?_;refine kl1 O O O<|kne O O (cT (by omega))<|aB<|aE O ?_;refine aA<|rgN<|aK O O O dR ?_;refine aK O O O dR ?_;refine kca O O (divideLong_spec _ _ _ ⟨hM0,hM1⟩ ⟨hl,hN.2⟩)<|kex O O<|kex O O<|aM O O O O O O dR ?_;refine aM O O O O O O dR ?_;refine aB<|aI ?_)
    exact ⟨[_,_],⟨⟨_,_,O,O,O,.inl ⟨AggT.h,O⟩⟩,⟨_,_,O,O,O,.inl ⟨AggT.h,O⟩⟩,trivial⟩,O⟩
  · obtain ⟨t1,t2,t3,t4,t5,t6,t7⟩:=two_word (T:=M/18446744073709551616) (d:=M%18446744073709551616) (Y:=N) hN.1 (by omega) (by omega)
    rw [show M/18446744073709551616*18446744073709551616+M%18446744073709551616=M by omega] at t1 t2
    have eN:N%18446744073709551616=N:=by omega
    have hd:=Div64_spec X (M/18446744073709551616%N) (M%18446744073709551616) N ⟨t5,t6⟩ (by omega) (by omega)
    have hr0:=Int.emod_nonneg M (show N≠0 by omega)
    have hr1:=Int.emod_lt_of_pos M hN.1
    rw [← t2] at hd
    rw [← eN] at hd
    rw [LZ_word (g:=N) (by omega)]
    rw [eN] at hd
    have hq:M/18446744073709551616/N<18446744073709551616:=by
      have:=Int.ediv_le_self N (show 0≤M/18446744073709551616 by omega);omega
    (refine aA<|rgN<|aL O O O dR<|aL O O O dR<|aP O dR ?_;refine aP O dR ?_;refine aB<|aA<|aA<|rgN<|kfa O O ?_;refine kl1 O O O<|kne O O ((cS (by omega)))<|aB<|aF O ?_;refine aH ?_;refine aA<|rgD mixed<|kfa O O ?_;refine kl1 O O O<|kfa O O ?_;refine kl1 O O O<|K.quo O O (by omega) (quo_u64 (by omega) (by omega)) dR<|kfa O O ?_;refine kl1 O O O<|kfa O O ?_;refine kl1 O O O<|K.rem O O (by omega) (rem_pos (by omega)) dR<|kas O<|kas O<|aB<|rgA ?_;refine aA<|rgN<|kmv O<|kfa O O ?_;refine kl1 O O O<|kfa O O ?_;refine kl1 O O O<|kca O O (hd)<|kmv O<|kex O O<|kex O O<|kas O<|kas O<|aB<|aA<|rgN<|kmv O<|kmv O<|aT O O (by exact O) (by exact nl2 O O O) dR ?_;refine kmv O<|aT O O (by exact O) (by exact nl2 O O O) dR ?_;refine aM O O O O O O dR ?_;refine aM O O O O O O dR ?_;refine aB<|aI ?_)
    rw [show SZ (M/N) = .agg [.val (.int .u64 (M/18446744073709551616/N)),.val (.int .u64 ((M/18446744073709551616%N*18446744073709551616+M%18446744073709551616)/N))] by
        unfold SZ;rw [show M/N/18446744073709551616=M/18446744073709551616/N by omega,show M/N%18446744073709551616=(M/18446744073709551616%N*18446744073709551616+M%18446744073709551616)/N by omega],
      show SZ (M%N) = .agg [.val (.int .u64 0),.val (.int .u64 (M%N))] by unfold SZ;rw [show M%N/18446744073709551616=0 by omega,show M%N%18446744073709551616=M%N by omega]]
    exact ⟨[_,_],⟨⟨_,_,O,O,O,.inl ⟨AggT.h,O⟩⟩,⟨_,_,O,O,O,.inl ⟨AggT.h,O⟩⟩,trivial⟩,O⟩
theorem divisible_spec (b c:Bool) (M N:Int) (hM:In2 M) (hN:In2 N) (r:Bool) (hr:((formB b M&&formB c N) && !(N==0))=r):PSpec Tryz.prog X 142 [LI b M,LI c N] (Lb r):=by
  subst hr
  refine cF Tryz.func142 rfl (by kernel_rfl) rfl rfl ?_
  intro C
  cases hf:(formB b M&&formB c N)
  · (refine aA<|rgN<|aL O O O dR<|aL O O O dR<|kas O<|aB<|aA<|rgN<|aK O O O dR ?_;refine aK O O O dR ?_;refine kca O O (bothForm_spec _ _ _ _ _ hM hN _ hf)<|kmv O<|aC O O O<|aC O O O<|aC O O O<|aC O O O<|kpf O O<|kas O<|aB<|aI ?_)
    exact ⟨[_],⟨rfl,trivial⟩,by simp [resOf]⟩
  · (refine aA<|rgN<|aL O O O dR<|aL O O O dR<|kas O<|aB<|aA<|rgN<|aK O O O dR ?_;refine aK O O O dR ?_;refine kca O O (bothForm_spec _ _ _ _ _ hM hN _ hf)<|kmv O<|aK O O O (dS O O) ?_;refine gca O O (sizeOf_spec _ _ _ _) O O<|gca O O (zero_spec _ _ hN _ O) O O<|aV O O (dS O O) ?_;refine kpt O O<|kas O<|aB<|aI ?_)
    exact ⟨[_],⟨rfl,trivial⟩,by simp [resOf]⟩
theorem Quo_arg (b c:Bool) (M N:Int) (hM:In2 M) (hN:In2 N) (hf:((formB b M&&formB c N) && !(N==0))=false):PSpec Tryz.prog X 111 [LI b M,LI c N] (.tup [S0,Sn .i64 1]):=by
  refine cF Tryz.func111 rfl (by kernel_rfl) rfl rfl ?_
  intro C
  (refine aA<|rgN<|aL O O O dR<|aL O O O dR<|aP O dR ?_;refine kas O<|aB<|aA<|aA<|rgN<|aK O O O dR ?_;refine aK O O O dR ?_;refine kca O O (divisible_spec _ _ _ _ _ hM hN _ hf)<|aV O O dR<|aB<|aE O ?_;refine aA<|rgN<|aT O O (by exact O) (by exact nl3 O O O O) dR ?_;refine aM O O O O O O dR ?_;refine kas O<|aB<|aI ?_)
  exact ⟨[_,_],⟨⟨_,_,O,O,O,.inl ⟨AggT.h,O⟩⟩,O,trivial⟩,O⟩
theorem Rem_arg (b c:Bool) (M N:Int) (hM:In2 M) (hN:In2 N) (hf:((formB b M&&formB c N) && !(N==0))=false):PSpec Tryz.prog X 112 [LI b M,LI c N] (.tup [S0,Sn .i64 1]):=by
  refine cF Tryz.func112 rfl (by kernel_rfl) rfl rfl ?_
  intro C
  (refine aA<|rgN<|aL O O O dR<|aL O O O dR<|aP O dR ?_;refine kas O<|aB<|aA<|aA<|rgN<|aK O O O dR ?_;refine aK O O O dR ?_;refine kca O O (divisible_spec _ _ _ _ _ hM hN _ hf)<|aV O O dR<|aB<|aE O ?_;refine aA<|rgN<|aT O O (by exact O) (by exact nl3 O O O O) dR ?_;refine aM O O O O O O dR ?_;refine kas O<|aB<|aI ?_)
  exact ⟨[_,_],⟨⟨_,_,O,O,O,.inl ⟨AggT.h,O⟩⟩,O,trivial⟩,O⟩
theorem mg_zero {y:Int} (hy:y≠0):0<mg y:=by unfold mg;split<;>omega
theorem zv_quo (x y:Int) (hy:y≠0):zv (decide (x<0) != decide (y<0)) (mg x/mg y)=x.tdiv y∧zv (decide (x<0)) (mg x%mg y)=x.tmod y:=by
  unfold zv mg
  by_cases cx:x<0<;>by_cases cy:y<0
  all_goals simp only [cx,cy,decide_true,decide_false,if_true,if_false,bne_self_eq_false,Bool.false_eq_true,Bool.true_bne,Bool.false_bne,Bool.not_false]
  · obtain ⟨a,rfl⟩:∃ a,x = -a:=⟨-x,by omega⟩
    obtain ⟨b,rfl⟩:∃ b,y = -b:=⟨-y,by omega⟩
    simp only [Int.neg_neg,Int.neg_tdiv,Int.tdiv_neg,Int.neg_tmod,Int.tmod_neg]
    rw [Int.tdiv_eq_ediv_of_nonneg (by omega),Int.tmod_eq_emod_of_nonneg (by omega)]
    exact ⟨O,O⟩
  · obtain ⟨a,rfl⟩:∃ a,x = -a:=⟨-x,by omega⟩
    simp only [Int.neg_neg,Int.neg_tdiv,Int.neg_tmod]
    rw [Int.tdiv_eq_ediv_of_nonneg (by omega),Int.tmod_eq_emod_of_nonneg (by omega)]
    exact ⟨O,O⟩
  · obtain ⟨b,rfl⟩:∃ b,y = -b:=⟨-y,by omega⟩
    simp only [Int.neg_neg,Int.tdiv_neg,Int.tmod_neg]
    rw [Int.tdiv_eq_ediv_of_nonneg (by omega),Int.tmod_eq_emod_of_nonneg (by omega)]
    exact ⟨O,O⟩
  · rw [Int.tdiv_eq_ediv_of_nonneg (by omega),Int.tmod_eq_emod_of_nonneg (by omega)]
    exact ⟨O,O⟩
theorem mg_zero' {y:Int} (hy:y≠0):(mg y==0)=false:=by
  have:=mg_zero hy
  exact cR (by omega)
theorem Quo_q (x y:Int) (hx:R127 x) (hy:R127 y) (h0:y≠0):PSpec Tryz.prog X 111 [LQ x,LQ y] (.tup [SQ (x.tdiv y),Sn .i64 0]):=by
  have hB:=divisible_spec X _ _ _ _ (mg_in2 hx) (mg_in2 hy) true (by rw [both_q hx hy,mg_zero' h0];rfl)
  have hd:=divide_spec X (mg x) (mg y) ⟨mg_nonneg x,mg_lim hx⟩ ⟨mg_zero h0,mg_lim hy⟩
  have hq0:0≤mg x/mg y:=Int.ediv_nonneg (mg_nonneg x) (mg_nonneg y)
  have hq1:=Int.ediv_le_self (mg y) (mg_nonneg x)
  have hl:=mg_lim hx
  have hn:=number_spec X (decide (x<0) != decide (y<0)) (mg x/mg y) ⟨hq0,by omega⟩ _ rfl
  rw [← tup_q hq0 (zv_quo x y h0).1]
  refine cF Tryz.func111 rfl (by kernel_rfl) rfl rfl ?_
  intro C
  (refine aA<|rgN<|aL O O O dR<|aL O O O dR<|aP O dR ?_;refine kas O<|aB<|aA<|aA<|rgN<|aK O O O dR ?_;refine aK O O O dR ?_;refine kca O O (hB)<|aV O O dR<|aB<|aF O ?_;refine aH ?_;refine aA<|rgD mixed<|aK O O O dR ?_;refine kca O O (sizeOf_spec _ _ _ _)<|aK O O O dR ?_;refine kca O O (sizeOf_spec _ _ _ _)<|kca O O (hd)<|kmv O<|kex O O<|kex O O<|aP O dR ?_;refine aP O dR ?_;refine aM O O O O O O dR ?_;refine aM O O O O O O dR ?_;refine aB<|rgA ?_;refine aA<|rgN<|kfa O O ?_;refine kl1 O O O<|kfa O O ?_;refine kl1 O O O<|K.neqB O O O dR<|aK O O O dR ?_;refine kca O O (hn)<|aM O O O O O O dR ?_;refine kas O<|aB<|aI ?_)
  exact ⟨[_,_],⟨⟨_,_,O,O,O,.inl ⟨AggT.h,O⟩⟩,O,trivial⟩,O⟩
theorem Rem_q (x y:Int) (hx:R127 x) (hy:R127 y) (h0:y≠0):PSpec Tryz.prog X 112 [LQ x,LQ y] (.tup [SQ (x.tmod y),Sn .i64 0]):=by
  have hB:=divisible_spec X _ _ _ _ (mg_in2 hx) (mg_in2 hy) true (by rw [both_q hx hy,mg_zero' h0];rfl)
  have hd:=divide_spec X (mg x) (mg y) ⟨mg_nonneg x,mg_lim hx⟩ ⟨mg_zero h0,mg_lim hy⟩
  have hq0:0≤mg x%mg y:=Int.emod_nonneg _ (by have:=mg_zero h0;omega)
  have hq1:=Int.emod_lt_of_pos (mg x) (mg_zero h0)
  have hl:=mg_lim hy
  have hn:=number_spec X (decide (x<0)) (mg x%mg y) ⟨hq0,by omega⟩ _ rfl
  rw [← tup_q hq0 (zv_quo x y h0).2]
  refine cF Tryz.func112 rfl (by kernel_rfl) rfl rfl ?_
  intro C
  (refine aA<|rgN<|aL O O O dR<|aL O O O dR<|aP O dR ?_;refine kas O<|aB<|aA<|aA<|rgN<|aK O O O dR ?_;refine aK O O O dR ?_;refine kca O O (hB)<|aV O O dR<|aB<|aF O ?_;refine aH ?_;refine aA<|rgD mixed<|aK O O O dR ?_;refine kca O O (sizeOf_spec _ _ _ _)<|aK O O O dR ?_;refine kca O O (sizeOf_spec _ _ _ _)<|kca O O (hd)<|kmv O<|kex O O<|kex O O<|aP O dR ?_;refine aP O dR ?_;refine aM O O O O O O dR ?_;refine aM O O O O O O dR ?_;refine aB<|rgA ?_;refine aA<|rgN<|kfa O O ?_;refine kl1 O O O<|aK O O O dR ?_;refine kca O O (hn)<|aM O O O O O O dR ?_;refine kas O<|aB<|aI ?_)
  exact ⟨[_,_],⟨⟨_,_,O,O,O,.inl ⟨AggT.h,O⟩⟩,O,trivial⟩,O⟩
end Go.Proofs.YtamplgnbbanamaaGreatDoor
end
section
namespace Go.Proofs.YtamplgnbbanamaaGreatDoor
open Go Go.Proofs Go.Shelf Go.RowKit Go.Sort Go.Lib
set_option maxHeartbeats 6400000 in
set_option maxRecDepth 100000 in
theorem inner_format (u : Nat) (hu64 : u < 18446744073709551616) (w : World) (htab : Lib.TabIs Tryz.prog w "internal/strconv.uint64pow10" .u64 Lib.pow10Tab) :
    Calls Tryz.prog 170 #[.int .u64 u,.int .i64 10] w fun e w'=>e = .returned (.string ⟨(Lib.decDigits u).toArray⟩)∧Below w.heap.size w w':=by
  have mixed:=Tryz.lays99.mixed
  have e74:∀ args w,(callFunc 124 args).run Tryz.prog w = .ok (.enter 124 args) w:=enters_of Tryz.func124 (by kernel_rfl) rfl
  have e75:∀ args w,(callFunc 125 args).run Tryz.prog w = .ok (.enter 125 args) w:=enters_of Tryz.func125 (by kernel_rfl) rfl
  have e76:∀ args w,(callFunc 126 args).run Tryz.prog w = .ok (.enter 126 args) w:=enters_of Tryz.func126 (by kernel_rfl) rfl
  by_cases hs:u<100
  · go_enter Tryz.func170,Tryz.ntmps170
    go_wp2_with (go_at_fn 124;refine (Tryz.internal_strconv_small u hs _).mono ?_;rintro e w' ⟨rfl,rfl⟩)
    go_ret
    exact ⟨rfl,Below.refl _ _⟩
  · have hu1:1≤u:=by omega
    have hnd20:Lib.nDigits u≤20:=by have:=Lib.numDigits_eq u hu1 hu64;split at this<;>omega
    have hal:Tryz.prog.arrayLen 177=24:=by kernel_rfl
    have hsl1:∀ W,(Instr.sliceAt 177 (.pointer (some ⟨w.heap.size,0,none⟩)) none (some (.int .i64 (Lib.nDigits u:Int))) none).run Tryz.prog W = .ok (.slice (some ⟨w.heap.size,0,none⟩) (Lib.nDigits u) 24) W:=fun W=>by
      rw [run_sliceAt_array_h W 177 ⟨w.heap.size,0,none⟩ (by kernel_rfl) .i64 (Lib.nDigits u:Int) (by omega) (by rw [hal];omega)]
      go_simp
    have hH0:Holds (fun (b:UInt8)=>Value.int .u8 (b.toNat:Int)) (w.alloc (.cells Lib.zeros24 177)) w.heap.size 0 (Array.replicate (Lib.nDigits u) (0:UInt8)):=fun j hj=>by
      have hj':j<Lib.nDigits u:=by simpa using hj
      refine ⟨?_,World.frozen?_alloc_new _ _ _ _⟩
      rw [World.cell?_alloc_new,zeros24_at _ (by omega),getElem!_pos _ j hj]
      simp
    have hfmt:=Tryz.internal_strconv_formatBase10 w.heap.size 0 24 u (Array.replicate (Lib.nDigits u) 0) (w.alloc (.cells Lib.zeros24 177)) hH0 (by rw [Array.size_replicate];exact Lib.lt_pow_nDigits u) hu64 (by rw [Array.size_replicate];omega)
    rw [Array.size_replicate] at hfmt
    have HH0:=Lib.hid hH0
    clear hH0 hal
    go_enter Tryz.func170,Tryz.ntmps170
    go_wp2_with (first
      | (go_at_fn 125;refine (Tryz.internal_strconv_numDigits u hu1 hu64 _ (Lib.tabIs_alloc htab _)).mono ?_;rintro e w' ⟨rfl,rfl⟩))
    go_at_fn 126
    refine hfmt.mono ?_
    rintro e w' ⟨rfl,k,v',dk,rfl,hF⟩
    have hcv:(convert 59 9 (.slice (some ⟨w.heap.size,0,none⟩) (Lib.nDigits u) 24)).run Tryz.prog ((putRow (fun (b:UInt8)=>Value.int .u8 (b.toNat:Int)) (w.alloc (.cells Lib.zeros24 177)) w.heap.size 0 dk).drewN k) = .ok (.string ⟨(Lib.decDigits u).toArray⟩) ((putRow (fun (b:UInt8)=>Value.int .u8 (b.toNat:Int)) (w.alloc (.cells Lib.zeros24 177)) w.heap.size 0 dk).drewN k):=by
      have h:=run_convert_bytes_back (P:=Tryz.prog) ((putRow (fun (b:UInt8)=>Value.int .u8 (b.toNat:Int)) (w.alloc (.cells Lib.zeros24 177)) w.heap.size 0 dk).drewN k) 59 9 5 ⟨w.heap.size,0,none⟩ 24 (Lib.decDigits u) Tryz.underlying59 Tryz.underlying5 Tryz.underlying9 (fun j hj=>by
        rw [Lib.row_is_numeral hF j hj,Lib.add_plain,World.cell?_drewN]
        exact cell?_putRow (fun (b:UInt8)=>Value.int .u8 (b.toNat:Int)) _ w.heap.size 0 _ dk HH0.out (by rw [hF.size,Array.size_replicate]) j (by rw [hF.size];rw [Lib.decDigits_length] at hj;exact hj))
      rw [Lib.decDigits_length] at h
      exact h
    go_wp2
    go_ret
    refine ⟨rfl,?_⟩
    have e:∃ os,(putRow (fun (b:UInt8)=>Value.int .u8 (b.toNat:Int)) (w.alloc (.cells Lib.zeros24 177)) w.heap.size 0 dk).drewN k=grow (w.drewN k) os:=by
      rw [alloc_eq_grow]
      obtain ⟨os',_,e⟩:=putRow_grow_new (fun (b:UInt8)=>Value.int .u8 (b.toNat:Int)) w #[.cells Lib.zeros24 177] w.heap.size 0 dk (Nat.le_refl _)
      exact ⟨os',by rw [e];rfl⟩
    obtain ⟨os,e⟩:=e
    rw [e]
    exact below_grow _ _ (Nat.le_refl _) k os
end Go.Proofs.YtamplgnbbanamaaGreatDoor
end
section
namespace Go.Lg.Dec
open Go Go.Lib
def pad:Nat→Nat→List UInt8
  | 0,_=>[]
  | k+1,u=>pad k (u/10)++[UInt8.ofNat (48+u%10)]
theorem dec_pad:∀ (k U L:Nat),0<U→L<10^k→decDigits (U*10^k+L)=decDigits U++pad k L
  | 0,U,L,_,hL=>by
    have:L=0:=by simpa using hL
    subst this
    simp [pad]
  | k+1,U,L,hU,hL=>by
    have hp:0<10^k:=Nat.pow_pos (by decide)
    have h1:U*10^(k+1)+L=(U*10^k+L/10)*10+L%10:=by rw [Nat.pow_succ,← Nat.mul_assoc,Nat.add_mul];omega
    have hb:¬ U*10^(k+1)+L<10:=by
      have:1*10^k≤U*10^k:=Nat.mul_le_mul_right _ hU
      omega
    rw [decDigits,dif_neg hb,h1,show ((U*10^k+L/10)*10+L%10)/10=U*10^k+L/10 by omega,show ((U*10^k+L/10)*10+L%10)%10=L%10 by omega,
      dec_pad k U (L/10) hU (by rw [Nat.pow_succ] at hL;omega),dM]
    rfl
theorem rep_snoc (k:Nat):repeatL [48] k++[48]=repeatL [48] (k+1):=by rw [repeatL_add,repeatL_one]
theorem pad_rep:∀ (k L:Nat),L<10^(k+1)→pad (k+1) L=repeatL [48] (k+1-nDigits L)++decDigits L
  | 0,L,hL=>by
    have h:L<10:=by simpa using hL
    rw [nDigits_small h,decDigits_one h]
    simp [pad,repeatL,Nat.mod_eq_of_lt h]
  | k+1,L,hL=>by
    have hL':L/10<10^(k+1):=by rw [Nat.pow_succ] at hL;omega
    have ih:=pad_rep k (L/10) hL'
    show pad (k+1) (L/10)++[UInt8.ofNat (48+L%10)]=_
    rw [ih]
    by_cases h:L<10
    · rw [nDigits_small h,show L/10=0 by omega,nDigits_small (show 0<10 by decide),decDigits_one (show 0<10 by decide),decDigits_one h,Nat.mod_eq_of_lt h]
      show repeatL [48] (k+1-1)++[48]++_=_
      rw [rep_snoc]
      rfl
    · rw [nDigits_big h,show k+1+1-(nDigits (L/10)+1)=k+1-nDigits (L/10) by omega,dM]
      congr 1
      conv=>rhs;rw [decDigits,dif_neg h]
theorem nDigits_le:∀ (k u:Nat),u<10^(k+1)→nDigits u≤k+1
  | 0,u,h=>by rw [nDigits_small (by simpa using h)];omega
  | k+1,u,h=>by
    by_cases c:u<10
    · rw [nDigits_small c];omega
    · rw [nDigits_big c]
      have:=nDigits_le k (u/10) (by rw [Nat.pow_succ] at h;omega)
      omega
end Go.Lg.Dec
namespace Go.Proofs.YtamplgnbbanamaaGreatDoor
open Go Go.Lg Go.Lg.Arith Go.Lg.Dec Go.RowKit
variable (X:Nat→Option Obj)
def XTab : Prop := ∀ w : World, (∀ b o, X b = some o → w.heap[b]? = some o) → Lib.TabIs Tryz.prog w "internal/strconv.uint64pow10" .u64 Lib.pow10Tab
theorem format_inner (hT:XTab X) (u:Nat) (hu:u<18446744073709551616):PSpec Tryz.prog X 170 [Ln .u64 (u:Nat),Ln .i64 10] (Ls (Lib.decDigits u)):=
  PSpec.ofBelow (vals:=[.int .u64 (u:Nat),.int .i64 10]) (v:=.string ⟨(Lib.decDigits u).toArray⟩) (by kernel_rfl) rfl rfl (fun w hX=>inner_format u hu w (hT w hX))
theorem format_spec (hT:XTab X) (u:Nat) (hu:u<18446744073709551616):PSpec Tryz.prog X 160 [Ln .u64 (u:Nat),Ln .i64 10] (Ls (Lib.decDigits u)):=by
  refine cF Tryz.func160 rfl (by kernel_rfl) rfl rfl ?_
  intro C
  (refine aA<|rgN<|kas O<|aB<|aA<|rgN<|kmv O<|kmv O<|kca O O (format_inner _ hT u hu)<|kas O<|aB<|aI ?_)
  exact ⟨[_],⟨O,trivial⟩,O⟩
theorem repeat_spec (c:Nat) (hc:c≤1000):PSpec Tryz.prog X 161 [Ls [48],Ln .i64 (c:Nat)] (Ls (Lib.repeatL [48] c)):=
  PSpec.ofBelow (vals:=[.string ⟨[48].toArray⟩,.int .i64 (c:Nat)]) (v:=.string ⟨(Lib.repeatL [48] c).toArray⟩) (by kernel_rfl) rfl rfl (fun w _=>Tryz.strings_Repeat ⟨[48].toArray⟩ c w (by omega) (by show 1*c≤_;omega))
theorem digits_spec (hT:XTab X) (M:Nat) (hM:M<170141183460469231731687303715884105728):PSpec Tryz.prog X 128 [LZ (M:Nat)] (Ls (Lib.decDigits M)):=by
  have hdv:=Div64_spec X ((M:Int)/18446744073709551616) ((M:Int)%18446744073709551616) 10000000000000000000 (by omega) (by omega) (by omega)
  rw [show (M:Int)/18446744073709551616*18446744073709551616+(M:Int)%18446744073709551616=(M:Int) by omega] at hdv
  rw [show (M:Int)/10000000000000000000=((M/10000000000000000000:Nat):Int) by omega,show (M:Int)%10000000000000000000=((M%10000000000000000000:Nat):Int) by omega] at hdv
  have hL:M%10000000000000000000<10000000000000000000:=Nat.mod_lt _ (by decide)
  have hU:M/10000000000000000000<18446744073709551616:=by omega
  have hsum:M=M/10000000000000000000*10^19+M%10000000000000000000:=by omega
  generalize M/10000000000000000000=U at *
  generalize M%10000000000000000000=L at *
  have hf1:=format_spec X hT L (by omega)
  have hf2:=format_spec X hT U hU
  have hn:=nDigits_le 18 L hL
  have hp:=Lib.nDigits_pos L
  have hu:=nDigits_le 19 U (by omega)
  have hs1:(⟨(Lib.decDigits L).toArray⟩:ByteArray).size=Lib.nDigits L:=Lib.decDigits_length L
  have hs2:(⟨(Lib.decDigits U).toArray⟩:ByteArray).size=Lib.nDigits U:=Lib.decDigits_length U
  have hs3:(⟨(Lib.repeatL [48] (19-Lib.nDigits L)).toArray⟩:ByteArray).size=(19-Lib.nDigits L)*1:=Lib.repeatL_length _ _
  have hs4:(⟨(Lib.decDigits U++Lib.repeatL [48] (19-Lib.nDigits L)).toArray⟩:ByteArray).size=Lib.nDigits U+(19-Lib.nDigits L)*1:=by
    show (Lib.decDigits U++Lib.repeatL [48] (19-Lib.nDigits L)).length=_
    rw [cV,Lib.decDigits_length,Lib.repeatL_length]
    rfl
  have hsub:IntKind.i64.wrap (19-((⟨(Lib.decDigits L).toArray⟩:ByteArray).size:Nat))=((19-Lib.nDigits L:Nat):Int):=by
    rw [hs1,cH (by omega)];omega
  refine cF Tryz.func128 rfl (by kernel_rfl) rfl rfl ?_
  intro C
  by_cases h0:U=0
  · subst h0
    rw [Nat.zero_mul,Nat.zero_add] at hsum
    subst hsum
    (refine aA<|rgN<|aL O O O dR<|kas O<|aB<|aA<|rgN<|kfa O O ?_;refine kl1 O O O<|kfa O O ?_;refine kl1 O O O<|kca O O (hdv)<|kmv O<|kex O O<|kex O O<|kas O<|kas O<|aB<|aA<|rgN<|kmv O<|kca O O (hf1)<|kas O<|aB ?_;refine aA<|aA<|rgN<|kmv O<|keq O O (cU (by omega))<|aB<|aE O ?_;refine aA<|rgN<|kmv O<|kas O<|aB<|aI ?_)
    exact ⟨[_],⟨O,trivial⟩,O⟩
  · have e:Lib.decDigits M=Lib.decDigits U++Lib.repeatL [48] (19-Lib.nDigits L)++Lib.decDigits L:=by
      rw [hsum,dec_pad 19 U L (by omega) hL,pad_rep 18 L hL,dM]
    rw [e]
    (refine aA<|rgN<|aL O O O dR<|kas O<|aB<|aA<|rgN<|kfa O O ?_;refine kl1 O O O<|kfa O O ?_;refine kl1 O O O<|kca O O (hdv)<|kmv O<|kex O O<|kex O O<|kas O<|kas O<|aB<|aA<|rgN<|kmv O<|kca O O (hf1)<|kas O<|aB ?_;refine aA<|aA<|rgN<|kmv O<|keq O O (cR (by omega))<|aB<|aF O ?_;refine aH ?_;refine aA<|rgN<|kmv O<|kln O<|bA O O hsub dR<|kca O O (repeat_spec _ (19-Lib.nDigits L) (by omega))<|kas O<|aB<|aA<|rgN<|kmv O<|kca O O (hf2)<|kmv O<|bM O O (by omega) (str_add _ _) dR ?_;refine kmv O<|bM O O (by omega) (str_add _ _) dR<|kas O<|aB<|aI ?_)
    exact ⟨[_],⟨O,trivial⟩,O⟩
theorem Text_spec (hT:XTab X) (x:Int) (hx:R127 x):PSpec Tryz.prog X 98 [LQ x] (Ls (textQ x)):=by
  have hF:=Form_spec X _ _ (mg_in2 hx) true (formB_q hx)
  have hm:=mg_nonneg x
  have hl:=mg_lim hx
  have hd:=digits_spec X hT (mg x).toNat (by omega)
  rw [show (((mg x).toNat:Nat):Int)=mg x by omega] at hd
  have hlen:(⟨(Lib.decDigits (mg x).toNat).toArray⟩:ByteArray).size≤39:=by
    show (Lib.decDigits (mg x).toNat).length≤39
    rw [Lib.decDigits_length]
    exact nDigits_le 38 _ (by omega)
  refine cF Tryz.func98 rfl (by kernel_rfl) rfl rfl ?_
  intro C
  by_cases c:x<0
  · have e:textQ x=[45]++Lib.decDigits (mg x).toNat:=if_pos c
    rw [e]
    unfold LQ at hF ⊢
    simp only [c,decide_true] at hF ⊢
    (refine aA<|rgN<|aL O O O dR<|kas O<|aB<|aA<|aA<|rgN<|aK O O O dR ?_;refine kca O O (hF)<|aV O O dR<|aB<|aF O ?_;refine aH ?_;refine aA<|rgN<|aK O O O dR ?_;refine kca O O (sizeOf_spec _ _ _ _)<|kca O O (hd)<|kas O<|aB<|aA<|aA<|rgN<|kfa O O ?_;refine kl1 O O O<|aB<|aE O ?_;refine aA<|rgN<|kmv O<|bM O O (Nat.le_trans (Nat.add_le_add_left hlen _) (by decide)) (str_add [45] _) dR<|kas O<|aB<|aI ?_)
    exact ⟨[_],⟨O,trivial⟩,O⟩
  · have e:textQ x=Lib.decDigits (mg x).toNat:=if_neg c
    rw [e]
    unfold LQ at hF ⊢
    simp only [c,decide_false] at hF ⊢
    (refine aA<|rgN<|aL O O O dR<|kas O<|aB<|aA<|aA<|rgN<|aK O O O dR ?_;refine kca O O (hF)<|aV O O dR<|aB<|aF O ?_;refine aH ?_;refine aA<|rgN<|aK O O O dR ?_;refine kca O O (sizeOf_spec _ _ _ _)<|kca O O (hd)<|kas O<|aB<|aA<|aA<|rgN<|kfa O O ?_;refine kl1 O O O<|aB<|aF O ?_;refine aH ?_;refine aA<|rgN<|kmv O<|kas O<|aB<|aI ?_)
    exact ⟨[_],⟨O,trivial⟩,O⟩
end Go.Proofs.YtamplgnbbanamaaGreatDoor
end
section
namespace Go.Proofs.YtamplgnbbanamaaGreatDoor
open Go Go.Lg Go.Lg.Arith Go.Lg.Dec Go.Lg.Dig Go.RowKit
variable (X:Nat→Option Obj)
def part (M N i j:Nat):Nat:=M%256^i*N+dg M i*(N%256^j)*256^i
end Go.Proofs.YtamplgnbbanamaaGreatDoor
end
section
namespace Go.Proofs.YtamplgnbbanamaaGreatDoor
open Go Go.Lg Go.Lg.Arith Go.Lg.Dec Go.Lg.Dig Go.RowKit
variable (X:Nat→Option Obj)
abbrev bxN (f:List CV):Option Box:=some { elem:=161,cells:=f }
set_option maxHeartbeats 6400000 in
theorem Parted_spec (a b:Bool) (A B:Nat) (hA:A<T40) (hB:0<B) (hB2:B<340282366920938463463374607431768211456):PSpec Tryz.prog X 101 [LN a (dg A),LN b (dg B)] (.tup [SN false (dg (A/B)),SN false (dg (A%B))]):=by
  have big:=pow40
  refine cF Tryz.func101 rfl (by kernel_rfl) rfl rfl ?_
  intro C
  (refine aA<|rgN<|aL O O O dR<|aL O O O dR<|aP O dR ?_;refine aP O dR ?_;refine aB<|aA<|rgN<|kfa O O ?_;refine bG O O O O num_blt0 num_sign dR<|aB<|aA<|rgN<|aT O O (by exact O) (by exact O) dR ?_;refine aP O dR ?_;refine aM O O O O O O dR ?_;refine aB<|aA<|rgN<|aT O O (by exact O) (by exact O) dR ?_;refine aP O dR ?_;refine aM O O O O O O dR ?_;refine aB<|aA<|aA<|rgN<|kas O<|aB<|aG ?_)
  refine cL (fun m σ=>m≤40∧∃ z:Int,z=(m:Int)-1∧σ=⟨[(2,.sv (.one (.ptr 2 0))),(3,.sv (.one (.ptr 3 0))),(4,.sv (.one (.ptr 4 0))),(5,.sv (.one (.ptr 5 0))),(6,.sv (.one (.ptr 6 0))),(7,.sv (.one (.ptr 7 0))),(8,Ln .i64 z)],[(2,bxN (num a (dg A))),(3,bxN (num false (dg B))),(4,bxN (num false (fun _=>0))),(5,bxN (num false (fun _=>0))),(6,bxN (num false (dg (A/256^m/B*256^m)))),(7,bxN (num false (dg (A/256^m%B))))],X⟩) 40
    ⟨_,Le.of (by exact ⟨rfl,rfl,rfl,rfl,rfl,rfl,rfl,trivial⟩) (by exact ⟨rfl,rfl,rfl,rfl,by rw [Nat.div_eq_of_lt hA,Nat.zero_div,Nat.zero_mul,show num false (dg 0)=num false (fun _=>0) from num_congr fun x _=>dg_zero x];rfl,by rw [Nat.div_eq_of_lt hA,Nat.zero_mod,show num false (dg 0)=num false (fun _=>0) from num_congr fun x _=>dg_zero x];rfl,trivial⟩) (by exact rfl) (by exact rfl) (by exact rfl),by omega,39,by omega,rfl⟩ ?_
  rintro m σ ⟨hm,z,rfl,rfl⟩
  cases m with
  | zero =>
    rw [Nat.pow_zero,Nat.div_one,Nat.mul_one]
    (refine aA<|aA<|rgN<|kmv O<|bD O O (cO (by omega)) dR<|aB<|aF O ?_;refine aJ<|aA<|rgD mixed<|aK O O O dR ?_;refine aK O O O dR ?_;refine aM O O O O O O dR ?_;refine aM O O O O O O dR ?_;refine aB<|rgA ?_;refine aI ?_)
    exact ⟨[_,_],⟨⟨_,_,O,O,O,.inl ⟨AggT.h,O⟩⟩,⟨_,_,O,O,O,.inl ⟨AggT.h,O⟩⟩,trivial⟩,O⟩
  | succ i =>
    rw [show (((i+1:Nat):Int)-1)=(i:Int) by omega]
    have hi:i<40:=by omega
    have hR:=Nat.mod_lt (A/256^(i+1)) hB
    have hd:=dg_lt A i
    have hq:=fun t V=>quo_step (A:=A) (i:=i) (t:=t) (V:=V) hB
    generalize A/256^(i+1)/B=Q at *
    generalize A/256^(i+1)%B=R at *
    (refine aA<|aA<|rgN<|kmv O<|bD O O (cP (by omega)) dR<|aB<|aE O ?_;refine aH ?_;refine aA<|aG<|aA<|aA<|rgN<|kas O<|aB<|aG ?_)
    refine cL (fun m σ=>m≤39∧σ=⟨[(2,.sv (.one (.ptr 2 0))),(3,.sv (.one (.ptr 3 0))),(4,.sv (.one (.ptr 4 0))),(5,.sv (.one (.ptr 5 0))),(6,.sv (.one (.ptr 6 0))),(7,.sv (.one (.ptr 7 0))),(8,Ln .i64 (i:Nat)),(9,Ln .i64 (m:Nat))],[(2,bxN (num a (dg A))),(3,bxN (num false (dg B))),(4,bxN (num false (fun _=>0))),(5,bxN (num false (fun _=>0))),(6,bxN (num false (dg (Q*256^(i+1))))),(7,bxN (num false (shf R m)))],X⟩) 39
      ⟨_,Le.of (by exact ⟨rfl,rfl,rfl,rfl,rfl,rfl,rfl,rfl,trivial⟩) (by exact ⟨rfl,rfl,rfl,rfl,rfl,by rw [shf_start];rfl,trivial⟩) (by exact rfl) (by exact rfl) (by exact rfl),by omega,rfl⟩ ?_
    rintro m σ ⟨hm2,rfl⟩
    cases m with
    | succ t =>
      have ht:t<40:=by omega
      have ht1:t+1<40:=by omega
      have w:IntKind.i64.wrap (((t+1:Nat):Int)-1)=(t:Int):=by rw [cH (by omega)];omega
      have hat:(num false (shf R (t+1)))[1+t*1]? = some (dv (dg R t)):=by rw [num_at ht];unfold shf;rw [if_neg (by omega)]
      (refine aA<|aA<|rgN<|kmv O<|aS O O (cP (by omega)) dR<|aB<|aE O ?_;refine aH ?_;refine aA<|aG<|rgN<|kmv O<|kmv O<|bA O O w dR<|kfa O O ?_;refine K.indexArr O O (by omega) O dR ?_;refine kl1 O O hat<|kfa O O ?_;refine K.indexArr O O (by omega) O dR ?_;refine bG O O O O (num_blt (i:=t+1) ht1) ((num_set (i:=t+1) ht1).trans (shf_step false R t)) dR<|aB<|rgN<|kmv O<|bA O O w dR<|kas O<|aB ?_)
      exact ⟨t,_,by omega,Le.of (by exact ⟨O,O,O,O,O,O,O,O,trivial⟩) (by exact ⟨O,O,O,O,O,O,trivial⟩) (by exact O) (by exact O) (by exact O),by omega,O⟩
    | zero =>
      (refine aA<|aA<|rgN<|kmv O<|aS O O (cO (by omega)) dR<|aB<|aF O ?_;refine aJ<|aA<|rgN<|kmv O<|kfa O O ?_;refine K.indexArr O O (by omega) O dR ?_;refine kl1 O O (num_at (i:=i) hi)<|kfa O O ?_;refine K.indexArr O O (by omega) O dR ?_;refine bG O O O O (num_blt (i:=0) (by decide)) ((num_set (i:=0) (by decide)).trans (shf_end false R (dg A i) hd)) dR<|aB<|aG ?_)
      refine cL (fun m σ=>∃ t V:Nat,V+t*B=R*256+dg A i∧t≤255∧m=V∧σ=⟨[(2,.sv (.one (.ptr 2 0))),(3,.sv (.one (.ptr 3 0))),(4,.sv (.one (.ptr 4 0))),(5,.sv (.one (.ptr 5 0))),(6,.sv (.one (.ptr 6 0))),(7,.sv (.one (.ptr 7 0))),(8,Ln .i64 (i:Nat))],[(2,bxN (num a (dg A))),(3,bxN (num false (dg B))),(4,bxN (num false (fun _=>0))),(5,bxN (num false (fun _=>0))),(6,bxN (num false (dg (Q*256^(i+1)+t*256^i)))),(7,bxN (num false (dg V)))],X⟩) (R*256+dg A i)
        ⟨_,Le.of (by exact ⟨rfl,rfl,rfl,rfl,rfl,rfl,rfl,trivial⟩) (by exact ⟨rfl,rfl,rfl,rfl,by rw [Nat.zero_mul,Nat.add_zero];rfl,rfl,trivial⟩) (by exact rfl) (by exact rfl) (by exact rfl),0,_,by rw [Nat.zero_mul,Nat.add_zero],by omega,rfl,rfl⟩ ?_
      rintro m σ ⟨t,V,hV,ht,hmV,rfl⟩
      have hVle:V≤R*256+dg A i:=by rw [← hV];exact Nat.le_add_right _ _
      have hV40:V<T40:=by unfold T40;rw [big];omega
      have hB40:B<T40:=by unfold T40;rw [big];omega
      obtain ⟨r,hr,c1,c2,c3⟩:=cmp_facts_0 V B
      have hS:=Size_spec X false false V B hV40 hB40 r hr
      by_cases hlt:V<B
      · obtain ⟨q1,q2⟩:=hq t V hV hlt
        (refine aA<|aA<|rgN<|aK O O O dR ?_;refine aK O O O dR ?_;refine kca O O (hS)<|bD O O (cO (by omega)) dR<|aB<|aF O ?_;refine aJ<|rgN<|kmv O<|bA O O (cH (by omega)) dR<|kas O<|aB ?_)
        exact ⟨i,_,by omega,Le.of (by exact ⟨rfl,rfl,rfl,rfl,rfl,rfl,rfl,trivial⟩) (by exact ⟨rfl,rfl,rfl,rfl,by rw [q1];rfl,by rw [q2];rfl,trivial⟩) (by exact rfl) (by exact rfl) (by exact rfl),by omega,_,rfl,rfl⟩
      · have hm:=less_spec X false false V B (by omega)
        have ht1:t+1<256:=by
          have h1:(t+1)*B<256*B:=by rw [Nat.add_mul];omega
          exact Nat.lt_of_mul_lt_mul_right h1
        have hat:(num false (dg (Q*256^(i+1)+t*256^i)))[1+i*1]? = some (dv t):=by rw [num_at hi,mid_at (by omega)]
        have w:IntKind.i64.wrap ((t:Int)+1)=((t+1:Nat):Int):=by rw [cH (by omega)];rfl
        (refine aA<|aA<|rgN<|aK O O O dR ?_;refine aK O O O dR ?_;refine kca O O (hS)<|bD O O (cP (by omega)) dR<|aB<|aE O ?_;refine aH ?_;refine aG<|aA<|rgN<|aK O O O dR ?_;refine aK O O O dR ?_;refine kca O O (hm)<|aM O O O O O O dR ?_;refine aB<|rgN<|kmv O<|kfa O O ?_;refine K.indexArr O O (by omega) O dR ?_;refine kl1 O O hat<|kad O O w<|kfa O O ?_;refine K.indexArr O O (by omega) O dR ?_;refine bG O O O O (num_blt (i:=i) hi) ((num_set (i:=i) hi).trans (mid_step false ht1)) dR<|aB ?_)
        exact ⟨_,_,by omega,Le.of (by exact ⟨rfl,rfl,rfl,rfl,rfl,rfl,rfl,trivial⟩) (by exact ⟨rfl,rfl,rfl,rfl,rfl,rfl,trivial⟩) (by exact rfl) (by exact rfl) (by exact rfl),t+1,V-B,by rw [Nat.add_mul];omega,by omega,rfl,rfl⟩
end Go.Proofs.YtamplgnbbanamaaGreatDoor
end
section
namespace Go.Proofs.YtamplgnbbanamaaGreatDoor
open Go Go.Lg Go.Lg.Arith Go.Lg.Dec Go.Lg.Dig Go.RowKit
variable (X:Nat→Option Obj)
theorem mg_128 {x:Int} (hx:R127 x):(mg x).toNat<340282366920938463463374607431768211456:=by have:=mg_lim hx;have:=mg_nonneg x;omega
end Go.Proofs.YtamplgnbbanamaaGreatDoor
end
section
namespace Go.Lg
open Go Go.RowKit Go.Lg.Dig
theorem eqItems_ints {P:Program} (w:World) (d:Nat) {e:TypeId} (he:P.plainKey e=true) (hu:P.underlying e=some (.int .i64)) (xs ys:Array Value) (f g:Nat→Nat):∀ (is:List Nat),
    (∀ i∈is,xs[i]? = some (.int .i64 (f i:Nat))∧ys[i]? = some (.int .i64 (g i:Nat)))→(Op.eqItems (d+1) e 1 xs ys is).run P w = .ok (is.all fun i=>f i==g i) w
  | [],_=>by simp [Op.eqItems]
  | i::is,h=>by
    obtain ⟨h1,h2⟩:=h i (by simp)
    have ih:=eqItems_ints w d he hu xs ys f g is (fun j hj=>h j (by simp [hj]))
    have p1:=run_part_plain (xs:=xs) (off:=i) w he h1
    have p2:=run_part_plain (xs:=ys) (off:=i) w he h2
    have p3:=run_equalIn_int w d e .i64 .i64 ((f i:Nat):Int) ((g i:Nat):Int) hu
    have e3:(((f i:Nat):Int)==((g i:Nat):Int))=(f i==g i):=by
      by_cases c:f i=g i
      · simp [c]
      · rw [cR c,cR (by omega)]
    rw [e3] at p3
    simp only [Op.eqItems,Sem.run_bind,Nat.mul_one,p1,p2,p3,Result.andThen_ok,List.all_cons]
    cases hb:(f i==g i) with
    | false=>simp
    | true=>simpa using ih
theorem valsOf_dv:∀ (l:List Nat),valsOf (l.map dv)=some (l.map fun d=>.int .i64 (d:Nat))
  | []=>rfl
  | d::l=>by
    rw [List.map_cons,List.map_cons]
    show (valsOf (l.map dv)).map _=_
    rw [valsOf_dv l];rfl
theorem num_tail {b:Bool} {f:Nat→Nat}:((num b f).drop (0+1)).take 40=(dlf f).map dv:=by
  have h:((dlf f).map dv).length=40:=by simp [dlf]
  show ((dlf f).map dv).take 40=_
  rw [List.take_of_length_le (by omega)]
theorem num_ble {b:Bool} {f:Nat→Nat}:Nat.ble (0+1+40) (num b f).length=true:=by rw [num_length];rfl
theorem digits_zero {n:Nat}:∀ (k:Nat),(∀ i,i<k→dg n i=0)→n%256^k=0
  | 0,_=>by rw [Nat.pow_zero,Nat.mod_one]
  | k+1,h=>by rw [mod_next,digits_zero k (fun i hi=>h i (by omega)),h k (by omega)];omega
theorem zero_all {n:Nat} (h:n<256^40):((List.range 40).all fun i=>dg n i==(fun _=>0) i)=(n==0):=by
  by_cases c:n=0
  · subst c
    simp [dg_zero]
  · rw [cR c,List.all_eq_false]
    apply Classical.byContradiction
    intro hn
    have h0:=digits_zero (n:=n) 40 (fun i hi=>Classical.byContradiction fun hd=>hn ⟨i,List.mem_range.2 hi,by simpa using hd⟩)
    rw [Nat.mod_eq_of_lt h] at h0
    exact c h0
end Go.Lg
namespace Go.Proofs.YtamplgnbbanamaaGreatDoor
open Go Go.Lg Go.Lg.Arith Go.Lg.Dec Go.Lg.Dig Go.RowKit
variable (X:Nat→Option Obj)
theorem eq_zero (n:Nat) (h:n<T40) (w:World):
    (Op.equalIn 10000 159 (.agg ((dlf (dg n)).map fun d=>(.int .i64 (d:Nat):Value)).toArray) (.agg ((dlf (fun _=>0)).map fun d=>(.int .i64 (d:Nat):Value)).toArray)).run Tryz.prog w = .ok (n==0) w:=by
  obtain ⟨inf,hinf⟩:∃ inf,Tryz.prog.info? 3=some inf:=Option.isSome_iff_exists.1 (by kernel_rfl)
  rw [show (10000:Nat)=9998+1+1 from rfl,run_equalIn_array w (9998+1) _ _ Tryz.underlying159 hinf]
  rw [show Tryz.prog.cellsOf 3=1 by kernel_rfl]
  rw [eqItems_ints w 9998 (by kernel_rfl) Tryz.underlying3 _ _ (dg n) (fun _=>0) (List.range 40)]
  · rw [zero_all h]
  · intro i hi
    have hi':=List.mem_range.1 hi
    exact ⟨by simp [dlf,hi'],by simp [dlf,hi']⟩
instance:ArrB Tryz.prog 159 (List.replicate 40 (.int .i64 0)) 1:=⟨by kernel_rfl⟩
theorem Zero_spec (b:Bool) (n:Nat) (h:n<T40):PSpec Tryz.prog X 100 [LN b (dg n)] (Lb (n==0)):=by
  refine cF Tryz.func100 rfl (by kernel_rfl) rfl rfl ?_
  intro C
  (refine aA<|rgN<|aL O O O dR<|kas O<|aB<|aA<|rgN<|kfa O O ?_;refine bJ O O num_ble num_tail dR ?_;refine K.buildArr (cs':=(dlf fun _=>0).map dv) O O (by exact O) O dR ?_;refine bR O O (valsOf_dv _) (valsOf_dv (dlf fun _=>0)) (by kernel_rfl) (eq_zero n h) (.inl ⟨O,O⟩) dR<|kas O<|aB<|aI ?_)
  exact ⟨[_],⟨O,trivial⟩,O⟩
end Go.Proofs.YtamplgnbbanamaaGreatDoor
end
section
namespace Go.Proofs.YtamplgnbbanamaaGreatDoor
open Go Go.Lg Go.Lg.Arith Go.Lg.Dec Go.Lg.Dig Go.RowKit
variable (X:Nat→Option Obj)
theorem num_ten:(num false (fun _=>0)).set (1+0*1) (dv 10)=num false (dg 10):=by
  rw [num_set (i:=0) (d:=10) (by omega)]
  refine num_congr fun j _ => ?_
  by_cases c:j=0
  · subst c;rfl
  · rw [if_neg c,dg_high (n:=10) (Nat.lt_of_lt_of_le (by decide) (Nat.pow_le_pow_right (show 0<256 by decide) (show 1≤j by omega)))]
theorem bc_digit (n:Nat):bc (UInt8.ofNat (48+n%10)) = .val (.int .u8 (48+((n%10:Nat):Int))):=by
  unfold bc
  have:(UInt8.ofNat (48+n%10)).toNat=48+n%10:=by
    rw [UInt8.toNat_ofNat']
    exact Nat.mod_eq_of_lt (by omega)
  rw [this]
  congr 2
structure Half (M n:Nat) (s:List UInt8):Prop where
  more:s=[]∨n≠0→Lib.decDigits M=Lib.decDigits n++s
  done:s≠[]→n=0→Lib.decDigits M=s
theorem Half.next {M n:Nat} {s:List UInt8} (h:Half M n s) (hc:s=[]∨n≠0):Half M (n/10) (UInt8.ofNat (48+n%10)::s):=by
  have hm:=h.more hc
  by_cases h10:n<10
  · have e:Lib.decDigits n=[UInt8.ofNat (48+n%10)]:=by rw [Lib.decDigits_one h10,Nat.mod_eq_of_lt h10]
    rw [e] at hm
    exact ⟨fun hq=>by rcases hq with hq|hq;(cases hq);(exact absurd (show n/10=0 by omega) hq),fun _ _=>hm⟩
  · have e:Lib.decDigits n=Lib.decDigits (n/10)++[UInt8.ofNat (48+n%10)]:=by
      conv=>lhs;rw [Lib.decDigits,dif_neg h10]
    rw [e,dM] at hm
    exact ⟨fun _=>hm,fun _ hq=>by omega⟩
theorem Half.len {M n:Nat} {s:List UInt8} (h:Half M n s):s.length≤(Lib.decDigits M).length:=by
  by_cases hc:s=[]∨n≠0
  · rw [h.more hc,cV];omega
  · rw [h.done (fun e=>hc (.inl e)) (Classical.byContradiction fun e=>hc (.inr e))];exact dN _
set_option maxHeartbeats 6400000 in
theorem RText_false (x:Int) (hx:R127 x) (hn:decide (x<0)=false):PSpec Tryz.prog X 89 [LQ x] (Ls (textQ x)):=by
  have hG:=Good_spec X _ _ (mg_in2 hx) true (formB_q hx)
  have hF:=From_q X x hx
  have hM:=mg_128 hx
  have hlen:(Lib.decDigits (mg x).toNat).length≤39:=by
    rw [Lib.decDigits_length]
    have:=mg_lim hx
    have:=mg_nonneg x
    exact nDigits_le 38 _ (by omega)
  have hT:textQ x=(if false=true then [45] else [])++Lib.decDigits (mg x).toNat:=by
    unfold textQ
    first
    | (have:=of_decide_eq_true hn;rw [if_pos this];rfl)
    | (have:=of_decide_eq_false hn;rw [if_neg this];rfl)
  rw [hT]
  unfold LQ at hF ⊢
  rw [hn] at hG hF ⊢
  generalize (mg x).toNat=M at *
  refine cF Tryz.func89 rfl (by kernel_rfl) rfl rfl ?_
  intro C
  (refine aA<|rgN<|aL O O O dR<|kas O<|aB<|aA<|aA<|rgN<|aK O O O dR ?_;refine kca O O (hG)<|aV O O dR<|aB<|aF O ?_;refine aH ?_;refine aA<|rgN<|aK O O O dR ?_;refine kca O O (hF)<|aP O dR ?_;refine aM O O O O O O dR ?_;refine aB<|aA<|rgN<|kfa O O ?_;refine bG O O O O num_blt0 num_sign dR<|aB<|aA<|rgN<|aT O O (by exact O) (by exact O) dR ?_;refine aP O dR ?_;refine aM O O O O O O dR ?_;refine aB<|aA<|rgN<|kfa O O ?_;refine K.indexArr O O (by omega) O dR ?_;refine bG O O O O (num_blt (f:=fun _=>0) (i:=0) (by omega)) num_ten dR<|aB<|aA<|rgN<|kas O<|aB<|aA<|aG ?_)
  refine cL (fun m σ=>∃ (N:Nat) (s:List UInt8),N<340282366920938463463374607431768211456∧Half M N s∧m=N+(if s=[] then 1 else 0)∧σ=⟨[(1,.sv (.one (.ptr 1 0))),(3,.sv (.one (.ptr 3 0))),(4,.sv (.one (.ptr 4 0))),(5,Ls s)],[(1,some { elem:=64,cells:=[.val (.bool false),.val (.int .u64 (mg x/18446744073709551616)),.val (.int .u64 (mg x%18446744073709551616))] }),(3,some { elem:=161,cells:=num false (dg N) }),(4,some { elem:=161,cells:=num false (dg 10) })],X⟩) (M+1)
    ⟨_,Le.of (by exact ⟨rfl,rfl,rfl,rfl,trivial⟩) (by exact ⟨rfl,rfl,rfl,trivial⟩) (by exact rfl) (by exact rfl) (by exact rfl),M,[],hM,⟨fun _=>(dJ _).symm,fun h=>absurd rfl h⟩,rfl,rfl⟩ ?_
  rintro m σ ⟨N,s,hN,hH,rfl,rfl⟩
  have hN40:=lim40 hN
  have hsl:=hH.len
  have hs1:(⟨s.toArray⟩:ByteArray).size=s.length:=rfl
  by_cases hgo:s=[]∨N≠0
  · have hdv:=Parted_spec X false false N 10 hN40 (by decide) (by decide)
    have hZ:=Zero_spec X false N hN40
    have hnx:=hH.next hgo
    have hdig:dg (N%10) 0=N%10:=by unfold dg;rw [Nat.pow_zero,Nat.div_one];omega
    have hat:(num false (dg (N%10)))[1+0*1]? = some (dv (N%10)):=by rw [num_at (by omega),hdig]
    have hl:([CV.val (.int .u8 (48+((N%10:Nat):Int)))].drop 0).take 1=[UInt8.ofNat (48+N%10)].map bc:=by
      rw [List.map_cons,bc_digit];rfl
    have hq:N/10≤N:=Nat.div_le_self _ _
    have hr10:N%10<10:=Nat.mod_lt _ (by decide)
    have hsz1:(⟨[UInt8.ofNat (48+N%10)].toArray⟩:ByteArray).size=1:=rfl
    have hcase:((s==[])=true)∨((s==[])=false∧(N==0)=false):=by
      cases s with
      | nil=>exact .inl rfl
      | cons a b=>exact .inr ⟨rfl,cR (by rcases hgo with h|h;(cases h);(exact h))⟩
    have hdec:N/10+(if (UInt8.ofNat (48+N%10)::s)=[] then 1 else 0)<N+(if s=[] then 1 else 0):=by
      rw [if_neg (by simp)]
      rcases hgo with h|h
      · rw [if_pos h];omega
      · omega
    rcases hcase with he|⟨he,hz⟩
    · (refine aA<|aA<|rgN<|kmv O<|kse O O (strs_eq he)<|kmv O<|aC O O O<|aC O O O<|aC O O O<|kpt O O<|aB<|aE O ?_;refine aH ?_;refine aG<|aA<|rgN<|aK O O O dR ?_;refine aK O O O dR ?_;refine kca O O (hdv)<|kmv O<|kex O O<|kex O O<|aP O dR ?_;refine aP O dR ?_;refine aM O O O O O O dR ?_;refine aM O O O O O O dR ?_;refine aB<|aA<|rgN<|kfa O O ?_;refine K.indexArr O O (by omega) O dR ?_;refine kl1 O O hat<|kad O O (cH (by omega))<|kcv O (by exact wrap_u8 (by omega)) ?_;refine aZ (zs:=[.int .u8 0]) (sz:=1) (e:=5) (by kernel_rfl) O O O O O O dR<|bS O O (by kernel_rfl) StrT.u (dN _) hl dR<|kmv O<|bM O O (by omega) (str_add _ _) dR<|kas O<|aB<|rgN<|aK O O O dR ?_;refine aM O O O O O O dR ?_;refine aB ?_)
      exact ⟨_,_,hdec,Le.of (by exact ⟨O,O,O,O,trivial⟩) (by exact ⟨O,O,O,trivial⟩) (by exact O) (by exact O) (by exact O),N/10,_,by omega,hnx,O,O⟩
    · rw [hz] at hZ
      (refine aA<|aA<|rgN<|kmv O<|kse O O (strs_eq he)<|kmv O<|aK O O O (dS O O) ?_;refine gca O O (hZ) O O<|aV O O (dS O O) ?_;refine kpf O O<|aB<|aE O ?_;refine aH ?_;refine aG<|aA<|rgN<|aK O O O dR ?_;refine aK O O O dR ?_;refine kca O O (hdv)<|kmv O<|kex O O<|kex O O<|aP O dR ?_;refine aP O dR ?_;refine aM O O O O O O dR ?_;refine aM O O O O O O dR ?_;refine aB<|aA<|rgN<|kfa O O ?_;refine K.indexArr O O (by omega) O dR ?_;refine kl1 O O hat<|kad O O (cH (by omega))<|kcv O (by exact wrap_u8 (by omega)) ?_;refine aZ (zs:=[.int .u8 0]) (sz:=1) (e:=5) (by kernel_rfl) O O O O O O dR<|bS O O (by kernel_rfl) StrT.u (dN _) hl dR<|kmv O<|bM O O (by omega) (str_add _ _) dR<|kas O<|aB<|rgN<|aK O O O dR ?_;refine aM O O O O O O dR ?_;refine aB ?_)
      exact ⟨_,_,hdec,Le.of (by exact ⟨O,O,O,O,trivial⟩) (by exact ⟨O,O,O,trivial⟩) (by exact O) (by exact O) (by exact O),N/10,_,by omega,hnx,O,O⟩
  · have hne:s≠[]:=fun e=>hgo (.inl e)
    have hz:N=0:=Classical.byContradiction fun e=>hgo (.inr e)
    subst hz
    have hd:=hH.done hne rfl
    have he:(s==[])=false:=cR hne
    have hZ:=Zero_spec X false 0 hN40
    have hs39:(⟨s.toArray⟩:ByteArray).size≤39:=by omega
    rw [hd]
    (refine aA<|aA<|rgN<|kmv O<|kse O O (strs_eq he)<|kmv O<|aK O O O (dS O O) ?_;refine gca O O (hZ) O O<|aV O O (dS O O) ?_;refine kpf O O<|aB<|aF O ?_;refine aJ<|aA<|aA<|rgN<|kfa O O ?_;refine kl1 O O O<|aB<|aF O ?_;refine aH ?_;refine aA<|rgN<|kmv O<|kas O<|aB<|aI ?_)
    exact ⟨[_],⟨O,trivial⟩,O⟩
theorem RText_true (x:Int) (hx:R127 x) (hn:decide (x<0)=true):PSpec Tryz.prog X 89 [LQ x] (Ls (textQ x)):=by
  have hG:=Good_spec X _ _ (mg_in2 hx) true (formB_q hx)
  have hF:=From_q X x hx
  have hM:=mg_128 hx
  have hlen:(Lib.decDigits (mg x).toNat).length≤39:=by
    rw [Lib.decDigits_length]
    have:=mg_lim hx
    have:=mg_nonneg x
    exact nDigits_le 38 _ (by omega)
  have hT:textQ x=(if true=true then [45] else [])++Lib.decDigits (mg x).toNat:=by
    unfold textQ
    first
    | (have:=of_decide_eq_true hn;rw [if_pos this];rfl)
    | (have:=of_decide_eq_false hn;rw [if_neg this];rfl)
  rw [hT]
  unfold LQ at hF ⊢
  rw [hn] at hG hF ⊢
  generalize (mg x).toNat=M at *
  refine cF Tryz.func89 rfl (by kernel_rfl) rfl rfl ?_
  intro C
  (refine aA<|rgN<|aL O O O dR<|kas O<|aB<|aA<|aA<|rgN<|aK O O O dR ?_;refine kca O O (hG)<|aV O O dR<|aB<|aF O ?_;refine aH ?_;refine aA<|rgN<|aK O O O dR ?_;refine kca O O (hF)<|aP O dR ?_;refine aM O O O O O O dR ?_;refine aB<|aA<|rgN<|kfa O O ?_;refine bG O O O O num_blt0 num_sign dR<|aB<|aA<|rgN<|aT O O (by exact O) (by exact O) dR ?_;refine aP O dR ?_;refine aM O O O O O O dR ?_;refine aB<|aA<|rgN<|kfa O O ?_;refine K.indexArr O O (by omega) O dR ?_;refine bG O O O O (num_blt (f:=fun _=>0) (i:=0) (by omega)) num_ten dR<|aB<|aA<|rgN<|kas O<|aB<|aA<|aG ?_)
  refine cL (fun m σ=>∃ (N:Nat) (s:List UInt8),N<340282366920938463463374607431768211456∧Half M N s∧m=N+(if s=[] then 1 else 0)∧σ=⟨[(1,.sv (.one (.ptr 1 0))),(3,.sv (.one (.ptr 3 0))),(4,.sv (.one (.ptr 4 0))),(5,Ls s)],[(1,some { elem:=64,cells:=[.val (.bool true),.val (.int .u64 (mg x/18446744073709551616)),.val (.int .u64 (mg x%18446744073709551616))] }),(3,some { elem:=161,cells:=num false (dg N) }),(4,some { elem:=161,cells:=num false (dg 10) })],X⟩) (M+1)
    ⟨_,Le.of (by exact ⟨rfl,rfl,rfl,rfl,trivial⟩) (by exact ⟨rfl,rfl,rfl,trivial⟩) (by exact rfl) (by exact rfl) (by exact rfl),M,[],hM,⟨fun _=>(dJ _).symm,fun h=>absurd rfl h⟩,rfl,rfl⟩ ?_
  rintro m σ ⟨N,s,hN,hH,rfl,rfl⟩
  have hN40:=lim40 hN
  have hsl:=hH.len
  have hs1:(⟨s.toArray⟩:ByteArray).size=s.length:=rfl
  by_cases hgo:s=[]∨N≠0
  · have hdv:=Parted_spec X false false N 10 hN40 (by decide) (by decide)
    have hZ:=Zero_spec X false N hN40
    have hnx:=hH.next hgo
    have hdig:dg (N%10) 0=N%10:=by unfold dg;rw [Nat.pow_zero,Nat.div_one];omega
    have hat:(num false (dg (N%10)))[1+0*1]? = some (dv (N%10)):=by rw [num_at (by omega),hdig]
    have hl:([CV.val (.int .u8 (48+((N%10:Nat):Int)))].drop 0).take 1=[UInt8.ofNat (48+N%10)].map bc:=by
      rw [List.map_cons,bc_digit];rfl
    have hq:N/10≤N:=Nat.div_le_self _ _
    have hr10:N%10<10:=Nat.mod_lt _ (by decide)
    have hsz1:(⟨[UInt8.ofNat (48+N%10)].toArray⟩:ByteArray).size=1:=rfl
    have hcase:((s==[])=true)∨((s==[])=false∧(N==0)=false):=by
      cases s with
      | nil=>exact .inl rfl
      | cons a b=>exact .inr ⟨rfl,cR (by rcases hgo with h|h;(cases h);(exact h))⟩
    have hdec:N/10+(if (UInt8.ofNat (48+N%10)::s)=[] then 1 else 0)<N+(if s=[] then 1 else 0):=by
      rw [if_neg (by simp)]
      rcases hgo with h|h
      · rw [if_pos h];omega
      · omega
    rcases hcase with he|⟨he,hz⟩
    · (refine aA<|aA<|rgN<|kmv O<|kse O O (strs_eq he)<|kmv O<|aC O O O<|aC O O O<|aC O O O<|kpt O O<|aB<|aE O ?_;refine aH ?_;refine aG<|aA<|rgN<|aK O O O dR ?_;refine aK O O O dR ?_;refine kca O O (hdv)<|kmv O<|kex O O<|kex O O<|aP O dR ?_;refine aP O dR ?_;refine aM O O O O O O dR ?_;refine aM O O O O O O dR ?_;refine aB<|aA<|rgN<|kfa O O ?_;refine K.indexArr O O (by omega) O dR ?_;refine kl1 O O hat<|kad O O (cH (by omega))<|kcv O (by exact wrap_u8 (by omega)) ?_;refine aZ (zs:=[.int .u8 0]) (sz:=1) (e:=5) (by kernel_rfl) O O O O O O dR<|bS O O (by kernel_rfl) StrT.u (dN _) hl dR<|kmv O<|bM O O (by omega) (str_add _ _) dR<|kas O<|aB<|rgN<|aK O O O dR ?_;refine aM O O O O O O dR ?_;refine aB ?_)
      exact ⟨_,_,hdec,Le.of (by exact ⟨O,O,O,O,trivial⟩) (by exact ⟨O,O,O,trivial⟩) (by exact O) (by exact O) (by exact O),N/10,_,by omega,hnx,O,O⟩
    · rw [hz] at hZ
      (refine aA<|aA<|rgN<|kmv O<|kse O O (strs_eq he)<|kmv O<|aK O O O (dS O O) ?_;refine gca O O (hZ) O O<|aV O O (dS O O) ?_;refine kpf O O<|aB<|aE O ?_;refine aH ?_;refine aG<|aA<|rgN<|aK O O O dR ?_;refine aK O O O dR ?_;refine kca O O (hdv)<|kmv O<|kex O O<|kex O O<|aP O dR ?_;refine aP O dR ?_;refine aM O O O O O O dR ?_;refine aM O O O O O O dR ?_;refine aB<|aA<|rgN<|kfa O O ?_;refine K.indexArr O O (by omega) O dR ?_;refine kl1 O O hat<|kad O O (cH (by omega))<|kcv O (by exact wrap_u8 (by omega)) ?_;refine aZ (zs:=[.int .u8 0]) (sz:=1) (e:=5) (by kernel_rfl) O O O O O O dR<|bS O O (by kernel_rfl) StrT.u (dN _) hl dR<|kmv O<|bM O O (by omega) (str_add _ _) dR<|kas O<|aB<|rgN<|aK O O O dR ?_;refine aM O O O O O O dR ?_;refine aB ?_)
      exact ⟨_,_,hdec,Le.of (by exact ⟨O,O,O,O,trivial⟩) (by exact ⟨O,O,O,trivial⟩) (by exact O) (by exact O) (by exact O),N/10,_,by omega,hnx,O,O⟩
  · have hne:s≠[]:=fun e=>hgo (.inl e)
    have hz:N=0:=Classical.byContradiction fun e=>hgo (.inr e)
    subst hz
    have hd:=hH.done hne rfl
    have he:(s==[])=false:=cR hne
    have hZ:=Zero_spec X false 0 hN40
    have hs39:(⟨s.toArray⟩:ByteArray).size≤39:=by omega
    rw [hd]
    (refine aA<|aA<|rgN<|kmv O<|kse O O (strs_eq he)<|kmv O<|aK O O O (dS O O) ?_;refine gca O O (hZ) O O<|aV O O (dS O O) ?_;refine kpf O O<|aB<|aF O ?_;refine aJ<|aA<|aA<|rgN<|kfa O O ?_;refine kl1 O O O<|aB<|aE O ?_;refine rgN<|kmv O<|bM O O (Nat.le_trans (Nat.add_le_add_left hs39 _) (by decide)) (str_add [45] _) dR<|kas O<|aB<|aA<|rgN<|kmv O<|kas O<|aB<|aI ?_)
    exact ⟨[_],⟨O,trivial⟩,O⟩
theorem RText_spec (x:Int) (hx:R127 x):PSpec Tryz.prog X 89 [LQ x] (Ls (textQ x)):=by
  cases h:decide (x<0) with
  | false=>exact RText_false X x hx h
  | true=>exact RText_true X x hx h
end Go.Proofs.YtamplgnbbanamaaGreatDoor
end
section
namespace Go.Lg.Fml
end Go.Lg.Fml
namespace Go.Proofs.YtamplgnbbanamaaGreatDoor
open Go Go.Lg Go.Lg.Fml Go.Lg.Fld Go.Lg.Arith Go.Lg.Sg
set_option maxRecDepth 100000
variable (X:Nat→Option Obj)
instance:ArrB Tryz.prog 148 (List.replicate 18 (.string ⟨#[]⟩)) 1:=⟨by kernel_rfl⟩
theorem joinS_snoc:∀ (l:List (List UInt8)) (x:List UInt8),joinS (l++[x])=if l=[] then x else (joinS l++[44])++x
  | [],x=>rfl
  | [a],x=>rfl
  | a::b::t,x=>by
    have h:=joinS_snoc (b::t) x
    rw [if_neg (by simp)] at h ⊢
    simp only [List.cons_append,joinS] at h ⊢
    rw [h]
    simp only [dM]
def wdsX:List (List UInt8):=[[],[],[],[],[],[97,100,100],[115,117,98],[109,117,108],[113,117,111],[114,101,109],[110,101,103],[108,101,97,115,116],[103,114,101,97,116],[115,97,109,101],[108,101,115,115],[110,111,116],[112,105,99,107],[110,101,101,100]]
theorem word_at {op:Int} (h:5≤op∧op≤17):(wdsX.map fun l=>CV.val (.string ⟨l.toArray⟩))[op.toNat]? = some (CV.val (.string ⟨(wordX op).toArray⟩)):=by
  rcases (show op=5∨op=6∨op=7∨op=8∨op=9∨op=10∨op=11∨op=12∨op=13∨op=14∨op=15∨op=16∨op=17 by omega) with rfl|rfl|rfl|rfl|rfl|rfl|rfl|rfl|rfl|rfl|rfl|rfl|rfl<;>rfl
theorem word_len (op:Int):(wordX op).length≤5:=by
  have key:∀ (c:Prop) [Decidable c] (a b:List UInt8),a.length≤5→b.length≤5→(if c then a else b).length≤5:=fun c _ a b h1 h2=>by
    by_cases h:c
    · rw [if_pos h];exact h1
    · rw [if_neg h];exact h2
  unfold wordX
  repeat (refine key _ _ _ (by decide) ?_)
  decide
theorem evL_txt:∀ us:List Tr,evL oneS us = .ok (us.map Tr.txt)
  | []=>rfl
  | a::us=>by simp only [evL,ev_txt a,evL_txt us,List.map_cons]
theorem txt_top (t:Tr):Tr.txt t=if takes t.top.op=0 then leafS t.top else ((wordX t.top.op++[40])++joinS (t.args.map Tr.txt))++[41]:=by
  have h:=ev_txt t
  rw [ev_args,evL_txt] at h
  simp only [oneS,Except.ok.injEq] at h
  exact h.symm
theorem joinS_len:∀ {l:List (List UInt8)} {n:Nat},l.length≤3→(l.map List.length).sum≤n→(joinS l).length≤n+2
  | [],n,_,h=>by simp [joinS]
  | [a],n,_,h=>by simp [joinS] at h ⊢;omega
  | [a,b],n,_,h=>by simp [joinS] at h ⊢;omega
  | [a,b,c],n,_,h=>by simp [joinS] at h ⊢;omega
  | _::_::_::_::_,n,hl,h=>by simp at hl
theorem textQ_len {z:Int} (h:R127 z):(textQ z).length≤40:=by
  have h1:(Lib.decDigits (mg z).toNat).length≤39:=by
    rw [Lib.decDigits_length]
    have:=mg_lim h
    exact Dec.nDigits_le 38 _ (by omega)
  unfold textQ
  split
  · rw [dI];omega
  · omega
theorem leafS_len {x:Ins} (hx:okI x=true) (h2:In2 x.k.2):(leafS x).length≤50:=by
  obtain ⟨_,hg,ha,hb⟩:=okI_facts hx
  unfold leafS dg1
  have la:=Lib.itoa_length_le x.a (by omega) (by omega)
  have lb:=Lib.itoa_length_le x.b (by omega) (by omega)
  have hq:=textQ_len (zv_in h2 hg).1
  split
  · exact Nat.le_trans hq (by decide)
  · split
    · simp only [cV,cY];omega
    · split
      · simp only [cV,cY];omega
      · simp
theorem txt_len:∀ {t:Tr},t.ok→(∀ x∈t.flat,okI x=true∧In2 x.k.2)→(Tr.txt t).length≤50*t.flat.length
  | .n0 x,ht,h=>by
    rw [txt_top,if_pos (show takes (Tr.n0 x).top.op=0 from ht)]
    have:=h x (by simp [Tr.flat])
    have:=leafS_len this.1 this.2
    simp only [Tr.top,Tr.flat,cY];omega
  | .n1 x a,ht,h=>by
    have h1:=txt_len ht.2 (fun y hy=>h y (by simp [Tr.flat,hy]))
    have hw:=word_len x.op
    have hj:=joinS_len (l:=[Tr.txt a]) (n:=(Tr.txt a).length) (by simp) (by simp)
    rw [txt_top,if_neg (show ¬ takes (Tr.n1 x a).top.op=0 by show ¬ takes x.op=0;rw [ht.1];decide)]
    simp only [Tr.args,Tr.top,List.map_cons,List.map_nil,cV,cY,Tr.flat] at hj ⊢
    omega
  | .n2 x a b,ht,h=>by
    have h1:=txt_len ht.2.1 (fun y hy=>h y (by simp [Tr.flat,hy]))
    have h2:=txt_len ht.2.2 (fun y hy=>h y (by simp [Tr.flat,hy]))
    have hw:=word_len x.op
    have hj:=joinS_len (l:=[Tr.txt a,Tr.txt b]) (n:=(Tr.txt a).length+(Tr.txt b).length) (by simp) (by simp)
    rw [txt_top,if_neg (show ¬ takes (Tr.n2 x a b).top.op=0 by show ¬ takes x.op=0;rw [ht.1];decide)]
    simp only [Tr.args,Tr.top,List.map_cons,List.map_nil,cV,cY,Tr.flat] at hj ⊢
    omega
  | .n3 x a b c,ht,h=>by
    have h1:=txt_len ht.2.1 (fun y hy=>h y (by simp [Tr.flat,hy]))
    have h2:=txt_len ht.2.2.1 (fun y hy=>h y (by simp [Tr.flat,hy]))
    have h3:=txt_len ht.2.2.2 (fun y hy=>h y (by simp [Tr.flat,hy]))
    have hw:=word_len x.op
    have hj:=joinS_len (l:=[Tr.txt a,Tr.txt b,Tr.txt c]) (n:=(Tr.txt a).length+((Tr.txt b).length+(Tr.txt c).length)) (by simp) (by simp)
    rw [txt_top,if_neg (show ¬ takes (Tr.n3 x a b c).top.op=0 by show ¬ takes x.op=0;rw [ht.1];decide)]
    simp only [Tr.args,Tr.top,List.map_cons,List.map_nil,cV,cY,Tr.flat] at hj ⊢
    omega
end Go.Proofs.YtamplgnbbanamaaGreatDoor
end
section
namespace Go.Proofs.YtamplgnbbanamaaGreatDoor
open Go Go.Lg Go.Lg.Fml Go.Lg.Fld
def findP (l:List Rl) (id:Int):Option Rl:=l.find? fun r=>r.nw==id
def fromP (l:List Rl) (old:Int):List Int:=if old=0 then [] else (l.filter fun r=>r.old==old).map Rl.nw
def tailL:List (List Ins)→List UInt8
  | []=>[]
  | c::t=>(32::showX c)++tailL t
def lineR (r:Rl):List UInt8:=if r.old=0 then [102,114,101,115,104,32]++dg1 r.nw else ((dg1 r.nw++[32,102,114,111,109,32])++dg1 r.old)++tailL r.ex
theorem tailL_app:∀ (a b:List (List Ins)),tailL (a++b)=tailL a++tailL b
  | [],_=>rfl
  | c::t,b=>by simp only [List.cons_append,tailL,tailL_app t b,dM]
theorem showX_len (c:List Ins) (hi:∀ x∈c,In2 x.k.2):(showX c).length≤3200:=by
  by_cases h:chkX c=0
  · obtain ⟨t,ht,hl⟩:=parse (chkX_zero h).2
    rw [showX_tree h ht hl]
    have h1:=txt_len ht (fun x hx=>⟨chkX_ok h x (by rw [← hl];exact hx),hi x (by rw [← hl];exact hx)⟩)
    have:=(chkX_zero h).1
    rw [hl] at h1
    omega
  · unfold showX;rw [if_neg h];simp
theorem tailL_len:∀ (l:List (List Ins)),(∀ c∈l,∀ x∈c,In2 x.k.2)→(tailL l).length≤3201*l.length
  | [],_=>by simp [tailL]
  | c::t,h=>by
    have h1:=showX_len c (h c (by simp))
    have h2:=tailL_len t (fun d hd=>h d (by simp [hd]))
    simp only [tailL,cV,dI]
    omega
structure CodesIn (X:Nat→Option Obj) (ad:Option Addr) (cs:List (List Ins)):Prop where
  at_:∀ (i:Nat) (c:List Ins),cs[i]? = some c→∃ (blk off:Nat) (arr:Array Value) (el:TypeId) (fr:Nat×Nat) (vad:Option Addr) (vcap:Nat),ad=some ⟨blk,off,none⟩∧X blk=some (.cells arr el fr)∧off+i*1+1≤arr.size∧arr[off+i]? = some (.slice vad c.length vcap)∧InsIn X vad c
theorem CodesIn.mono {X Y:Nat→Option Obj} (hXY:∀ b o,X b=some o→Y b=some o) {ad:Option Addr} {cs:List (List Ins)} (h:CodesIn X ad cs):CodesIn Y ad cs:=⟨fun i c hc=>by
  obtain ⟨blk,off,arr,el,fr,vad,vcap,h1,h2,h3,h4,h5⟩:=h.at_ i c hc
  exact ⟨blk,off,arr,el,fr,vad,vcap,h1,hXY _ _ h2,h3,h4,h5.mono hXY⟩⟩
theorem CodesIn.nil {X:Nat→Option Obj} {ad:Option Addr}:CodesIn X ad []:=⟨fun i c h=>by simp at h⟩
theorem CodesIn.in2 {X:Nat→Option Obj} {ad:Option Addr} {cs:List (List Ins)} (h:CodesIn X ad cs):∀ c∈cs,∀ x∈c,In2 x.k.2:=fun c hc x hx=>by
  obtain ⟨i,hi,e⟩:=List.getElem_of_mem hc
  obtain ⟨_,_,_,_,_,_,_,_,_,_,_,h5⟩:=h.at_ i c (by rw [cX hi,e])
  exact (h5.small x hx).2.2.2
def smallR (r:Rl):Prop:=(-9223372036854775808≤r.nw∧r.nw<9223372036854775808)∧(-9223372036854775808≤r.old∧r.old<9223372036854775808)
structure RulesIn (X:Nat→Option Obj) (ad:Option Addr) (rs:List Rl):Prop where
  at_:∀ (i:Nat) (r:Rl),rs[i]? = some r→∃ (blk off:Nat) (arr:Array Value) (el:TypeId) (fr:Nat×Nat) (ead:Option Addr) (ecap:Nat),ad=some ⟨blk,off,none⟩∧X blk=some (.cells arr el fr)∧off+i*3+3≤arr.size∧(arr.toList.drop (off+i*3)).take 3=[.int .i64 r.nw,.int .i64 r.old,.slice ead r.ex.length ecap]∧CodesIn X ead r.ex
  small:∀ r∈rs,smallR r
theorem RulesIn.mono {X Y:Nat→Option Obj} (hXY:∀ b o,X b=some o→Y b=some o) {ad:Option Addr} {rs:List Rl} (h:RulesIn X ad rs):RulesIn Y ad rs:=⟨fun i c hc=>by
  obtain ⟨blk,off,arr,el,fr,vad,vcap,h1,h2,h3,h4,h5⟩:=h.at_ i c hc
  exact ⟨blk,off,arr,el,fr,vad,vcap,h1,hXY _ _ h2,h3,h4,h5.mono hXY⟩,h.small⟩
theorem RulesIn.nil {X:Nat→Option Obj} {ad:Option Addr}:RulesIn X ad []:=⟨fun i c h=>by simp at h,fun r hr=>by cases hr⟩
theorem RulesIn.in2 {X:Nat→Option Obj} {ad:Option Addr} {rs:List Rl} (h:RulesIn X ad rs):∀ r∈rs,∀ c∈r.ex,∀ x∈c,In2 x.k.2:=fun r hr=>by
  obtain ⟨i,hi,e⟩:=List.getElem_of_mem hr
  obtain ⟨_,_,_,_,_,_,_,_,_,_,_,h5⟩:=h.at_ i r (by rw [cX hi,e])
  exact h5.in2
theorem RulesIn.get {X:Nat→Option Obj} {ad:Option Addr} {rs:List Rl} (h:RulesIn X ad rs) {i:Nat} {r:Rl} (hr:rs[i]? = some r):∃ (blk off:Nat) (arr:Array Value) (el:TypeId) (fr:Nat×Nat) (ead:Option Addr) (ecap:Nat),ad=some ⟨blk,off,none⟩∧X blk=some (.cells arr el fr)∧off+i*3+3≤arr.size ∧
    ((arr.toList.drop (off+i*3)).take 3).map CV.val=[.val (.int .i64 r.nw),.val (.int .i64 r.old),.val (.slice ead r.ex.length ecap)]∧arr[off+i*3]? = some (.int .i64 r.nw)∧arr[off+i*3+1]? = some (.int .i64 r.old)∧arr[off+i*3+2]? = some (.slice ead r.ex.length ecap)∧CodesIn X ead r.ex:=by
  obtain ⟨blk,off,arr,el,fr,ead,ecap,h1,h2,h3,h4,h5⟩:=h.at_ i r hr
  have key:∀ j,j<3→arr[off+i*3+j]? = ([.int .i64 r.nw,.int .i64 r.old,.slice ead r.ex.length ecap]:List Value)[j]? := fun j hj=>by
    rw [← h4,List.getElem?_take,if_pos hj,List.getElem?_drop,Array.getElem?_toList]
  exact ⟨blk,off,arr,el,fr,ead,ecap,h1,h2,h3,by rw [h4];rfl,key 0 (by omega),key 1 (by omega),key 2 (by omega),h5⟩
def sizeR (rs:List Rl):Prop := ∀ r∈rs,r.ex.length<1152921504606846976∧∀ c∈r.ex,c.length<1152921504606846976
end Go.Proofs.YtamplgnbbanamaaGreatDoor
end
section
namespace Go.Proofs.YtamplgnbbanamaaGreatDoor
open Go Go.Lg Go.Lg.Fml Go.Lg.Fld Go.Lg.Arith
set_option maxRecDepth 100000
variable (X:Nat→Option Obj)
theorem wrap_o8 (n:Int):IntKind.u8.wrap n=((o8 n).toNat:Nat):=by
  unfold o8
  rw [UInt8.toNat_ofNat',IntKind.wrap_u8]
  omega
set_option maxHeartbeats 1600000 in
theorem rWord_spec (n:Nat) (hn:n<18446744073709551616):PSpec Tryz.prog X 50 [Ln .u64 (n:Nat)] (Ls (leB 8 n)):=by
  refine cF Tryz.func50 rfl (by kernel_rfl) rfl rfl ?_
  intro C
  (refine aA<|rgN<|kas O<|aB<|aA<|rgN<|aZ (zs:=[]) (sz:=1) (e:=5) (by kernel_rfl) O O O O O O dR<|kas O<|aB<|aA<|aA<|rgN<|kas O<|aB ?_;refine aG ?_)
  refine cL (fun m σ=>∃ (i:Nat) (row:Bool),i≤8∧m=8-i∧σ=⟨[(0,Ln .u64 (n/256^i:Nat)),(3,.sv (.one (.slc 500 0 i))),(4,Ln .i64 (i:Nat))],[(500,some ⟨5,((leB 8 n).take i).map bc,row⟩)],X⟩) 8
    ⟨_,Le.ofR [(500,5)] (by exact ⟨by rw [Nat.pow_zero,Nat.div_one];rfl,rfl,rfl,trivial⟩) (by repeat' (first|exact trivial|refine cQ ⟨_,rfl,?_⟩ ?_|refine cQ ⟨_,rfl⟩ ?_|rfl|exact bX _ _ _ _|exact bY _ _ _ _|exact bZ rfl)) (by exact rfl) (by exact rfl) (by repeat' (first|refine bT ?_ ?_|rfl|exact bV|exact bU|exact bW rfl)) (by exact rfl) (by exact rfl),0,false,Nat.zero_le _,rfl,rfl⟩ ?_
  rintro m σ ⟨i,row,hi,rfl,rfl⟩
  by_cases hlt:i<8
  · have hle:n/256^i≤n:=Nat.div_le_self _ _
    have hd:n/256^i/256=n/256^(i+1):=by rw [Nat.pow_succ,Nat.div_div_eq_div_mul]
    have hnc:=take_next (n:=n) hlt
    have hcl:(((leB 8 n).take i).map bc).length=i*1:=by rw [cW,cZ,leB_length];omega
    have hv:IntKind.u8.wrap (((n/256^i:Nat):Int)%256)=((UInt8.ofNat (n/256^i%256)).toNat:Nat):=by
      rw [UInt8.toNat_ofNat',Nat.mod_eq_of_lt (Nat.mod_lt _ (by decide)),IntKind.wrap_u8]
      omega
    have hq:IntKind.u64.wrap (((n/256^i:Nat):Int).tdiv 256)=((n/256^(i+1):Nat):Int):=by
      rw [← hd]
      clear hv hnc hd
      generalize n/256^i=q at *
      rw [quo_u64 (by omega) (by omega)];omega
    have hadd:IntKind.i64.wrap ((i:Int)+1)=((i+1:Nat):Int):=by rw [cH (by omega)];omega
    (refine aA<|aA<|rgN<|kmv O<|klt O O (cP (by omega))<|aB<|aE O ?_;refine aH ?_;refine aA<|aG<|aA<|rgN<|kmv O<|kmv O<|K.rem O O (by omega) O dR<|kcv O hv ?_;refine aZ (zs:=[.int .u8 0]) (sz:=1) (e:=5) (by kernel_rfl) O O O O O O dR<|bQ (by_:=1) (e2:=5) (l2:=[bc (UInt8.ofNat (n/256^i%256))]) O O hcl O O (dN _) O O (by kernel_rfl) (by kernel_rfl) (by omega) (by omega) O O hnc dR<|kas O<|aB<|rgN<|kmv O<|K.quo O O (by omega) hq dR<|kas O<|aB<|rgN<|kmv O<|kad O O hadd<|kas O<|aB ?_)
    exact ⟨_,⟨[(0,Ln .u64 (n/256^(i+1):Nat)),(3,.sv (.one (.slc 500 0 (i+1)))),(4,Ln .i64 (i+1:Nat))],[(500,some ⟨5,((leB 8 n).take (i+1)).map bc,true⟩)],X⟩,by omega,Le.ofR [(500,15)] (by exact ⟨rfl,rfl,rfl,trivial⟩) (by repeat' (first|exact trivial|refine cQ ⟨_,rfl,?_⟩ ?_|refine cQ ⟨_,rfl⟩ ?_|rfl|exact bX _ _ _ _|exact bY _ _ _ _|exact bZ rfl)) (by exact rfl) (by exact rfl) (by repeat' (first|refine bT ?_ ?_|rfl|exact bV|exact bU|exact bW rfl)) (by exact rfl) (by exact rfl),i+1,true,by omega,rfl,rfl⟩
  · have e:i=8:=by omega
    subst e
    have hta:(leB 8 n).take 8=leB 8 n:=List.take_of_length_le (by rw [leB_length];exact dN _)
    rw [hta]
    have hlen:0+8≤((leB 8 n).map bc).length:=by rw [cW,leB_length];omega
    have hend:(((leB 8 n).map bc).drop 0).take 8=(leB 8 n).map bc:=by rw [List.drop_zero,List.take_of_length_le (by rw [cW,leB_length];exact dN _)]
    generalize leB 8 n=s at *
    (refine aA<|aA<|rgN<|kmv O<|klt O O (r:=false) O<|aB<|aF O ?_;refine aJ<|aA<|rgN<|kmv O<|bS O O (by kernel_rfl) StrT.u hlen hend dR<|kas O<|aB<|aI ?_)
    exact ⟨[_],⟨O,trivial⟩,O⟩
end Go.Proofs.YtamplgnbbanamaaGreatDoor
end
section
namespace Go.Proofs.YtamplgnbbanamaaGreatDoor
open Go Go.Lg Go.Lg.Arith Go.Lg.Dec Go.RowKit
theorem parts_facts {x y:Int} (hx:R127 x) (hy:R127 y) (h0:y≠0):
    R127 (x.tdiv y)∧R127 (x.tmod y)∧R127 (x.tdiv y*y)∧x.tdiv y*y+x.tmod y=x∧mg (x.tmod y)<mg y∧(x.tmod y<0→x<0)∧(0<x.tmod y→0<x):=by
  obtain ⟨h1,h2⟩:=zv_quo x y h0
  have hB:=mg_zero h0
  have hA0:=mg_nonneg x
  have hR0:=Int.emod_nonneg (mg x) (show mg y≠0 by omega)
  have hR1:=Int.emod_lt_of_pos (mg x) hB
  have hQ0:=Int.ediv_nonneg hA0 (Int.le_of_lt hB)
  have hQ1:=Int.ediv_le_self (mg y) hA0
  have hE:=Int.emod_add_mul_ediv (mg x) (mg y)
  have hT0:=Int.mul_nonneg hQ0 (Int.le_of_lt hB)
  rw [Int.mul_comm (mg y) (mg x/mg y)] at hE
  rw [← h1,← h2]
  have key:zv (decide (x<0) != decide (y<0)) (mg x/mg y)*y=zv (decide (x<0)) (mg x/mg y*mg y):=by
    by_cases cy:y<0
    · have hy':mg y = -y:=mg_neg cy
      generalize mg x/mg y=Q
      by_cases cx:x<0<;>simp only [cx,cy,decide_true,decide_false,zv,bne_self_eq_false,Bool.false_bne,if_true,if_false,Bool.false_eq_true]
      · rw [hy',Int.mul_neg,Int.neg_neg]
      · rw [hy',Int.mul_neg,Int.neg_mul]
    · have hy':mg y=y:=mg_pos (by omega)
      generalize mg x/mg y=Q
      by_cases cx:x<0<;>simp only [cx,cy,decide_true,decide_false,zv,bne_self_eq_false,Bool.true_bne,Bool.not_false,if_true,if_false,Bool.false_eq_true]
      · rw [hy',Int.neg_mul]
      · rw [hy']
  have zR:∀ (b:Bool) (n:Int),0≤n→n<170141183460469231731687303715884105728→R127 (zv b n):=by
    intro b n h1 h2
    unfold R127 zv
    cases b<;>simp only [if_true,if_false,Bool.false_eq_true]<;>omega
  have hlx:=mg_lim hx
  have hly:=mg_lim hy
  rw [key]
  generalize mg x/mg y*mg y=T at *
  generalize mg x/mg y=Q at *
  generalize mg x%mg y=R at *
  refine ⟨zR _ _ hQ0 (by omega),zR _ _ hR0 (by omega),zR _ _ hT0 (by omega),?_,?_,?_,?_⟩
  · by_cases cx:x<0
    · rw [cP cx]
      have:=mg_neg cx
      show -T + -R=x
      omega
    · rw [cO cx]
      have:=mg_pos (Int.not_lt.1 cx)
      show T+R=x
      omega
  · by_cases cx:x<0
    · rw [cP cx]
      show mg (-R)<mg y
      by_cases c:R=0
      · subst c;exact hB
      · rw [mg_neg (z := -R) (by omega)];omega
    · rw [cO cx]
      show mg R<mg y
      rw [mg_pos hR0];exact hR1
  · intro h
    by_cases cx:x<0
    · exact cx
    · rw [cO cx] at h
      have h:R<0:=h
      omega
  · intro h
    by_cases cx:x<0
    · rw [cP cx] at h
      have h:0 < -R:=h
      omega
    · rw [cO cx] at h
      have h:0<R:=h
      have:=mg_pos (Int.not_lt.1 cx)
      omega
end Go.Proofs.YtamplgnbbanamaaGreatDoor
end
section
namespace Go.Proofs.YtamplgnbbanamaaGreatDoor
open Go Go.Lg Go.Lg.Fml Go.Lg.Fld Go.Lg.Arith
set_option maxRecDepth 100000
variable (X:Nat→Option Obj)
def exR:Except Int Nm→LV
  | .ok v=>.tup [SI v.1 v.2,Sn .i64 0]
  | .error e=>.tup [S0,Sn .i64 e]
theorem NumsIn.all {X:Nat→Option Obj} {ad:Option Addr} {ns:List Nm} (h:NumsIn X ad ns) (hpos:0<ns.length):
    ∃ (blk off:Nat) (arr:Array Value) (el:TypeId) (fr:Nat×Nat),ad=some ⟨blk,off,none⟩∧X blk=some (.cells arr el fr)∧∀ i b N,ns[i]? = some (b,N)→In2 N∧off+i*3+3≤arr.size∧((arr.toList.drop (off+i*3)).take 3).map CV.val=cI b N:=by
  obtain ⟨_,blk,off,arr,el,fr,rfl,hX,_,_⟩:=h.at (i:=0) (b:=(ns[0]'hpos).1) (N:=(ns[0]'hpos).2) (cX hpos)
  refine ⟨blk,off,arr,el,fr,O,hX,fun i b N hi => ?_⟩
  obtain ⟨h1,blk',off',arr',el',fr',h2,h3,h4,h5⟩:=h.at hi
  simp only [Option.some.injEq,Addr.mk.injEq] at h2
  obtain ⟨rfl,rfl,_⟩:=h2
  rw [hX] at h3
  simp only [Option.some.injEq,Obj.cells.injEq] at h3
  obtain ⟨rfl,_,_⟩:=h3
  exact ⟨h1,h4,h5⟩
theorem gd_q {u:Nm} (h:gd u=true) (hu:In2 u.2):LI u.1 u.2=LQ (zz u)∧R127 (zz u):=⟨LI_q hu h,(zv_in hu h).1⟩
end Go.Proofs.YtamplgnbbanamaaGreatDoor
end
section
namespace Go.Proofs.YtamplgnbbanamaaGreatDoor
open Go Go.Lg Go.Lg.Fml Go.Lg.Fld Go.Lg.Arith
set_option maxRecDepth 100000
variable (X:Nat→Option Obj)
theorem eqN {b b':Bool} {M N:Int} (hM:In2 M) (hN:In2 N):(b==b'&&(M/18446744073709551616==N/18446744073709551616&&M%18446744073709551616==N%18446744073709551616))=decide (((b,M):Nm)=(b',N)):=by
  by_cases h:b=b'∧M=N
  · obtain ⟨rfl,rfl⟩:=h
    simp
  · rw [cO (fun e=>h (by simpa using e))]
    cases hc:(b==b'&&(M/18446744073709551616==N/18446744073709551616&&M%18446744073709551616==N%18446744073709551616)) with
    | false=>rfl
    | true =>
      simp only [Bool.and_eq_true,beq_iff_eq] at hc
      exact absurd ⟨hc.1,by omega⟩ h
theorem eqZ {b:Bool} {M:Int} (hM:In2 M):(b==false&&(M/18446744073709551616==0&&M%18446744073709551616==0))=decide (((b,M):Nm)=(false,0)):=by
  have:=eqN (b:=b) (b':=false) hM (N:=0) (by show 0≤(0:Int)∧(0:Int)<_;omega)
  exact this
theorem cmp_lz {u v:Nm}:decide (cmpI (zz u) (zz v)<0)=decide (zz u<zz v)∧decide (0<cmpI (zz u) (zz v))=decide (zz v<zz u):=by
  unfold cmpI
  by_cases h:zz u<zz v
  · rw [if_pos h,cP h,cO (show ¬ zz v<zz u by omega)]
    exact ⟨O,O⟩
  · rw [if_neg h,cO h]
    by_cases h2:zz v<zz u
    · rw [if_pos h2,cP h2];exact ⟨rfl,rfl⟩
    · rw [if_neg h2,cO h2];exact ⟨rfl,rfl⟩
end Go.Proofs.YtamplgnbbanamaaGreatDoor
end
section
namespace Go.Proofs.YtamplgnbbanamaaGreatDoor
open Go Go.Lg Go.Lg.Fml Go.Lg.Fld Go.Lg.Arith
set_option maxRecDepth 100000
variable (X:Nat→Option Obj)
theorem szle (a b:List UInt8) (h:a.length+b.length≤9223372036854775807):(⟨a.toArray⟩:ByteArray).size+(⟨b.toArray⟩:ByteArray).size≤9223372036854775807:=h
theorem encErr_chk {l:List Ins} (h:chkX l≠0):encErr l=chkX l∧encTX l=[]:=by
  have e:encErr l=chkX l:=if_neg h
  exact ⟨e,by unfold encTX;rw [e,if_neg h]⟩
theorem encErr_bad {l:List Ins} {x:Ins} (hz:chkX l=0) (hx:x∈l) (hp:plainI x=false):encErr l=1∧encTX l=[]:=by
  have e:encErr l=1:=by
    unfold encErr
    rw [if_pos hz,if_neg]
    intro h
    rw [List.all_eq_true.1 h x hx] at hp
    cases hp
  exact ⟨e,by unfold encTX;rw [e];rfl⟩
theorem encErr_ok {l:List Ins} (hz:chkX l=0) (hp:l.all plainI=true):encErr l=0∧encTX l=encX l:=by
  have e:encErr l=0:=by
    unfold encErr
    rw [if_pos hz,if_pos hp]
  exact ⟨e,by unfold encTX;rw [if_pos e]⟩
theorem encIs_snoc {l:List Ins} {i:Nat} {x:Ins} (h:l[i]? = some x):encIs (l.take (i+1))=encIs (l.take i)++encI x:=by
  rw [take_snoc h,encIs_app]
  simp [encIs]
set_option maxHeartbeats 12800000 in
theorem rEncode11 (l:List Ins) (ad:Option Addr) (cap:Nat) (hin:InsIn X ad l) (hbig:l.length<1152921504606846976):PSpec Tryz.prog X 24 [Lx ad l.length cap] (.tup [Ss (encTX l),Sn .i64 (encErr l)]):=by
  have hC:=rCheck11 X l ad cap hin (by omega)
  by_cases hz:chkX l=0
  case neg =>
    obtain ⟨e1,e2⟩:=encErr_chk hz
    rw [e1,e2]
    refine cF Tryz.func24 rfl (by kernel_rfl) rfl rfl ?_
    intro C
    (refine aA<|rgN<|kas O<|kas O<|aB<|aA<|aA<|rgN<|kmv O<|kca O O (hC)<|kas O<|aB<|aA<|rgN ?_;refine kmv O<|kne O O (cT hz)<|aB<|aE O ?_;refine aA<|rgN<|kmv O<|kas O<|kas O<|aB<|aI ?_)
    exact ⟨[_,_],⟨O,O,trivial⟩,O⟩
  rw [hz] at hC
  have h64:=(chkX_zero hz).1
  have wl:=wrap_o8 (l.length:Nat)
  refine cF Tryz.func24 rfl (by kernel_rfl) rfl rfl ?_
  intro C
  (refine aA<|rgN<|kas O<|kas O<|aB<|aA<|aA<|rgN<|kmv O<|kca O O (hC)<|kas O<|aB<|aA<|rgN ?_;refine kmv O<|kne O O (r:=false) O<|aB<|aF O ?_;refine aH ?_;refine aA<|rgN<|kmv O<|aQ O cC O dR ?_;refine kcv O wl ?_;refine aZ (zs:=[.int .u8 0]) (sz:=1) (e:=5) (cs':=[o8 (l.length:Nat)].map bc) (by kernel_rfl) O O O O O O dR<|bS (l:=[o8 (l.length:Nat)]) O O (by kernel_rfl) StrT.u (dN _) O dR<|kas O<|aB<|aA<|aA<|rgN<|kas O<|aB<|aG ?_)
  refine cL (fun m σ=>∃ i:Nat,i≤l.length∧m=l.length-i∧(l.take i).all plainI=true∧σ=⟨[(0,Lx ad l.length cap),(5,Ls (o8 (l.length:Nat)::encIs (l.take i))),(6,Ln .i64 (i:Nat))],[],X⟩) l.length
    ⟨⟨[(0,Lx ad l.length cap),(5,Ls (o8 (l.length:Nat)::encIs (l.take 0))),(6,Ln .i64 (0:Nat))],[],X⟩,Le.of (by exact ⟨rfl,rfl,rfl,trivial⟩) (by exact trivial) (by exact rfl) (by exact rfl) (by exact rfl),0,by omega,rfl,rfl,rfl⟩ ?_
  rintro m σ ⟨i,hi,rfl,hpl,rfl⟩
  have hSl:(o8 (l.length:Nat)::encIs (l.take i)).length≤1153:=by
    have:=encIs_len (l.take i)
    rw [cZ] at this
    rw [dI];omega
  by_cases hlt:i<l.length
  case neg =>
    have e:i=l.length:=by omega
    subst e
    rw [dF] at hpl hSl ⊢
    obtain ⟨e1,e2⟩:=encErr_ok hz hpl
    rw [e1,e2]
    unfold encX
    (refine aA<|aA<|rgN<|kmv O<|kmv O<|aQ O cC O dR ?_;refine klt O O (cO (by omega))<|aB<|aF O ?_;refine aJ<|aA<|rgN<|kmv O<|kas O<|kas O<|aB<|aI ?_)
    exact ⟨[_,_],⟨O,O,trivial⟩,O⟩
  obtain ⟨x,hx⟩:∃ x,l[i]? = some x:=⟨_,cX hlt⟩
  have hmem:=dD hx
  obtain ⟨blk,off,arr,el,fr,rfl,hX,hsz,hcs,_⟩:=hin.at hx
  have hio:off+Int.toNat (i:Int)*6=off+i*6:=by simp
  obtain ⟨_,_,_,hk2⟩:=hin.small x hmem
  obtain ⟨h17,hgk,ha7,hb7⟩:=okI_facts (chkX_ok hz x hmem)
  have hbad:=fun h=>encErr_bad (x:=x) hz hmem h
  have hgood:=fun h:plainI x=true=>show (l.take (i+1)).all plainI=true by rw [take_snoc hx,List.all_append,hpl];simp [h]
  have hnext:o8 (l.length:Nat)::encIs (l.take (i+1))=(o8 (l.length:Nat)::encIs (l.take i))++encI x:=by rw [encIs_snoc hx];rfl
  obtain ⟨op,a,b,kb,kN⟩:=x
  simp only at h17 hgk ha7 hb7 hk2
  have q:=eqI (b:=kb) (b':=false) (h:=kN/18446744073709551616) (h':=0) (l:=kN%18446744073709551616) (l':=0) _ (eqZ hk2)
  have hW1:=rWord_spec X (loW kN) (by unfold loW;omega)
  have hW2:=rWord_spec X (hiW kN) (by unfold hiW In2 at *;omega)
  rw [show ((loW kN:Nat):Int)=kN%18446744073709551616 by unfold loW;omega] at hW1
  rw [show ((hiW kN:Nat):Int)=kN/18446744073709551616 by unfold hiW In2 at *;omega] at hW2
  have l8:=leB_length 8 (loW kN)
  have w0:=wrap_o8 op
  have wa:=wrap_o8 a
  have wb:=wrap_o8 b
  have hadd:IntKind.i64.wrap ((i:Int)+1)=((i+1:Nat):Int):=by rw [cH (by omega)];omega
  generalize hS:o8 (l.length:Nat)::encIs (l.take i)=S at *
  generalize hS':o8 (l.length:Nat)::encIs (l.take (i+1))=S' at *
  by_cases hc:op=1
  case pos =>
    have heo1:op=1:=hc
    have hno2:op≠2:=by omega
    have hno3:op≠3:=by omega
    by_cases cB:b=0
    case neg =>
      have hp:plainI ⟨op,a,b,(kb,kN)⟩=false:=by
        unfold plainI
        simp only
        rw [cO (show ¬ op=2 by omega),cO cB];simp
      obtain ⟨e1,e2⟩:=hbad hp
      rw [e1,e2]
      (refine aA<|aA<|rgN<|kmv O<|kmv O<|aQ O cC O dR ?_;refine klt O O (cP (by omega))<|aB<|aE O ?_;refine aH ?_;refine aA<|aG<|aA<|rgN<|kmv O<|kmv O<|aR O O cC (by omega) hio dR<|aY O hX (by kernel_rfl) hsz hcs dR<|aP O dR ?_;refine aM O O O O O O dR ?_;refine aB<|aA<|aA<|rgN<|kfa O O ?_;refine kl1 O O O<|kne O O (cS heo1)<|kmv O<|aC O O O<|aC O O O<|aC O O O<|aC O O O<|kpf O O<|kmv O<|aN O O (dS O O) ?_;refine aO O O O (dS O O) ?_;refine aX O O (cT hno2) (dS O O) ?_;refine gmv O O O<|aN O O (dS O O) ?_;refine aO O O O (dS O O) ?_;refine aX O O (cT cB) (dS O O) ?_;refine bF O O (dS O O) ?_;refine kpf O O<|kmv O<|aC O O O<|aC O O O<|aC O O O<|aC O O O<|aD O O<|aD O O<|aD O O<|aC O O O<|aC O O O<|aD O O<|aD O O<|aD O O ?_;refine aC O O O<|kpt O O<|aB<|aE O ?_;refine aA<|rgN<|kas O<|kas O<|aB<|aI ?_)
      exact ⟨[_,_],⟨O,O,trivial⟩,O⟩
    by_cases cA:a=0
    case neg =>
      have hp:plainI ⟨op,a,b,(kb,kN)⟩=false:=by
        unfold plainI
        simp only
        rw [cO (show ¬ op=2 by omega),cO (show ¬ op=3 by omega),cO cA];simp
      obtain ⟨e1,e2⟩:=hbad hp
      rw [e1,e2]
      ((refine aA<|aA<|rgN<|kmv O<|kmv O<|aQ O cC O dR ?_;refine klt O O (cP (by omega))<|aB<|aE O ?_;refine aH ?_;refine aA<|aG<|aA<|rgN<|kmv O<|kmv O<|aR O O cC (by omega) hio dR<|aY O hX (by kernel_rfl) hsz hcs dR<|aP O dR ?_;refine aM O O O O O O dR ?_;refine aB<|aA<|aA<|rgN<|kfa O O ?_;refine kl1 O O O<|kne O O (cS heo1)<|kmv O<|aC O O O<|aC O O O<|aC O O O<|aC O O O<|kpf O O<|kmv O<|aN O O (dS O O) ?_;refine aO O O O (dS O O) ?_;refine aX O O (cT hno2) (dS O O) ?_;refine gmv O O O<|aN O O (dS O O) ?_;refine aO O O O (dS O O) ?_;refine aX O O (cS cB) (dS O O) ?_);(refine bF O O (dS O O) ?_;refine kpf O O<|kmv O<|aN O O (dS O O) ?_;refine aO O O O (dS O O) ?_;refine aX O O (cT hno2) (dS O O) ?_;refine gmv O O O<|aN O O (dS O O) ?_;refine aO O O O (dS O O) ?_;refine aX O O (cT hno3) (dS O O) ?_;refine bF O O (dS O O) ?_;refine gmv O O O<|aN O O (dS O O) ?_;refine aO O O O (dS O O) ?_;refine aX O O (cT cA) (dS O O) ?_;refine bF O O (dS O O) ?_);(refine kpf O O<|aB<|aE O ?_;refine aA<|rgN<|kas O<|kas O<|aB<|aI ?_))
      exact ⟨[_,_],⟨O,O,trivial⟩,O⟩
    have hpn:=hgood (by
      unfold plainI
      simp only
      rw [Bool.and_eq_true,Bool.and_eq_true,Bool.or_eq_true,Bool.or_eq_true,Bool.or_eq_true,Bool.or_eq_true]
      simp only [decide_eq_true_eq]
      exact ⟨.inl hc,.inr cB,.inr (.inr cA)⟩)
    have he:encI ⟨op,a,b,(kb,kN)⟩=o8 op::(sgB kb::(leB 8 (loW kN)++leB 8 (hiW kN))):=by unfold encI;simp only;rw [if_pos hc]
    rw [he] at hnext
    generalize leB 8 (loW kN)=B1 at *
    have l82:=leB_length 8 (hiW kN)
    generalize leB 8 (hiW kN)=B2 at *
    cases kb with
    | false =>
      have hcat:(⟨((((S++[o8 op])++[sgB false])++B1)).toArray⟩:ByteArray)++⟨B2.toArray⟩=⟨S'.toArray⟩:=by rw [str_add,hnext];simp only [dM,List.cons_append,List.nil_append]
      ((refine aA<|aA<|rgN<|kmv O<|kmv O<|aQ O cC O dR ?_;refine klt O O (cP (by omega))<|aB<|aE O ?_;refine aH ?_;refine aA<|aG<|aA<|rgN<|kmv O<|kmv O<|aR O O cC (by omega) hio dR<|aY O hX (by kernel_rfl) hsz hcs dR<|aP O dR ?_;refine aM O O O O O O dR ?_;refine aB<|aA<|aA<|rgN<|kfa O O ?_;refine kl1 O O O<|kne O O (cS heo1)<|kmv O<|aC O O O<|aC O O O<|aC O O O<|aC O O O<|kpf O O<|kmv O<|aN O O (dS O O) ?_;refine aO O O O (dS O O) ?_;refine aX O O (cT hno2) (dS O O) ?_;refine gmv O O O<|aN O O (dS O O) ?_;refine aO O O O (dS O O) ?_;refine aX O O (cS cB) (dS O O) ?_);(refine bF O O (dS O O) ?_;refine kpf O O<|kmv O<|aN O O (dS O O) ?_;refine aO O O O (dS O O) ?_;refine aX O O (cT hno2) (dS O O) ?_;refine gmv O O O<|aN O O (dS O O) ?_;refine aO O O O (dS O O) ?_;refine aX O O (cT hno3) (dS O O) ?_;refine bF O O (dS O O) ?_;refine gmv O O O<|aN O O (dS O O) ?_;refine aO O O O (dS O O) ?_;refine aX O O (cS cA) (dS O O) ?_;refine bF O O (dS O O) ?_);(refine kpf O O<|aB<|aF O ?_;refine aH ?_;refine aA<|rgN<|kmv O<|kfa O O ?_;refine kl1 O O O<|kcv O w0 ?_;refine aZ (zs:=[.int .u8 0]) (sz:=1) (e:=5) (cs':=[o8 op].map bc) (by kernel_rfl) O O O O O O dR<|bS (l:=[o8 op]) O O (by kernel_rfl) StrT.u (dN _) O dR<|bM O O (szle S [o8 op] (by simp only [cY];omega)) (str_add S [o8 op]) dR<|kas O<|aB<|aA<|rgN<|kfa O O ?_;refine kl1 O O O<|aB<|aG<|aA<|rgN<|keq O O (r:=true) (cU hc)<|kas O<|aB<|aE O ?_;refine aA<|rgN<|kas O<|aB<|aA<|aA<|rgN<|kfa O O ?_;refine kfa O O ?_;refine kl1 O O O<|aB<|aF O ?_;refine aH ?_;refine rgD mixed<|kmv O<|kmv O<|aZ (zs:=[.int .u8 0]) (sz:=1) (e:=5) (cs':=[sgB false].map bc) (by kernel_rfl) O O O O O O dR<|bS (l:=[sgB false]) O O (by kernel_rfl) StrT.u (dN _) O dR<|bM O O (szle (S++[o8 op]) [sgB false] (by simp only [cV,cY];omega)) (str_add (S++[o8 op]) [sgB false]) dR<|kfa O O ?_;refine kfa O O ?_);(refine kl1 O O O<|kca O O hW1<|bM O O (szle ((S++[o8 op])++[sgB false]) B1 (by simp only [cV,cY];omega)) (str_add ((S++[o8 op])++[sgB false]) B1) dR<|kfa O O ?_;refine kfa O O ?_;refine kl1 O O O<|kca O O hW2<|bM O O (szle (((S++[o8 op])++[sgB false])++B1) B2 (by simp only [cV,cY];omega)) hcat dR<|kas O<|aB<|rgA ?_;refine rgN<|kmv O<|kad O O hadd<|kas O<|aB ?_))
      exact ⟨_,⟨[(0,Lx (some ⟨blk,off,none⟩) l.length cap),(5,Ls S'),(6,Ln .i64 (i+1:Nat))],[],X⟩,by omega,Le.of (by exact ⟨rfl,rfl,rfl,trivial⟩) (by exact trivial) (by exact rfl) (by exact rfl) (by exact rfl),i+1,by omega,rfl,hpn,by rw [hS']⟩
    | true =>
      have hcat:(⟨((((S++[o8 op])++[sgB true])++B1)).toArray⟩:ByteArray)++⟨B2.toArray⟩=⟨S'.toArray⟩:=by rw [str_add,hnext];simp only [dM,List.cons_append,List.nil_append]
      ((refine aA<|aA<|rgN<|kmv O<|kmv O<|aQ O cC O dR ?_;refine klt O O (cP (by omega))<|aB<|aE O ?_;refine aH ?_;refine aA<|aG<|aA<|rgN<|kmv O<|kmv O<|aR O O cC (by omega) hio dR<|aY O hX (by kernel_rfl) hsz hcs dR<|aP O dR ?_;refine aM O O O O O O dR ?_;refine aB<|aA<|aA<|rgN<|kfa O O ?_;refine kl1 O O O<|kne O O (cS heo1)<|kmv O<|aC O O O<|aC O O O<|aC O O O<|aC O O O<|kpf O O<|kmv O<|aN O O (dS O O) ?_;refine aO O O O (dS O O) ?_;refine aX O O (cT hno2) (dS O O) ?_;refine gmv O O O<|aN O O (dS O O) ?_;refine aO O O O (dS O O) ?_;refine aX O O (cS cB) (dS O O) ?_);(refine bF O O (dS O O) ?_;refine kpf O O<|kmv O<|aN O O (dS O O) ?_;refine aO O O O (dS O O) ?_;refine aX O O (cT hno2) (dS O O) ?_;refine gmv O O O<|aN O O (dS O O) ?_;refine aO O O O (dS O O) ?_;refine aX O O (cT hno3) (dS O O) ?_;refine bF O O (dS O O) ?_;refine gmv O O O<|aN O O (dS O O) ?_;refine aO O O O (dS O O) ?_;refine aX O O (cS cA) (dS O O) ?_;refine bF O O (dS O O) ?_);(refine kpf O O<|aB<|aF O ?_;refine aH ?_;refine aA<|rgN<|kmv O<|kfa O O ?_;refine kl1 O O O<|kcv O w0 ?_;refine aZ (zs:=[.int .u8 0]) (sz:=1) (e:=5) (cs':=[o8 op].map bc) (by kernel_rfl) O O O O O O dR<|bS (l:=[o8 op]) O O (by kernel_rfl) StrT.u (dN _) O dR<|bM O O (szle S [o8 op] (by simp only [cY];omega)) (str_add S [o8 op]) dR<|kas O<|aB<|aA<|rgN<|kfa O O ?_;refine kl1 O O O<|aB<|aG<|aA<|rgN<|keq O O (r:=true) (cU hc)<|kas O<|aB<|aE O ?_;refine aA<|rgN<|kas O<|aB<|aA<|aA<|rgN<|kfa O O ?_;refine kfa O O ?_;refine kl1 O O O<|aB<|aE O ?_;refine rgN<|kas O<|aB<|rgD mixed<|kmv O<|kmv O<|aZ (zs:=[.int .u8 0]) (sz:=1) (e:=5) (cs':=[sgB true].map bc) (by kernel_rfl) O O O O O O dR<|bS (l:=[sgB true]) O O (by kernel_rfl) StrT.u (dN _) O dR<|bM O O (szle (S++[o8 op]) [sgB true] (by simp only [cV,cY];omega)) (str_add (S++[o8 op]) [sgB true]) dR<|kfa O O ?_;refine kfa O O ?_;refine kl1 O O O<|kca O O hW1<|bM O O (szle ((S++[o8 op])++[sgB true]) B1 (by simp only [cV,cY];omega)) (str_add ((S++[o8 op])++[sgB true]) B1) dR<|kfa O O ?_);(refine kfa O O ?_;refine kl1 O O O<|kca O O hW2<|bM O O (szle (((S++[o8 op])++[sgB true])++B1) B2 (by simp only [cV,cY];omega)) hcat dR<|kas O<|aB<|rgA ?_;refine rgN<|kmv O<|kad O O hadd<|kas O<|aB ?_))
      exact ⟨_,⟨[(0,Lx (some ⟨blk,off,none⟩) l.length cap),(5,Ls S'),(6,Ln .i64 (i+1:Nat))],[],X⟩,by omega,Le.of (by exact ⟨rfl,rfl,rfl,trivial⟩) (by exact trivial) (by exact rfl) (by exact rfl) (by exact rfl),i+1,by omega,rfl,hpn,by rw [hS']⟩
  by_cases hc2:op=2
  case pos =>
    have hc:=hc2
    have hno1:op≠1:=by omega
    have heo2:op=2:=hc
    have hno3:op≠3:=by omega
    by_cases cK:((kb,kN):Nm)=(false,0)
    case neg =>
      have hp:plainI ⟨op,a,b,(kb,kN)⟩=false:=by
        unfold plainI
        simp only
        rw [cO (show ¬ op=1 by omega),cO cK];rfl
      obtain ⟨e1,e2⟩:=hbad hp
      rw [e1,e2]
      rw [cO cK] at q
      (refine aA<|aA<|rgN<|kmv O<|kmv O<|aQ O cC O dR ?_;refine klt O O (cP (by omega))<|aB<|aE O ?_;refine aH ?_;refine aA<|aG<|aA<|rgN<|kmv O<|kmv O<|aR O O cC (by omega) hio dR<|aY O hX (by kernel_rfl) hsz hcs dR<|aP O dR ?_;refine aM O O O O O O dR ?_;refine aB<|aA<|aA<|rgN<|kfa O O ?_;refine kl1 O O O<|kne O O (cT hno1)<|kmv O<|aN O O (dS O O) ?_;refine bJ O O O (by exact nl3 O O O O) (dS O O) ?_;refine aT O O (by exact O) (by exact nl3 O O O O) (dS O O) ?_;refine bR (c:=true) O O O O (by kernel_rfl) q (.inr ⟨O,O⟩) (dS O O) ?_;refine kpt O O<|kmv O<|aC O O O<|aC O O O<|aC O O O<|aC O O O<|aD O O<|aD O O<|aD O O<|aC O O O<|kpt O O<|kmv O<|aC O O O<|aC O O O ?_;refine aC O O O<|aC O O O<|aD O O<|aD O O<|aD O O<|aC O O O<|aC O O O<|aD O O<|aD O O<|aD O O<|aC O O O<|kpt O O<|aB<|aE O ?_;refine aA<|rgN<|kas O<|kas O<|aB<|aI ?_)
      exact ⟨[_,_],⟨O,O,trivial⟩,O⟩
    rw [cP cK] at q
    have hpn:=hgood (by
      unfold plainI
      simp only
      rw [Bool.and_eq_true,Bool.and_eq_true,Bool.or_eq_true,Bool.or_eq_true,Bool.or_eq_true,Bool.or_eq_true]
      simp only [decide_eq_true_eq]
      exact ⟨.inr cK,.inl hc,.inl hc⟩)
    have he:encI ⟨op,a,b,(kb,kN)⟩=o8 op::[o8 a,o8 b]:=by unfold encI;simp only;rw [if_neg (show ¬ op=1 by omega),if_pos hc]
    rw [he] at hnext
    have hcat:(⟨(S++[o8 op]).toArray⟩:ByteArray)++⟨([o8 a,o8 b]:List UInt8).toArray⟩=⟨S'.toArray⟩:=by rw [str_add,hnext];simp only [dM,List.cons_append,List.nil_append]
    ((refine aA<|aA<|rgN<|kmv O<|kmv O<|aQ O cC O dR ?_;refine klt O O (cP (by omega))<|aB<|aE O ?_;refine aH ?_;refine aA<|aG<|aA<|rgN<|kmv O<|kmv O<|aR O O cC (by omega) hio dR<|aY O hX (by kernel_rfl) hsz hcs dR<|aP O dR ?_;refine aM O O O O O O dR ?_;refine aB<|aA<|aA<|rgN<|kfa O O ?_;refine kl1 O O O<|kne O O (cT hno1)<|kmv O<|aN O O (dS O O) ?_;refine bJ O O O (by exact nl3 O O O O) (dS O O) ?_;refine aT O O (by exact O) (by exact nl3 O O O O) (dS O O) ?_;refine bR (c:=false) O O O O (by kernel_rfl) q (.inr ⟨O,O⟩) (dS O O) ?_;refine kpt O O<|kmv O<|aN O O (dS O O) ?_;refine aO O O O (dS O O) ?_);(refine aX O O (cS heo2) (dS O O) ?_;refine gmv O O O<|aC O O O<|aC O O O<|aC O O O<|bP O O (dS O O) ?_;refine kpf O O<|kmv O<|aN O O (dS O O) ?_;refine aO O O O (dS O O) ?_;refine aX O O (cS heo2) (dS O O) ?_;refine gmv O O O<|aC O O O<|aC O O O<|aC O O O<|bP O O (dS O O) ?_;refine gmv O O O<|aC O O O<|aC O O O<|aC O O O<|bP O O (dS O O) ?_;refine kpf O O<|aB<|aF O ?_;refine aH ?_;refine aA<|rgN<|kmv O<|kfa O O ?_;refine kl1 O O O<|kcv O w0 ?_;refine aZ (zs:=[.int .u8 0]) (sz:=1) (e:=5) (cs':=[o8 op].map bc) (by kernel_rfl) O O O O O O dR<|bS (l:=[o8 op]) O O (by kernel_rfl) StrT.u (dN _) O dR<|bM O O (szle S [o8 op] (by simp only [cY];omega)) (str_add S [o8 op]) dR<|kas O<|aB<|aA<|rgN<|kfa O O ?_);(refine kl1 O O O<|aB<|aG<|aA<|rgN<|keq O O (r:=false) (cR (by omega))<|kas O<|aB<|aF O ?_;refine aA<|rgN<|keq O O (r:=true) (cU hc)<|kas O<|aB<|aE O ?_;refine rgN<|kmv O<|kfa O O ?_;refine kl1 O O O<|kcv O wa ?_;refine kfa O O ?_;refine kl1 O O O<|kcv O wb ?_;refine aZ (zs:=[.int .u8 0,.int .u8 0]) (sz:=1) (e:=5) (cs':=[o8 a,o8 b].map bc) (by kernel_rfl) O O O O O O dR<|bS (l:=[o8 a,o8 b]) O O (by kernel_rfl) StrT.u (dN _) O dR<|bM O O (szle (S++[o8 op]) [o8 a,o8 b] (by simp only [cV,cY,dI,dO];omega)) hcat dR<|kas O<|aB<|rgN<|kmv O<|kad O O hadd<|kas O<|aB ?_))
    exact ⟨_,⟨[(0,Lx (some ⟨blk,off,none⟩) l.length cap),(5,Ls S'),(6,Ln .i64 (i+1:Nat))],[],X⟩,by omega,Le.of (by exact ⟨rfl,rfl,rfl,trivial⟩) (by exact trivial) (by exact rfl) (by exact rfl) (by exact rfl),i+1,by omega,rfl,hpn,by rw [hS']⟩
  by_cases hc3:op=3
  case pos =>
    have hc:=hc3
    have hno1:op≠1:=by omega
    have hno2:op≠2:=by omega
    have heo3:op=3:=hc
    by_cases cK:((kb,kN):Nm)=(false,0)
    case neg =>
      have hp:plainI ⟨op,a,b,(kb,kN)⟩=false:=by
        unfold plainI
        simp only
        rw [cO (show ¬ op=1 by omega),cO cK];rfl
      obtain ⟨e1,e2⟩:=hbad hp
      rw [e1,e2]
      rw [cO cK] at q
      (refine aA<|aA<|rgN<|kmv O<|kmv O<|aQ O cC O dR ?_;refine klt O O (cP (by omega))<|aB<|aE O ?_;refine aH ?_;refine aA<|aG<|aA<|rgN<|kmv O<|kmv O<|aR O O cC (by omega) hio dR<|aY O hX (by kernel_rfl) hsz hcs dR<|aP O dR ?_;refine aM O O O O O O dR ?_;refine aB<|aA<|aA<|rgN<|kfa O O ?_;refine kl1 O O O<|kne O O (cT hno1)<|kmv O<|aN O O (dS O O) ?_;refine bJ O O O (by exact nl3 O O O O) (dS O O) ?_;refine aT O O (by exact O) (by exact nl3 O O O O) (dS O O) ?_;refine bR (c:=true) O O O O (by kernel_rfl) q (.inr ⟨O,O⟩) (dS O O) ?_;refine kpt O O<|kmv O<|aC O O O<|aC O O O<|aC O O O<|aC O O O<|aD O O<|aD O O<|aD O O<|aC O O O<|kpt O O<|kmv O<|aC O O O<|aC O O O ?_;refine aC O O O<|aC O O O<|aD O O<|aD O O<|aD O O<|aC O O O<|aC O O O<|aD O O<|aD O O<|aD O O<|aC O O O<|kpt O O<|aB<|aE O ?_;refine aA<|rgN<|kas O<|kas O<|aB<|aI ?_)
      exact ⟨[_,_],⟨O,O,trivial⟩,O⟩
    rw [cP cK] at q
    by_cases cB:b=0
    case neg =>
      have hp:plainI ⟨op,a,b,(kb,kN)⟩=false:=by
        unfold plainI
        simp only
        rw [cO (show ¬ op=2 by omega),cO cB];simp
      obtain ⟨e1,e2⟩:=hbad hp
      rw [e1,e2]
      (refine aA<|aA<|rgN<|kmv O<|kmv O<|aQ O cC O dR ?_;refine klt O O (cP (by omega))<|aB<|aE O ?_;refine aH ?_;refine aA<|aG<|aA<|rgN<|kmv O<|kmv O<|aR O O cC (by omega) hio dR<|aY O hX (by kernel_rfl) hsz hcs dR<|aP O dR ?_;refine aM O O O O O O dR ?_;refine aB<|aA<|aA<|rgN<|kfa O O ?_;refine kl1 O O O<|kne O O (cT hno1)<|kmv O<|aN O O (dS O O) ?_;refine bJ O O O (by exact nl3 O O O O) (dS O O) ?_;refine aT O O (by exact O) (by exact nl3 O O O O) (dS O O) ?_;refine bR (c:=false) O O O O (by kernel_rfl) q (.inr ⟨O,O⟩) (dS O O) ?_;refine kpt O O<|kmv O<|aN O O (dS O O) ?_;refine aO O O O (dS O O) ?_;refine aX O O (cT hno2) (dS O O) ?_;refine gmv O O O<|aN O O (dS O O) ?_;refine aO O O O (dS O O) ?_;refine aX O O (cT cB) (dS O O) ?_;refine bF O O (dS O O) ?_;refine kpf O O<|kmv O<|aC O O O<|aC O O O<|aC O O O<|aC O O O<|aD O O<|aD O O<|aD O O<|aC O O O<|aC O O O<|aD O O<|aD O O<|aD O O ?_;refine aC O O O<|kpt O O<|aB<|aE O ?_;refine aA<|rgN<|kas O<|kas O<|aB<|aI ?_)
      exact ⟨[_,_],⟨O,O,trivial⟩,O⟩
    have hpn:=hgood (by
      unfold plainI
      simp only
      rw [Bool.and_eq_true,Bool.and_eq_true,Bool.or_eq_true,Bool.or_eq_true,Bool.or_eq_true,Bool.or_eq_true]
      simp only [decide_eq_true_eq]
      exact ⟨.inr cK,.inr cB,.inr (.inl hc)⟩)
    have he:encI ⟨op,a,b,(kb,kN)⟩=o8 op::[o8 a]:=by unfold encI;simp only;rw [if_neg (show ¬ op=1 by omega),if_neg (show ¬ op=2 by omega),if_pos hc]
    rw [he] at hnext
    have hcat:(⟨(S++[o8 op]).toArray⟩:ByteArray)++⟨([o8 a]:List UInt8).toArray⟩=⟨S'.toArray⟩:=by rw [str_add,hnext];simp only [dM,List.cons_append,List.nil_append]
    ((refine aA<|aA<|rgN<|kmv O<|kmv O<|aQ O cC O dR ?_;refine klt O O (cP (by omega))<|aB<|aE O ?_;refine aH ?_;refine aA<|aG<|aA<|rgN<|kmv O<|kmv O<|aR O O cC (by omega) hio dR<|aY O hX (by kernel_rfl) hsz hcs dR<|aP O dR ?_;refine aM O O O O O O dR ?_;refine aB<|aA<|aA<|rgN<|kfa O O ?_;refine kl1 O O O<|kne O O (cT hno1)<|kmv O<|aN O O (dS O O) ?_;refine bJ O O O (by exact nl3 O O O O) (dS O O) ?_;refine aT O O (by exact O) (by exact nl3 O O O O) (dS O O) ?_;refine bR (c:=false) O O O O (by kernel_rfl) q (.inr ⟨O,O⟩) (dS O O) ?_;refine kpt O O<|kmv O<|aN O O (dS O O) ?_;refine aO O O O (dS O O) ?_);(refine aX O O (cT hno2) (dS O O) ?_;refine gmv O O O<|aN O O (dS O O) ?_;refine aO O O O (dS O O) ?_;refine aX O O (cS cB) (dS O O) ?_;refine bF O O (dS O O) ?_;refine kpf O O<|kmv O<|aN O O (dS O O) ?_;refine aO O O O (dS O O) ?_;refine aX O O (cT hno2) (dS O O) ?_;refine gmv O O O<|aN O O (dS O O) ?_;refine aO O O O (dS O O) ?_;refine aX O O (cS heo3) (dS O O) ?_;refine bF O O (dS O O) ?_);(refine gmv O O O<|aC O O O<|aC O O O<|aC O O O<|bP O O (dS O O) ?_;refine kpf O O<|aB<|aF O ?_;refine aH ?_;refine aA<|rgN<|kmv O<|kfa O O ?_;refine kl1 O O O<|kcv O w0 ?_;refine aZ (zs:=[.int .u8 0]) (sz:=1) (e:=5) (cs':=[o8 op].map bc) (by kernel_rfl) O O O O O O dR<|bS (l:=[o8 op]) O O (by kernel_rfl) StrT.u (dN _) O dR<|bM O O (szle S [o8 op] (by simp only [cY];omega)) (str_add S [o8 op]) dR<|kas O<|aB<|aA<|rgN<|kfa O O ?_;refine kl1 O O O<|aB<|aG<|aA<|rgN<|keq O O (r:=false) (cR (by omega))<|kas O<|aB<|aF O ?_;refine aA<|rgN<|keq O O (r:=false) (cR (by omega))<|kas O<|aB<|aF O ?_;refine aA<|rgN<|keq O O (r:=true) (cU hc)<|kas O<|aB<|aE O ?_;refine rgN<|kmv O<|kfa O O ?_;refine kl1 O O O<|kcv O wa ?_;refine aZ (zs:=[.int .u8 0]) (sz:=1) (e:=5) (cs':=[o8 a].map bc) (by kernel_rfl) O O O O O O dR<|bS (l:=[o8 a]) O O (by kernel_rfl) StrT.u (dN _) O dR<|bM O O (szle (S++[o8 op]) [o8 a] (by simp only [cV,cY,dI,dO];omega)) hcat dR<|kas O<|aB<|rgN<|kmv O<|kad O O hadd<|kas O<|aB ?_))
    exact ⟨_,⟨[(0,Lx (some ⟨blk,off,none⟩) l.length cap),(5,Ls S'),(6,Ln .i64 (i+1:Nat))],[],X⟩,by omega,Le.of (by exact ⟨rfl,rfl,rfl,trivial⟩) (by exact trivial) (by exact rfl) (by exact rfl) (by exact rfl),i+1,by omega,rfl,hpn,by rw [hS']⟩
  have hno1:op≠1:=by omega
  have hno2:op≠2:=by omega
  have hno3:op≠3:=by omega
  by_cases cK:((kb,kN):Nm)=(false,0)
  case neg =>
    have hp:plainI ⟨op,a,b,(kb,kN)⟩=false:=by
      unfold plainI
      simp only
      rw [cO (show ¬ op=1 by omega),cO cK];rfl
    obtain ⟨e1,e2⟩:=hbad hp
    rw [e1,e2]
    rw [cO cK] at q
    (refine aA<|aA<|rgN<|kmv O<|kmv O<|aQ O cC O dR ?_;refine klt O O (cP (by omega))<|aB<|aE O ?_;refine aH ?_;refine aA<|aG<|aA<|rgN<|kmv O<|kmv O<|aR O O cC (by omega) hio dR<|aY O hX (by kernel_rfl) hsz hcs dR<|aP O dR ?_;refine aM O O O O O O dR ?_;refine aB<|aA<|aA<|rgN<|kfa O O ?_;refine kl1 O O O<|kne O O (cT hno1)<|kmv O<|aN O O (dS O O) ?_;refine bJ O O O (by exact nl3 O O O O) (dS O O) ?_;refine aT O O (by exact O) (by exact nl3 O O O O) (dS O O) ?_;refine bR (c:=true) O O O O (by kernel_rfl) q (.inr ⟨O,O⟩) (dS O O) ?_;refine kpt O O<|kmv O<|aC O O O<|aC O O O<|aC O O O<|aC O O O<|aD O O<|aD O O<|aD O O<|aC O O O<|kpt O O<|kmv O<|aC O O O<|aC O O O ?_;refine aC O O O<|aC O O O<|aD O O<|aD O O<|aD O O<|aC O O O<|aC O O O<|aD O O<|aD O O<|aD O O<|aC O O O<|kpt O O<|aB<|aE O ?_;refine aA<|rgN<|kas O<|kas O<|aB<|aI ?_)
    exact ⟨[_,_],⟨O,O,trivial⟩,O⟩
  rw [cP cK] at q
  by_cases cB:b=0
  case neg =>
    have hp:plainI ⟨op,a,b,(kb,kN)⟩=false:=by
      unfold plainI
      simp only
      rw [cO (show ¬ op=2 by omega),cO cB];simp
    obtain ⟨e1,e2⟩:=hbad hp
    rw [e1,e2]
    (refine aA<|aA<|rgN<|kmv O<|kmv O<|aQ O cC O dR ?_;refine klt O O (cP (by omega))<|aB<|aE O ?_;refine aH ?_;refine aA<|aG<|aA<|rgN<|kmv O<|kmv O<|aR O O cC (by omega) hio dR<|aY O hX (by kernel_rfl) hsz hcs dR<|aP O dR ?_;refine aM O O O O O O dR ?_;refine aB<|aA<|aA<|rgN<|kfa O O ?_;refine kl1 O O O<|kne O O (cT hno1)<|kmv O<|aN O O (dS O O) ?_;refine bJ O O O (by exact nl3 O O O O) (dS O O) ?_;refine aT O O (by exact O) (by exact nl3 O O O O) (dS O O) ?_;refine bR (c:=false) O O O O (by kernel_rfl) q (.inr ⟨O,O⟩) (dS O O) ?_;refine kpt O O<|kmv O<|aN O O (dS O O) ?_;refine aO O O O (dS O O) ?_;refine aX O O (cT hno2) (dS O O) ?_;refine gmv O O O<|aN O O (dS O O) ?_;refine aO O O O (dS O O) ?_;refine aX O O (cT cB) (dS O O) ?_;refine bF O O (dS O O) ?_;refine kpf O O<|kmv O<|aC O O O<|aC O O O<|aC O O O<|aC O O O<|aD O O<|aD O O<|aD O O<|aC O O O<|aC O O O<|aD O O<|aD O O<|aD O O ?_;refine aC O O O<|kpt O O<|aB<|aE O ?_;refine aA<|rgN<|kas O<|kas O<|aB<|aI ?_)
    exact ⟨[_,_],⟨O,O,trivial⟩,O⟩
  by_cases cA:a=0
  case neg =>
    have hp:plainI ⟨op,a,b,(kb,kN)⟩=false:=by
      unfold plainI
      simp only
      rw [cO (show ¬ op=2 by omega),cO (show ¬ op=3 by omega),cO cA];simp
    obtain ⟨e1,e2⟩:=hbad hp
    rw [e1,e2]
    ((refine aA<|aA<|rgN<|kmv O<|kmv O<|aQ O cC O dR ?_;refine klt O O (cP (by omega))<|aB<|aE O ?_;refine aH ?_;refine aA<|aG<|aA<|rgN<|kmv O<|kmv O<|aR O O cC (by omega) hio dR<|aY O hX (by kernel_rfl) hsz hcs dR<|aP O dR ?_;refine aM O O O O O O dR ?_;refine aB<|aA<|aA<|rgN<|kfa O O ?_;refine kl1 O O O<|kne O O (cT hno1)<|kmv O<|aN O O (dS O O) ?_;refine bJ O O O (by exact nl3 O O O O) (dS O O) ?_;refine aT O O (by exact O) (by exact nl3 O O O O) (dS O O) ?_;refine bR (c:=false) O O O O (by kernel_rfl) q (.inr ⟨O,O⟩) (dS O O) ?_;refine kpt O O<|kmv O<|aN O O (dS O O) ?_;refine aO O O O (dS O O) ?_);(refine aX O O (cT hno2) (dS O O) ?_;refine gmv O O O<|aN O O (dS O O) ?_;refine aO O O O (dS O O) ?_;refine aX O O (cS cB) (dS O O) ?_;refine bF O O (dS O O) ?_;refine kpf O O<|kmv O<|aN O O (dS O O) ?_;refine aO O O O (dS O O) ?_;refine aX O O (cT hno2) (dS O O) ?_;refine gmv O O O<|aN O O (dS O O) ?_;refine aO O O O (dS O O) ?_;refine aX O O (cT hno3) (dS O O) ?_;refine bF O O (dS O O) ?_);(refine gmv O O O<|aN O O (dS O O) ?_;refine aO O O O (dS O O) ?_;refine aX O O (cT cA) (dS O O) ?_;refine bF O O (dS O O) ?_;refine kpf O O<|aB<|aE O ?_;refine aA<|rgN<|kas O<|kas O<|aB<|aI ?_))
    exact ⟨[_,_],⟨O,O,trivial⟩,O⟩
  have hpn:=hgood (by
    unfold plainI
    simp only
    rw [Bool.and_eq_true,Bool.and_eq_true,Bool.or_eq_true,Bool.or_eq_true,Bool.or_eq_true,Bool.or_eq_true]
    simp only [decide_eq_true_eq]
    exact ⟨.inr cK,.inr cB,.inr (.inr cA)⟩)
  have he:encI ⟨op,a,b,(kb,kN)⟩=o8 op::[]:=by unfold encI;simp only;rw [if_neg (show ¬ op=1 by omega),if_neg (show ¬ op=2 by omega),if_neg (show ¬ op=3 by omega)]
  rw [he] at hnext
  ((refine aA<|aA<|rgN<|kmv O<|kmv O<|aQ O cC O dR ?_;refine klt O O (cP (by omega))<|aB<|aE O ?_;refine aH ?_;refine aA<|aG<|aA<|rgN<|kmv O<|kmv O<|aR O O cC (by omega) hio dR<|aY O hX (by kernel_rfl) hsz hcs dR<|aP O dR ?_;refine aM O O O O O O dR ?_;refine aB<|aA<|aA<|rgN<|kfa O O ?_;refine kl1 O O O<|kne O O (cT hno1)<|kmv O<|aN O O (dS O O) ?_;refine bJ O O O (by exact nl3 O O O O) (dS O O) ?_;refine aT O O (by exact O) (by exact nl3 O O O O) (dS O O) ?_;refine bR (c:=false) O O O O (by kernel_rfl) q (.inr ⟨O,O⟩) (dS O O) ?_;refine kpt O O<|kmv O<|aN O O (dS O O) ?_;refine aO O O O (dS O O) ?_);(refine aX O O (cT hno2) (dS O O) ?_;refine gmv O O O<|aN O O (dS O O) ?_;refine aO O O O (dS O O) ?_;refine aX O O (cS cB) (dS O O) ?_;refine bF O O (dS O O) ?_;refine kpf O O<|kmv O<|aN O O (dS O O) ?_;refine aO O O O (dS O O) ?_;refine aX O O (cT hno2) (dS O O) ?_;refine gmv O O O<|aN O O (dS O O) ?_;refine aO O O O (dS O O) ?_;refine aX O O (cT hno3) (dS O O) ?_;refine bF O O (dS O O) ?_);(refine gmv O O O<|aN O O (dS O O) ?_;refine aO O O O (dS O O) ?_;refine aX O O (cS cA) (dS O O) ?_;refine bF O O (dS O O) ?_;refine kpf O O<|aB<|aF O ?_;refine aH ?_;refine aA<|rgN<|kmv O<|kfa O O ?_;refine kl1 O O O<|kcv O w0 ?_;refine aZ (zs:=[.int .u8 0]) (sz:=1) (e:=5) (cs':=[o8 op].map bc) (by kernel_rfl) O O O O O O dR<|bS (l:=[o8 op]) O O (by kernel_rfl) StrT.u (dN _) O dR<|bM O O (szle S [o8 op] (by simp only [cY];omega)) (str_add S [o8 op]) dR<|kas O<|aB<|aA<|rgN<|kfa O O ?_;refine kl1 O O O<|aB<|aG<|aA<|rgN<|keq O O (r:=false) (cR (by omega))<|kas O<|aB<|aF O ?_;refine aA<|rgN<|keq O O (r:=false) (cR (by omega))<|kas O<|aB<|aF O ?_;refine aA<|rgN<|keq O O (r:=false) (cR (by omega))<|kas O<|aB<|aF O ?_);(refine aH ?_;refine rgN<|kmv O<|kad O O hadd<|kas O<|aB ?_))
  exact ⟨_,⟨[(0,Lx (some ⟨blk,off,none⟩) l.length cap),(5,Ls (S++[o8 op])),(6,Ln .i64 (i+1:Nat))],[],X⟩,by omega,Le.of (by exact ⟨rfl,rfl,rfl,trivial⟩) (by exact trivial) (by exact rfl) (by exact rfl) (by exact rfl),i+1,by omega,rfl,hpn,by rw [hS',hnext]⟩
end Go.Proofs.YtamplgnbbanamaaGreatDoor
end
section
namespace Go.Proofs.YtamplgnbbanamaaGreatDoor
open Go Go.Lg Go.Lg.Fml Go.Lg.Fld Go.Lg.Arith
set_option maxRecDepth 100000
variable (X:Nat→Option Obj)
def inssV (l:List Ins):List Value:=(l.map insV).flatten
theorem vals_use {bx:List (Nat×Option Box)}:∀ {l:List Value},(l.map CV.val).all (CV.inUse bx)=true
  | []=>rfl
  | v::l=>by rw [List.map_cons,List.all_cons,vals_use (l:=l)];rfl
theorem inssV_len (l:List Ins):((inssV l).map CV.val).length=l.length*6:=by
  unfold inssV
  rw [cW]
  induction l with
  | nil=>rfl
  | cons x t ih=>simp only [List.map_cons,List.flatten_cons,cV,dI,ih,insV,dO];omega
theorem inssV_snoc (l:List Ins) (x:Ins) {cs:List CV} (h:cs=(insV x).map CV.val):(inssV l).map CV.val++cs=(inssV (l++[x])).map CV.val:=by
  unfold inssV
  rw [h,dH,List.flatten_append,dH]
  simp
theorem ins_in {Y:Nat→Option Obj} {blk:Nat} {arr:Array Value} {el:TypeId} {fr:Nat×Nat} {l:List Ins} (hY:Y blk=some (.cells arr el fr)) (hi:∀ x∈l,smallI x) (hsp:∃ sp,arr.toList=inssV l++sp):InsIn Y (some ⟨blk,0,none⟩) l:=
  ⟨rows_in hY (fun r hr=>by obtain ⟨x,_,rfl⟩:=List.mem_map.1 hr;rfl) hsp,hi⟩
end Go.Proofs.YtamplgnbbanamaaGreatDoor
end
section
namespace Go.Proofs.YtamplgnbbanamaaGreatDoor
open Go Go.Lg Go.Lg.Fml Go.Lg.Fld Go.Lg.Arith
set_option maxRecDepth 100000
variable (X:Nat→Option Obj)
abbrev LPg (va vb:Int) (ad:Option Addr) (n cap:Nat):LV:=.sv (.agg [.val (.int .i64 va),.val (.int .i64 vb),.val (.slice ad n cap)])
abbrev v3B (t:TypeId) (k:Nat) (a b:Int) (ad:Option Addr) (n cap:Nat):Nat×Option Box:=(k,some ⟨t,[.val (.int .i64 a),.val (.int .i64 b),.val (.slice ad n cap)],false⟩)
def lastR (rs:List Rl):Nat→Int
  | 0=>0
  | j+1=>match rs[j]? with
    | some r=>r.nw
    | none=>0
theorem lastR_at {rs:List Rl} {j:Nat} {r:Rl} (h:rs[j]? = some r):lastR rs (j+1)=r.nw:=by simp only [lastR,h]
theorem chkRs_cons {r:Rl} {last:Int} {t:List Rl}:chkRs last (r::t)=if chkR r last=0 then chkRs r.nw t else chkR r last:=rfl
theorem firstX_cons {c:List Ins} {t:List (List Ins)}:firstX (c::t)=if encErr c=0 then firstX t else encErr c:=rfl
theorem drop_at {α:Type} {l:List α} {i:Nat} {x:α} (h:l[i]? = some x):l.drop i=x::l.drop (i+1):=by
  obtain ⟨hi,e⟩:=List.getElem?_eq_some_iff.1 h
  rw [List.drop_eq_getElem_cons hi,e]
theorem chkP_bad {p:Pg} (h:¬(verOk p.va&&verOk p.vb)=true):chkP p=1:=if_neg h
theorem chkP_good {p:Pg} (h:(verOk p.va&&verOk p.vb)=true):chkP p=chkRs 0 p.rs:=if_pos h
theorem CodesIn.get {X:Nat→Option Obj} {ad:Option Addr} {cs:List (List Ins)} (h:CodesIn X ad cs) {i:Nat} {c:List Ins} (hc:cs[i]? = some c):∃ (blk off:Nat) (arr:Array Value) (el:TypeId) (fr:Nat×Nat) (vad:Option Addr) (vcap:Nat),ad=some ⟨blk,off,none⟩∧X blk=some (.cells arr el fr)∧arr[off+i*1]? = some (.slice vad c.length vcap)∧InsIn X vad c:=by
  obtain ⟨blk,off,arr,el,fr,vad,vcap,h1,h2,h3,h4,h5⟩:=h.at_ i c hc
  exact ⟨blk,off,arr,el,fr,vad,vcap,h1,h2,by rw [Nat.mul_one];exact h4,h5⟩
set_option maxHeartbeats 12800000 in
theorem rCheck12 (p:Pg) (ad:Option Addr) (cap:Nat) (hin:RulesIn X ad p.rs) (hbig:p.rs.length<4611686018427387904) (hsz:sizeR p.rs):PSpec Tryz.prog X 10 [LPg p.va p.vb ad p.rs.length cap] (Ln .i64 (chkP p)):=by
  obtain ⟨va,vb,rs⟩:=p
  simp only at hin hbig hsz ⊢
  refine cF Tryz.func10 rfl (by kernel_rfl) rfl rfl ?_
  intro C
  by_cases hv1:va<1
  · rw [chkP_bad (by unfold verOk;simp;omega)]
    (refine aA<|rgN<|aL O O O dR<|kas O<|aB<|aA<|aA<|rgN<|kfa O O ?_;refine kl1 O O O<|klt O O (cP (by omega))<|kmv O<|aC O O O<|aC O O O<|aC O O O<|kpt O O<|kmv O<|aC O O O<|aC O O O<|aC O O O<|kpt O O<|kmv O<|aC O O O ?_;refine aC O O O<|aC O O O<|kpt O O<|aB<|aE O ?_;refine aA<|rgN<|kas O<|aB<|aI ?_)
    exact ⟨[_],⟨O,trivial⟩,O⟩
  by_cases hv2:1073741824<va
  · rw [chkP_bad (by unfold verOk;simp;omega)]
    (refine aA<|rgN<|aL O O O dR<|kas O<|aB<|aA<|aA<|rgN<|kfa O O ?_;refine kl1 O O O<|klt O O (cO (by omega))<|kmv O<|aN O O (dS O O) ?_;refine aO O O O (dS O O) ?_;refine aS O O (cP (by omega)) (dS O O) ?_;refine kpf O O<|kmv O<|aC O O O<|aC O O O<|aC O O O<|kpt O O<|kmv O<|aC O O O<|aC O O O<|aC O O O<|kpt O O<|aB<|aE O ?_;refine aA<|rgN<|kas O<|aB<|aI ?_)
    exact ⟨[_],⟨O,trivial⟩,O⟩
  by_cases hv3:vb<1
  · rw [chkP_bad (by unfold verOk;simp;omega)]
    (refine aA<|rgN<|aL O O O dR<|kas O<|aB<|aA<|aA<|rgN<|kfa O O ?_;refine kl1 O O O<|klt O O (cO (by omega))<|kmv O<|aN O O (dS O O) ?_;refine aO O O O (dS O O) ?_;refine aS O O (cO (by omega)) (dS O O) ?_;refine kpf O O<|kmv O<|aN O O (dS O O) ?_;refine aO O O O (dS O O) ?_;refine bK O O (cP (by omega)) (dS O O) ?_;refine kpf O O<|kmv O<|aC O O O<|aC O O O<|aC O O O<|kpt O O<|aB<|aE O ?_;refine aA<|rgN<|kas O<|aB<|aI ?_)
    exact ⟨[_],⟨O,trivial⟩,O⟩
  by_cases hv4:1073741824<vb
  · rw [chkP_bad (by unfold verOk;simp;omega)]
    (refine aA<|rgN<|aL O O O dR<|kas O<|aB<|aA<|aA<|rgN<|kfa O O ?_;refine kl1 O O O<|klt O O (cO (by omega))<|kmv O<|aN O O (dS O O) ?_;refine aO O O O (dS O O) ?_;refine aS O O (cO (by omega)) (dS O O) ?_;refine kpf O O<|kmv O<|aN O O (dS O O) ?_;refine aO O O O (dS O O) ?_;refine bK O O (cO (by omega)) (dS O O) ?_;refine kpf O O<|kmv O<|aN O O (dS O O) ?_;refine aO O O O (dS O O) ?_;refine aS O O (cP (by omega)) (dS O O) ?_;refine kpf O O<|aB<|aE O ?_;refine aA<|rgN<|kas O<|aB<|aI ?_)
    exact ⟨[_],⟨O,trivial⟩,O⟩
  rw [chkP_good (show (verOk va&&verOk vb)=true by unfold verOk;simp;omega)]
  (refine aA<|rgN<|aL O O O dR<|kas O<|aB<|aA<|aA<|rgN<|kfa O O ?_;refine kl1 O O O<|klt O O (cO (by omega))<|kmv O<|aN O O (dS O O) ?_;refine aO O O O (dS O O) ?_;refine aS O O (cO (by omega)) (dS O O) ?_;refine kpf O O<|kmv O<|aN O O (dS O O) ?_;refine aO O O O (dS O O) ?_;refine bK O O (cO (by omega)) (dS O O) ?_;refine kpf O O<|kmv O<|aN O O (dS O O) ?_;refine aO O O O (dS O O) ?_;refine aS O O (cO (by omega)) (dS O O) ?_;refine kpf O O<|aB<|aF O ?_;refine aH ?_;refine aA<|aA<|rgN<|kas O<|aB<|aG ?_)
  refine cL (fun m σ=>∃ i:Nat,i≤rs.length∧m=rs.length-i∧chkRs 0 rs=chkRs (lastR rs i) (rs.drop i)∧σ=⟨[(1,Lp 1),(3,Ln .i64 (i:Nat))],[v3B 29 1 va vb ad rs.length cap],X⟩) rs.length
    ⟨_,Le.of (by exact ⟨rfl,rfl,trivial⟩) (by exact ⟨rfl,trivial⟩) (by exact rfl) (by exact rfl) (by repeat' (first|refine bT ?_ ?_|rfl|exact bV|exact bU|exact bW rfl)),0,by omega,by omega,rfl,rfl⟩ ?_
  rintro m σ ⟨i,hi,rfl,hpre,rfl⟩
  by_cases hlt:i<rs.length
  case neg =>
    rw [hpre,List.drop_eq_nil_of_le (by omega)]
    (refine aA<|aA<|rgN<|kmv O<|kfa O O ?_;refine kl1 O O O<|aQ O cC O dR ?_;refine klt O O (cO (by omega))<|aB<|aF O ?_;refine aJ<|aA<|rgN<|kas O<|aB<|aI ?_)
    exact ⟨[_],⟨O,trivial⟩,O⟩
  obtain ⟨r,hr⟩:∃ r,rs[i]? = some r:=⟨_,cX hlt⟩
  obtain ⟨blk,off,arr,el,fr,ead,ecap,rfl,hX,hsiz,hcs,g1,g2,g3,hE⟩:=hin.get hr
  have hio:off+Int.toNat (i:Int)*3=off+i*3:=by simp
  obtain ⟨hel,hcl⟩:=hsz r (dD hr)
  rw [drop_at hr,chkRs_cons] at hpre
  have fin:∀ e,chkR r (lastR rs i)=e→e≠0→chkRs 0 rs=e:=fun e he h0=>by rw [hpre,he,if_neg h0]
  (refine aA<|aA<|rgN<|kmv O<|kfa O O ?_;refine kl1 O O O<|aQ O cC O dR ?_;refine klt O O (cP (by omega))<|aB<|aE O ?_;refine aH ?_;refine aA<|aG<|aA<|rgN<|kfa O O ?_;refine kl1 O O O<|kmv O<|aR O O cC (by omega) hio dR<|aY O hX (by kernel_rfl) hsiz hcs dR<|aP O dR ?_;refine aM O O O O O O dR ?_;refine aB<|aA<|aA ?_)
  refine LWP.le (σ':=⟨[(1,Lp 1),(3,Ln .i64 (i:Nat)),(4,Lp 4)],[v3B 51 4 r.nw r.old ead r.ex.length ecap,v3B 29 1 va vb (some ⟨blk,off,none⟩) rs.length cap],X⟩) (Le.of (by exact ⟨O,O,O,trivial⟩) (by exact ⟨O,O,trivial⟩) (by exact O) (by exact O) (by repeat' (first|refine bT ?_ ?_|rfl|exact bV|exact bU|exact bW O))) ?_
  by_cases c1:r.nw<1
  · rw [fin 1 (if_pos (by omega)) (by decide)]
    (refine rgD mixed<|kfa O O ?_;refine kl1 O O O<|klt O O (cP (by omega))<|kmv O<|aC O O O<|aC O O O<|aC O O O<|kpt O O<|kmv O<|aC O O O<|aC O O O<|aC O O O<|kpt O O<|kmv O<|aC O O O ?_;refine aC O O O<|aC O O O<|kpt O O<|kmv O<|aC O O O<|aC O O O<|aC O O O<|aD O O<|aD O O<|aD O O<|aD O O<|aD O O<|aD O O<|aD O O ?_;refine aD O O<|aD O O<|aD O O<|aC O O O<|kpt O O<|aB<|rgA ?_;refine aE O ?_;refine aA<|rgN<|kas O<|aB<|aI ?_)
    exact ⟨[_],⟨O,trivial⟩,O⟩
  by_cases c2:24<r.nw
  · rw [fin 1 (if_pos (by omega)) (by decide)]
    (refine rgD mixed<|kfa O O ?_;refine kl1 O O O<|klt O O (cO (by omega))<|kmv O<|aN O O (dS O O) ?_;refine aO O O O (dS O O) ?_;refine aS O O (cP (by omega)) (dS O O) ?_;refine kpf O O<|kmv O<|aC O O O<|aC O O O<|aC O O O<|kpt O O<|kmv O<|aC O O O<|aC O O O<|aC O O O<|kpt O O<|kmv O<|aC O O O<|aC O O O ?_;refine aC O O O<|aD O O<|aD O O<|aD O O<|aD O O<|aD O O<|aD O O<|aD O O<|aD O O<|aD O O<|aD O O<|aC O O O<|kpt O O<|aB ?_;refine rgA ?_;refine aE O ?_;refine aA<|rgN<|kas O<|aB<|aI ?_)
    exact ⟨[_],⟨O,trivial⟩,O⟩
  by_cases c3:r.old<0
  · rw [fin 1 (if_pos (by omega)) (by decide)]
    (refine rgD mixed<|kfa O O ?_;refine kl1 O O O<|klt O O (cO (by omega))<|kmv O<|aN O O (dS O O) ?_;refine aO O O O (dS O O) ?_;refine aS O O (cO (by omega)) (dS O O) ?_;refine kpf O O<|kmv O<|aN O O (dS O O) ?_;refine aO O O O (dS O O) ?_;refine bK O O (cP (by omega)) (dS O O) ?_;refine kpf O O<|kmv O<|aC O O O<|aC O O O<|aC O O O<|kpt O O<|kmv O<|aC O O O<|aC O O O<|aC O O O<|aD O O<|aD O O<|aD O O<|aD O O ?_;refine aD O O<|aD O O<|aD O O<|aD O O<|aD O O<|aD O O<|aC O O O<|kpt O O<|aB<|rgA ?_;refine aE O ?_;refine aA<|rgN<|kas O<|aB<|aI ?_)
    exact ⟨[_],⟨O,trivial⟩,O⟩
  by_cases c4:24<r.old
  · rw [fin 1 (if_pos (by omega)) (by decide)]
    (refine rgD mixed<|kfa O O ?_;refine kl1 O O O<|klt O O (cO (by omega))<|kmv O<|aN O O (dS O O) ?_;refine aO O O O (dS O O) ?_;refine aS O O (cO (by omega)) (dS O O) ?_;refine kpf O O<|kmv O<|aN O O (dS O O) ?_;refine aO O O O (dS O O) ?_;refine bK O O (cO (by omega)) (dS O O) ?_;refine kpf O O<|kmv O<|aN O O (dS O O) ?_;refine aO O O O (dS O O) ?_;refine aS O O (cP (by omega)) (dS O O) ?_;refine kpf O O<|kmv O<|aC O O O<|aC O O O<|aC O O O<|aD O O<|aD O O<|aD O O<|aD O O<|aD O O<|aD O O<|aD O O<|aD O O<|aD O O ?_;refine aD O O<|aC O O O<|kpt O O<|aB<|rgA ?_;refine aE O ?_;refine aA<|rgN<|kas O<|aB<|aI ?_)
    exact ⟨[_],⟨O,trivial⟩,O⟩
  by_cases c5:0<i∧r.nw≤lastR rs i
  · rw [fin 1 (if_pos (by omega)) (by decide)]
    obtain ⟨q,hq⟩:∃ q,rs[i-1]? = some q:=⟨_,cX (by omega)⟩
    have hla:=lastR_at hq
    rw [show i-1+1=i by omega] at hla
    obtain ⟨blk',off',arr',el',fr',_,_,e1,hX',_,_,g1',_,_,_⟩:=hin.get hq
    simp only [Option.some.injEq,Addr.mk.injEq] at e1
    obtain ⟨rfl,rfl,_⟩:=e1
    rw [hX] at hX'
    simp only [Option.some.injEq,Obj.cells.injEq] at hX'
    obtain ⟨rfl,rfl,rfl⟩:=hX'
    have hsub:IntKind.i64.wrap (((i:Nat):Int)-1)=((i-1:Nat):Int):=by rw [cH (by omega)];omega
    have hio2:off+Int.toNat ((i-1:Nat):Int)*3=off+(i-1)*3:=by rw [dG]
    ((refine rgD mixed<|kfa O O ?_;refine kl1 O O O<|klt O O (cO (by omega))<|kmv O<|aN O O (dS O O) ?_;refine aO O O O (dS O O) ?_;refine aS O O (cO (by omega)) (dS O O) ?_;refine kpf O O<|kmv O<|aN O O (dS O O) ?_;refine aO O O O (dS O O) ?_;refine bK O O (cO (by omega)) (dS O O) ?_;refine kpf O O<|kmv O<|aN O O (dS O O) ?_;refine aO O O O (dS O O) ?_;refine aS O O (cO (by omega)) (dS O O) ?_;refine kpf O O<|kmv O<|gmv O O O<|aS O O (cP (by omega)) (dS O O) ?_;refine gmv O O O<|aN O O (dS O O) ?_);(refine aO O O O (dS O O) ?_;refine gmv O O O<|bA O O hsub (dS O O) ?_;refine aR O O cC (by omega) hio2 (dS O O) ?_;refine bH O O (dS O O) ?_;refine aW O hX O g1' (dS O O) ?_;refine aN O O (dS O O) ?_;refine aO O O O (dS O O) ?_;refine bD O O (cP (by omega)) (dS O O) ?_;refine bF O O (dS O O) ?_;refine kpf O O<|aB<|rgA ?_;refine aE O ?_;refine aA<|rgN<|kas O<|aB<|aI ?_))
    exact ⟨[_],⟨O,trivial⟩,O⟩
  have hlow:¬(r.nw<1∨24<r.nw∨r.old<0∨24<r.old∨r.nw≤lastR rs i):=by
    by_cases h0:i=0
    · subst h0
      have hz:lastR rs 0=0:=rfl
      omega
    · omega
  refine LWP.meet0 (fun σ=>σ=⟨[(1,Lp 1),(3,Ln .i64 (i:Nat)),(4,Lp 4),(71,Lb false)],[v3B 51 4 r.nw r.old ead r.ex.length ecap,v3B 29 1 va vb (some ⟨blk,off,none⟩) rs.length cap],X⟩) ?_ ?_
  · by_cases hi0:i=0
    · subst hi0
      (refine rgD mixed<|kfa O O ?_;refine kl1 O O O<|klt O O (cO (by omega))<|kmv O<|aN O O (dS O O) ?_;refine aO O O O (dS O O) ?_;refine aS O O (cO (by omega)) (dS O O) ?_;refine kpf O O<|kmv O<|aN O O (dS O O) ?_;refine aO O O O (dS O O) ?_;refine bK O O (cO (by omega)) (dS O O) ?_;refine kpf O O<|kmv O<|aN O O (dS O O) ?_;refine aO O O O (dS O O) ?_;refine aS O O (cO (by omega)) (dS O O) ?_;refine kpf O O<|kmv O<|gmv O O O<|aS O O (cO (by omega)) (dS O O) ?_;refine gmv O O O<|aC O O O<|aC O O O<|aC O O O<|aC O O O<|aC O O O<|aC O O O<|aC O O O<|aC O O O<|aC O O O<|aC O O O<|bP O O (dS O O) ?_;refine kpf O O<|aB<|rgA ?_)
      exact ⟨_,Le.of (by exact ⟨O,O,O,O,trivial⟩) (by exact ⟨O,O,trivial⟩) (by exact O) (by exact O) (by repeat' (first|refine bT ?_ ?_|rfl|exact bV|exact bU|exact bW O)),O⟩
    · 
      obtain ⟨q,hq⟩:∃ q,rs[i-1]? = some q:=⟨_,cX (by omega)⟩
      have hla:=lastR_at hq
      rw [show i-1+1=i by omega] at hla
      obtain ⟨blk',off',arr',el',fr',_,_,e1,hX',_,_,g1',_,_,_⟩:=hin.get hq
      simp only [Option.some.injEq,Addr.mk.injEq] at e1
      obtain ⟨rfl,rfl,_⟩:=e1
      rw [hX] at hX'
      simp only [Option.some.injEq,Obj.cells.injEq] at hX'
      obtain ⟨rfl,rfl,rfl⟩:=hX'
      have hsub:IntKind.i64.wrap (((i:Nat):Int)-1)=((i-1:Nat):Int):=by rw [cH (by omega)];omega
      have hio2:off+Int.toNat ((i-1:Nat):Int)*3=off+(i-1)*3:=by rw [dG]
      ((refine rgD mixed<|kfa O O ?_;refine kl1 O O O<|klt O O (cO (by omega))<|kmv O<|aN O O (dS O O) ?_;refine aO O O O (dS O O) ?_;refine aS O O (cO (by omega)) (dS O O) ?_;refine kpf O O<|kmv O<|aN O O (dS O O) ?_;refine aO O O O (dS O O) ?_;refine bK O O (cO (by omega)) (dS O O) ?_;refine kpf O O<|kmv O<|aN O O (dS O O) ?_;refine aO O O O (dS O O) ?_;refine aS O O (cO (by omega)) (dS O O) ?_;refine kpf O O<|kmv O<|gmv O O O<|aS O O (cP (by omega)) (dS O O) ?_;refine gmv O O O<|aN O O (dS O O) ?_);(refine aO O O O (dS O O) ?_;refine gmv O O O<|bA O O hsub (dS O O) ?_;refine aR O O cC (by omega) hio2 (dS O O) ?_;refine bH O O (dS O O) ?_;refine aW O hX O g1' (dS O O) ?_;refine aN O O (dS O O) ?_;refine aO O O O (dS O O) ?_;refine bD O O (cO (by omega)) (dS O O) ?_;refine bF O O (dS O O) ?_;refine kpf O O<|aB<|rgA ?_))
      exact ⟨_,Le.of (by exact ⟨O,O,O,O,trivial⟩) (by exact ⟨O,O,trivial⟩) (by exact O) (by exact O) (by repeat' (first|refine bT ?_ ?_|rfl|exact bV|exact bU|exact bW O)),O⟩
  rintro σ rfl
  by_cases c6:r.old=0∧0<r.ex.length
  · rw [fin 4 (by unfold chkR;rw [if_neg hlow,if_pos ⟨c6.1,fun e=>by rw [e] at c6;exact absurd c6.2 (by decide)⟩]) (by decide)]
    (refine aF O ?_;refine aH ?_;refine aA<|aA<|rgN<|kfa O O ?_;refine kl1 O O O<|keq O O (cU c6.1)<|kmv O<|aN O O (dS O O) ?_;refine aO O O O (dS O O) ?_;refine aQ O cC O (dS O O) ?_;refine aS O O (cP (by omega)) (dS O O) ?_;refine kpt O O<|aB<|aE O ?_;refine aA<|rgN<|kas O<|aB<|aI ?_)
    exact ⟨[_],⟨O,trivial⟩,O⟩
  repeat (first|refine aA ?_|refine aH ?_|refine aG ?_|refine aF O ?_)
  refine LWP.meet0 (fun σ=>σ=⟨[(1,Lp 1),(3,Ln .i64 (i:Nat)),(4,Lp 4),(80,Lb false)],[v3B 51 4 r.nw r.old ead r.ex.length ecap,v3B 29 1 va vb (some ⟨blk,off,none⟩) rs.length cap],X⟩) ?_ ?_
  · by_cases ho:r.old=0
    · (refine rgN<|kfa O O ?_;refine kl1 O O O<|keq O O (cU ho)<|kmv O<|aN O O (dS O O) ?_;refine aO O O O (dS O O) ?_;refine aQ O cC O (dS O O) ?_;refine aS O O (cO (by omega)) (dS O O) ?_;refine kpt O O<|aB ?_)
      exact ⟨_,Le.of (by exact ⟨O,O,O,O,trivial⟩) (by exact ⟨O,O,trivial⟩) (by exact O) (by exact O) (by repeat' (first|refine bT ?_ ?_|rfl|exact bV|exact bU|exact bW O)),O⟩
    · (refine rgN<|kfa O O ?_;refine kl1 O O O<|keq O O (cR ho)<|kmv O<|aC O O O<|aC O O O<|aC O O O<|aC O O O<|kpf O O<|aB ?_)
      exact ⟨_,Le.of (by exact ⟨O,O,O,O,trivial⟩) (by exact ⟨O,O,trivial⟩) (by exact O) (by exact O) (by repeat' (first|refine bT ?_ ?_|rfl|exact bV|exact bU|exact bW O)),O⟩
  rintro σ rfl
  have h6:¬(r.old=0∧r.ex≠[]):=fun h=>c6 ⟨h.1,List.length_pos_iff.2 h.2⟩
  by_cases c7:8<r.ex.length
  · rw [fin 5 (by unfold chkR;rw [if_neg hlow,if_neg h6,if_pos c7]) (by decide)]
    (refine aF O ?_;refine aH ?_;refine aA<|aA<|rgN<|kfa O O ?_;refine kl1 O O O<|aQ O cC O dR ?_;refine aS O O (cP (by omega)) dR<|aB<|aE O ?_;refine aA<|rgN<|kas O<|aB<|aI ?_)
    exact ⟨[_],⟨O,trivial⟩,O⟩
  have hfx:chkR r (lastR rs i)=firstX r.ex:=by unfold chkR;rw [if_neg hlow,if_neg h6,if_neg c7]
  (refine aF O ?_;refine aH ?_;refine aA<|aA<|rgN<|kfa O O ?_;refine kl1 O O O<|aQ O cC O dR ?_;refine aS O O (cO (by omega)) dR<|aB<|aF O ?_;refine aH ?_;refine aA<|rgN<|kas O<|aB<|aG ?_)
  refine cL (fun m σ=>∃ k:Nat,k≤r.ex.length∧m=r.ex.length-k∧firstX r.ex=firstX (r.ex.drop k)∧σ=⟨[(1,Lp 1),(3,Ln .i64 (i:Nat)),(4,Lp 4),(5,Ln .i64 (k:Nat))],[v3B 51 4 r.nw r.old ead r.ex.length ecap,v3B 29 1 va vb (some ⟨blk,off,none⟩) rs.length cap],X⟩) r.ex.length
    ⟨_,Le.of (by exact ⟨rfl,rfl,rfl,rfl,trivial⟩) (by exact ⟨rfl,rfl,trivial⟩) (by exact rfl) (by exact rfl) (by repeat' (first|refine bT ?_ ?_|rfl|exact bV|exact bU|exact bW rfl)),0,by omega,by omega,rfl,rfl⟩ ?_
  rintro m σ ⟨k,hk,rfl,hpx,rfl⟩
  by_cases hkl:k<r.ex.length
  case neg =>
    rw [List.drop_eq_nil_of_le (by omega)] at hpx
    rw [hfx,hpx,if_pos (show firstX []=0 from rfl)] at hpre
    have hadd:IntKind.i64.wrap ((i:Int)+1)=((i+1:Nat):Int):=by rw [cH (by omega)];omega
    (refine aA<|aA<|rgN<|kmv O<|kfa O O ?_;refine kl1 O O O<|aQ O cC O dR ?_;refine klt O O (cO (by omega))<|aB<|aF O ?_;refine aJ<|rgN<|kmv O<|kad O O hadd<|kas O<|aB ?_)
    exact ⟨_,⟨[(1,Lp 1),(3,Ln .i64 (i+1:Nat))],[v3B 29 1 va vb (some ⟨blk,off,none⟩) rs.length cap],X⟩,by omega,Le.of (by exact ⟨rfl,rfl,trivial⟩) (by exact ⟨rfl,trivial⟩) (by exact rfl) (by exact rfl) (by repeat' (first|refine bT ?_ ?_|rfl|exact bV|exact bU|exact bW rfl)),i+1,by omega,rfl,by rw [lastR_at hr];exact hpre,rfl⟩
  obtain ⟨c,hc⟩:∃ c,r.ex[k]? = some c:=⟨_,cX hkl⟩
  obtain ⟨eb,eo,earr,eel,efr,vad,vcap,rfl,hEX,hec,hI⟩:=hE.get hc
  have hio3:eo+Int.toNat (k:Int)*1=eo+k*1:=by simp
  have hEn:=rEncode11 X c vad vcap hI (hcl c (dD hc))
  rw [drop_at hc,firstX_cons] at hpx
  by_cases he:encErr c=0
  · rw [if_pos he] at hpx
    rw [he] at hEn
    have hadd:IntKind.i64.wrap ((k:Int)+1)=((k+1:Nat):Int):=by rw [cH (by omega)];omega
    (refine aA<|aA<|rgN<|kmv O<|kfa O O ?_;refine kl1 O O O<|aQ O cC O dR ?_;refine klt O O (cP (by omega))<|aB<|aE O ?_;refine aH ?_;refine aA<|aG<|aA<|rgN<|kfa O O ?_;refine kl1 O O O<|kmv O<|aR O O cC (by omega) hio3 dR<|aW O hEX O hec dR<|kca O O (hEn)<|kmv O<|kex O O<|kex O O<|kas O<|kas O<|aB<|aA<|rgN<|kmv O ?_;refine kne O O (r:=false) O<|aB<|aF O ?_;refine aH ?_;refine rgN<|kmv O<|kad O O hadd<|kas O<|aB ?_)
    exact ⟨_,⟨[(1,Lp 1),(3,Ln .i64 (i:Nat)),(4,Lp 4),(5,Ln .i64 (k+1:Nat))],[v3B 51 4 r.nw r.old (some ⟨eb,eo,none⟩) r.ex.length ecap,v3B 29 1 va vb (some ⟨blk,off,none⟩) rs.length cap],X⟩,by omega,Le.of (by exact ⟨O,O,O,O,trivial⟩) (by exact ⟨O,O,trivial⟩) (by exact O) (by exact O) (by repeat' (first|refine bT ?_ ?_|rfl|exact bV|exact bU|exact bW O)),k+1,by omega,O,hpx,O⟩
  · rw [if_neg he] at hpx
    rw [fin (encErr c) (by rw [hfx,hpx]) he]
    (refine aA<|aA<|rgN<|kmv O<|kfa O O ?_;refine kl1 O O O<|aQ O cC O dR ?_;refine klt O O (cP (by omega))<|aB<|aE O ?_;refine aH ?_;refine aA<|aG<|aA<|rgN<|kfa O O ?_;refine kl1 O O O<|kmv O<|aR O O cC (by omega) hio3 dR<|aW O hEX O hec dR<|kca O O (hEn)<|kmv O<|kex O O<|kex O O<|kas O<|kas O<|aB<|aA<|rgN<|kmv O ?_;refine kne O O (cT he)<|aB<|aE O ?_;refine aA<|rgN<|kmv O<|kas O<|aB<|aI ?_)
    exact ⟨[_],⟨O,trivial⟩,O⟩
def placeP (rs:List Rl) (id:Int):Nat:=rs.findIdx fun r=>r.nw==id
theorem placeP_ge {rs:List Rl} {id:Int} {i:Nat} (h:∀ (j:Nat) (r:Rl),j<i→rs[j]? = some r→(r.nw==id)=false) (hi:i≤rs.length):i≤placeP rs id:=by
  unfold placeP
  by_cases hl:rs.findIdx (fun r=>r.nw==id)<rs.length
  · by_cases hlt:rs.findIdx (fun r=>r.nw==id)<i
    · have h1:=h _ _ hlt (cX hl)
      rw [List.findIdx_getElem (xs:=rs) (p:=fun r=>r.nw==id) (w:=hl)] at h1
      cases h1
    · omega
  · omega
theorem placeP_at {rs:List Rl} {id:Int} {i:Nat} {r:Rl} (h:∀ (j:Nat) (r:Rl),j<i→rs[j]? = some r→(r.nw==id)=false) (hr:rs[i]? = some r) (he:(r.nw==id)=true):placeP rs id=i:=by
  obtain ⟨hi,e⟩:=List.getElem?_eq_some_iff.1 hr
  have h1:=placeP_ge h (by omega)
  have h2:placeP rs id≤i:=by
    unfold placeP
    by_cases hlt:i<rs.findIdx (fun r=>r.nw==id)
    · have h3:(rs[i].nw==id)=false:=List.not_of_lt_findIdx hlt
      rw [e,he] at h3
      cases h3
    · omega
  omega
def placeI (rs:List Rl) (id:Int):Int:=if placeP rs id<rs.length then (placeP rs id:Nat) else -1
set_option maxHeartbeats 3200000 in
theorem rFind12 (p:Pg) (id:Int) (ad:Option Addr) (cap:Nat) (hin:RulesIn X ad p.rs) (hbig:p.rs.length<4611686018427387904):PSpec Tryz.prog X 17 [LPg p.va p.vb ad p.rs.length cap,Ln .i64 id] (Ln .i64 (placeI p.rs id)):=by
  obtain ⟨va,vb,rs⟩:=p
  simp only at hin hbig ⊢
  refine cF Tryz.func17 rfl (by kernel_rfl) rfl rfl ?_
  intro C
  (refine aA<|rgN<|aL O O O dR<|kas O<|aB<|aA<|aA<|rgN<|kas O<|aB<|aG ?_)
  refine cL (fun m σ=>∃ i:Nat,i≤rs.length∧m=rs.length-i∧(∀ (j:Nat) (r:Rl),j<i→rs[j]? = some r→(r.nw==id)=false)∧σ=⟨[(1,Ln .i64 id),(2,Lp 2),(5,Ln .i64 (i:Nat))],[v3B 29 2 va vb ad rs.length cap],X⟩) rs.length
    ⟨_,Le.of (by exact ⟨rfl,rfl,rfl,trivial⟩) (by exact ⟨rfl,trivial⟩) (by exact rfl) (by exact rfl) (by repeat' (first|refine bT ?_ ?_|rfl|exact bV|exact bU|exact bW rfl)),0,by omega,by omega,fun j r hj=>absurd hj (by omega),rfl⟩ ?_
  rintro m σ ⟨i,hi,rfl,hpre,rfl⟩
  by_cases hlt:i<rs.length
  case neg =>
    have h1:=placeP_ge hpre hi
    have e:placeI rs id = -1:=if_neg (by omega)
    rw [e]
    (refine aA<|aA<|rgN<|kmv O<|kfa O O ?_;refine kl1 O O O<|aQ O cC O dR ?_;refine klt O O (cO (by omega))<|aB<|aF O ?_;refine aJ<|aA<|rgN<|kas O<|aB<|aI ?_)
    exact ⟨[_],⟨O,trivial⟩,O⟩
  obtain ⟨r,hr⟩:∃ r,rs[i]? = some r:=⟨_,cX hlt⟩
  obtain ⟨blk,off,arr,el,fr,ead,ecap,rfl,hX,hsiz,hcs,g1,g2,g3,hE⟩:=hin.get hr
  have hio:off+Int.toNat (i:Int)*3=off+i*3:=by simp
  by_cases he:(r.nw==id)=true
  · have h1:=placeP_at hpre hr he
    have e:placeI rs id=(i:Nat):=by unfold placeI;rw [h1,if_pos hlt]
    rw [e]
    (refine aA<|aA<|rgN<|kmv O<|kfa O O ?_;refine kl1 O O O<|aQ O cC O dR ?_;refine klt O O (cP (by omega))<|aB<|aE O ?_;refine aH ?_;refine aA<|aG<|aA<|rgN<|kfa O O ?_;refine kl1 O O O<|kmv O<|aR O O cC (by omega) hio dR<|bH O O dR ?_;refine aW O hX O g1 dR<|kmv O<|keq O O he<|aB<|aE O ?_;refine aA<|rgN<|kmv O<|kas O<|aB<|aI ?_)
    exact ⟨[_],⟨O,trivial⟩,O⟩
  · have he2:(r.nw==id)=false:=by simpa using he
    have hadd:IntKind.i64.wrap ((i:Int)+1)=((i+1:Nat):Int):=by rw [cH (by omega)];omega
    have hnx:∀ (j:Nat) (r:Rl),j<i+1→rs[j]? = some r→(r.nw==id)=false:=fun j q hj hq=>by
      by_cases hji:j=i
      · subst hji
        rw [hr] at hq
        cases hq
        exact he2
      · exact hpre j q (by omega) hq
    (refine aA<|aA<|rgN<|kmv O<|kfa O O ?_;refine kl1 O O O<|aQ O cC O dR ?_;refine klt O O (cP (by omega))<|aB<|aE O ?_;refine aH ?_;refine aA<|aG<|aA<|rgN<|kfa O O ?_;refine kl1 O O O<|kmv O<|aR O O cC (by omega) hio dR<|bH O O dR ?_;refine aW O hX O g1 dR<|kmv O<|keq O O he2<|aB<|aF O ?_;refine aH ?_;refine rgN<|kmv O<|kad O O hadd<|kas O<|aB ?_)
    exact ⟨_,⟨[(1,Ln .i64 id),(2,Lp 2),(5,Ln .i64 (i+1:Nat))],[v3B 29 2 va vb (some ⟨blk,off,none⟩) rs.length cap],X⟩,by omega,Le.of (by exact ⟨O,O,O,trivial⟩) (by exact ⟨O,trivial⟩) (by exact O) (by exact O) (by repeat' (first|refine bT ?_ ?_|rfl|exact bV|exact bU|exact bW O)),i+1,by omega,O,hnx,O⟩
end Go.Proofs.YtamplgnbbanamaaGreatDoor
end
section
namespace Go.Proofs.YtamplgnbbanamaaGreatDoor
open Go Go.Lg Go.Lg.Fml Go.Lg.Fld Go.Lg.Arith Go.Lg.Sg
set_option maxRecDepth 100000
variable (X:Nat→Option Obj)
theorem truth_in2 (b:Bool):In2 (truth b).2:=by
  unfold truth In2
  cases b<;>decide
end Go.Proofs.YtamplgnbbanamaaGreatDoor
end
