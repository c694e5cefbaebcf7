/- A piece of a proof over this program: contracts of its functions, and a logic to prove them by. -/
import Derived.Test.YtomdikppahgofaaC1
import Derived.Test.YtomdikppahgofaaSM2
namespace Go.Lg
open Go
theorem and_16 {m : Nat} (h : m < 4294967296) : bits .and .u32 ((m : Nat) : Int) 65535 = ((m % 65536 : Nat) : Int) := by
  rw [show (65535 : Int) = ((65535 : Nat) : Int) from rfl, u32_and_nat _ _ h (by decide)]
  rw [show m &&& 65535 = m % 65536 from Nat.and_two_pow_sub_one_eq_mod m 16]
theorem shr_16 (m : Nat) : ((m : Nat) : Int).fdiv (2 ^ (min (Int.toNat 16) IntKind.u32.bits)) = ((m / 65536 : Nat) : Int) := by
  rw [Int.fdiv_eq_ediv_of_nonneg _ (by decide)]
  show (m : Int) / 65536 = _
  omega
theorem shl_16 {m : Nat} (h : m < 65536) : IntKind.u32.wrap (((m : Nat) : Int) * 2 ^ (min (Int.toNat 16) IntKind.u32.bits)) = ((m * 65536 : Nat) : Int) := by
  show IntKind.u32.wrap ((m : Int) * 65536) = _
  rw [wrap_u32 (by omega)]
  omega
theorem or_16 {x y : Nat} (hx : x < 65536) (hy : y < 65536) : bits .or .u32 ((x * 65536 : Nat) : Int) ((y : Nat) : Int) = ((x * 65536 + y : Nat) : Int) := by
  rw [u32_or_nat _ _ (by omega) (by omega)]
  congr 1
  have := Nat.two_pow_add_eq_or_of_lt (i := 16) (b := y) hy x
  rw [Nat.mul_comm] at this
  exact this.symm
theorem mod_nat (m k : Nat) : ((m : Nat) : Int).tmod ((k : Nat) : Int) = ((m % k : Nat) : Int) := by
  rw [Int.tmod_eq_emod_of_nonneg (by omega), Int.natCast_emod]
end Go.Lg
namespace Go.Proofs.Ytomdikppahgofaa
open Go Go.Lg Go.Lg.Adl
set_option maxRecDepth 100000
abbrev Lh (a b : Nat) : LV := .sv (.agg [.val (.int .u64 a), .val (.int .u64 b)])
abbrev hv (k : Nat) (p : Nat × Nat) : List (Nat × Option Box) := [(k, some ⟨41, [.val (.int .u64 (p.1 : Nat)), .val (.int .u64 (p.2 : Nat))], false⟩)]
variable (X : Nat → Option Obj)
theorem split_spec (m : Nat) (h : m < 4294967296) : PSpec Try.prog X 16 [Ln .u32 (m : Nat)] (Lh (m % 65536) (m / 65536)) := by
  refine PSpec.intro Try.func16 rfl (by kernel_rfl) rfl rfl ?_
  intro C
  repeat (first | refine LWP.seq ?_ | refine LWP.ret ?_ | refine LWP.skip ?_ | refine LWP.block ?_ | refine LWP.exit ?_ | refine LWP.condT rfl ?_ | refine LWP.condF rfl ?_ | (refine LWP.region (id := 0) (by kernel_rfl) ?_; refine K.alloc rfl .plain ?_; refine RunK.nil ?_) | (refine LWP.region (id := 1) (by kernel_rfl) ?_; refine K.move rfl .plain ?_; refine K.bitop (by simp) rfl rfl (and_16 h) .plain ?_; refine K.conv rfl (by first | exact wrap_u64 (by omega) | rfl) .plain ?_; refine K.move rfl .plain ?_; refine K.shr rfl rfl (by decide) (shr_16 m) .plain ?_; refine K.conv rfl (by first | exact wrap_u64 (by omega) | rfl) .plain ?_; refine K.build rfl rfl (by exact rfl) (by first | exact nl1 rfl rfl | exact nl2 rfl rfl rfl | exact nl3 rfl rfl rfl rfl | exact nl4 rfl rfl rfl rfl rfl | exact nl0 rfl | exact nl5 rfl rfl rfl rfl rfl rfl | exact nl6 rfl rfl rfl rfl rfl rfl rfl | exact nl7 rfl rfl rfl rfl rfl rfl rfl rfl | exact nl8 rfl rfl rfl rfl rfl rfl rfl rfl rfl | exact rfl) .plain ?_; refine K.storeAll rfl rfl rfl rfl rfl rfl .plain ?_; refine RunK.nil ?_))
  exact ⟨[_], ⟨⟨_, _, rfl, rfl, rfl, .inl ⟨AggT.h, rfl⟩⟩, trivial⟩, rfl⟩
theorem hsum_spec (a b : Nat) (ha : a < 18446744073709551616) (hb : b < 18446744073709551616) : PSpec Try.prog X 17 [Lh a b] (Ln .u32 (mk (a, b) : Nat)) := by
  refine PSpec.intro Try.func17 rfl (by kernel_rfl) rfl rfl ?_
  intro C
  have h1 := Nat.mod_lt a (show 65521 > 0 by decide)
  have h2 := Nat.mod_lt b (show 65521 > 0 by decide)
  repeat (first | refine LWP.seq ?_ | refine LWP.ret ?_ | refine LWP.skip ?_ | refine LWP.block ?_ | refine LWP.exit ?_ | refine LWP.condT rfl ?_ | refine LWP.condF rfl ?_ | (refine LWP.region (id := 0) (by kernel_rfl) ?_; refine K.box rfl rfl rfl .plain ?_; refine K.assign rfl .plain ?_; refine RunK.nil ?_) | (refine LWP.region (id := 1) (by kernel_rfl) ?_; (first | refine K.fieldAddr rfl rfl .plain ?_ | refine K.fieldAddrX rfl rfl .plain ?_); refine K.loadOne rfl rfl rfl .plain ?_; refine K.rem rfl rfl (by decide) (mod_nat b 65521) .plain ?_; refine K.conv rfl (by first | exact wrap_u32 (by omega) | rfl) .plain ?_; refine K.shl rfl rfl (by decide) (shl_16 (by omega)) .plain ?_; (first | refine K.fieldAddr rfl rfl .plain ?_ | refine K.fieldAddrX rfl rfl .plain ?_); refine K.loadOne rfl rfl rfl .plain ?_; refine K.rem rfl rfl (by decide) (mod_nat a 65521) .plain ?_; refine K.conv rfl (by first | exact wrap_u32 (by omega) | rfl) .plain ?_; refine K.bitop (by simp) rfl rfl (or_16 (by omega) (by omega)) .plain ?_; refine K.assign rfl .plain ?_; refine RunK.nil ?_))
  exact ⟨[_], ⟨rfl, trivial⟩, rfl⟩
theorem minus_spec (x : Nat) (hx : x < 18446744073709551616) : PSpec Try.prog X 26 [Ln .u64 (x : Nat)] (Ln .u64 ((65521 - x % 65521 : Nat) : Int)) := by
  refine PSpec.intro Try.func26 rfl (by kernel_rfl) rfl rfl ?_
  intro C
  have h1 := Nat.mod_lt x (show 65521 > 0 by decide)
  have hs : IntKind.u64.wrap (65521 - ((x % 65521 : Nat) : Int)) = ((65521 - x % 65521 : Nat) : Int) := by rw [wrap_u64 (by omega)]; omega
  repeat (first | refine LWP.seq ?_ | refine LWP.ret ?_ | refine LWP.skip ?_ | refine LWP.block ?_ | refine LWP.exit ?_ | refine LWP.condT rfl ?_ | refine LWP.condF rfl ?_ | (refine LWP.region (id := 0) (by kernel_rfl) ?_; refine K.assign rfl .plain ?_; refine RunK.nil ?_) | (refine LWP.region (id := 1) (by kernel_rfl) ?_; refine K.move rfl .plain ?_; refine K.rem rfl rfl (by decide) (mod_nat x 65521) .plain ?_; refine K.sub rfl rfl hs .plain ?_; refine K.assign rfl .plain ?_; refine RunK.nil ?_))
  exact ⟨[_], ⟨rfl, trivial⟩, rfl⟩
theorem run_take {l : List UInt8} {i : Nat} {c : UInt8} (h : l[i]? = some c) (p : Nat × Nat) : run (l.take (i + 1)) p = Adl.step (run (l.take i) p) c := by
  rw [List.take_add_one, h, run_append]
  rfl
theorem run_lt16 (l : List UInt8) (p : Nat × Nat) (h1 : p.1 < 65536) (h2 : p.2 < 65536) : (run l p).1 < 65536 ∧ (run l p).2 < 65536 := by
  cases l with
  | nil => exact ⟨h1, h2⟩
  | cons c l =>
    have := run_lt l (Adl.step p c) (Nat.mod_lt _ (by decide)) (Nat.mod_lt _ (by decide))
    show (run l (Adl.step p c)).1 < 65536 ∧ (run l (Adl.step p c)).2 < 65536
    omega
theorem More_spec (m : Nat) (h : m < 4294967296) (l : List UInt8) (hl : l.length < 4611686018427387904) : PSpec Try.prog X 10 [Ln .u32 (m : Nat), Ls l] (Ln .u32 (mk (run l (m % 65536, m / 65536)) : Nat)) := by
  refine PSpec.intro Try.func10 rfl (by kernel_rfl) rfl rfl ?_
  intro C
  have hm1 := Nat.mod_lt m (show 65536 > 0 by decide)
  have hm2 : m / 65536 < 65536 := by omega
  have hA := split_spec X m h
  generalize m % 65536 = a0 at *
  generalize m / 65536 = b0 at *
  repeat (first | refine LWP.seq ?_ | refine LWP.ret ?_ | refine LWP.skip ?_ | refine LWP.block ?_ | refine LWP.exit ?_ | refine LWP.condT rfl ?_ | refine LWP.condF rfl ?_ | (refine LWP.region (id := 0) (by kernel_rfl) ?_; refine K.assign rfl .plain ?_; refine RunK.nil ?_) | (refine LWP.region (id := 1) (by kernel_rfl) ?_; refine K.move rfl .plain ?_; refine K.call rfl rfl (hA) .plain ?_; refine K.alloc rfl .plain ?_; refine K.storeAll rfl rfl rfl rfl rfl rfl .plain ?_; refine RunK.nil ?_) | (refine LWP.region (id := 2) (by kernel_rfl) ?_; refine K.move rfl .plain ?_; (first | refine K.lenStr rfl .plain ?_ | refine K.lenSlc rfl SliceT.h rfl .plain ?_ | refine K.lenX rfl SliceT.h rfl .plain ?_); refine K.move rfl .plain ?_; refine RunK.nil ?_))
  refine LWP.loop (fun n σ => ∃ i : Nat, i ≤ l.length ∧ n = l.length - i ∧ σ = ⟨[(1, Ls l), (5, Lp 5), (10, Ln .i64 (l.length : Nat)), (11, Ln .i64 (i : Nat))], hv 5 (run (l.take i) (a0, b0)), X⟩) l.length
    ⟨_, Le.of (by exact ⟨rfl, rfl, rfl, rfl, trivial⟩) (by exact ⟨rfl, trivial⟩) (by exact rfl) (by exact rfl) (by exact rfl), 0, Nat.zero_le _, rfl, rfl⟩ ?_
  rintro n σ ⟨i, hi, rfl, rfl⟩
  have hr := run_lt16 (l.take i) (a0, b0) hm1 hm2
  by_cases hlt : i < l.length
  · obtain ⟨c, hc⟩ : ∃ c, l[i]? = some c := ⟨_, List.getElem?_eq_getElem hlt⟩
    have hc' : (⟨l.toArray⟩ : ByteArray)[Int.toNat (i : Int)]? = some c := str_at hc
    have hnx := run_take hc (a0, b0)
    have hcb := c.toNat_lt
    generalize run (l.take i) (a0, b0) = p at *
    obtain ⟨a, b⟩ := p
    simp only at hr
    have e1 : (((a : Nat) : Int) + ((c.toNat : Nat) : Int)).tmod 65521 = (((a + c.toNat) % 65521 : Nat) : Int) := mod_nat (a + c.toNat) 65521
    have e2 : (((b : Nat) : Int) + (((a + c.toNat) % 65521 : Nat) : Int)).tmod 65521 = (((b + (a + c.toNat) % 65521) % 65521 : Nat) : Int) := mod_nat (b + (a + c.toNat) % 65521) 65521
    have hq := Nat.mod_lt (a + c.toNat) (show 65521 > 0 by decide)
    repeat (first | refine LWP.seq ?_ | refine LWP.ret ?_ | refine LWP.skip ?_ | refine LWP.block ?_ | refine LWP.exit ?_ | refine LWP.condT rfl ?_ | refine LWP.condF rfl ?_ | (refine LWP.region (id := 3) (by kernel_rfl) ?_; refine K.lss rfl rfl (by first | exact decide_eq_true (by omega) | exact decide_eq_false (by omega) | rfl) .plain ?_; refine RunK.nil ?_) | (refine LWP.region (id := 4) (by kernel_rfl) ?_; refine K.move rfl .plain ?_; refine K.assign rfl .plain ?_; refine RunK.nil ?_) | (refine LWP.draws (id := 5) mixed (by kernel_rfl) ?_; (first | refine K.fieldAddr rfl rfl .plain ?_ | refine K.fieldAddrX rfl rfl .plain ?_); refine K.loadOne rfl rfl rfl .plain ?_; refine K.move rfl .plain ?_; refine K.move rfl .plain ?_; refine K.indexStr rfl rfl (by omega) hc' .plain ?_; refine K.conv rfl (by first | exact wrap_u64 (by omega) | rfl) .plain ?_; refine K.add rfl rfl (by first | exact wrap_u64 (by omega) | rfl) .plain ?_; refine K.rem rfl rfl (by decide) e1 .plain ?_; (first | refine K.fieldAddr rfl rfl .plain ?_ | refine K.fieldAddrX rfl rfl .plain ?_); refine K.storeOne rfl rfl rfl rfl rfl (by first | exact nl1 rfl rfl | exact nl2 rfl rfl rfl | exact nl3 rfl rfl rfl rfl | exact nl4 rfl rfl rfl rfl rfl | exact nl0 rfl | exact nl5 rfl rfl rfl rfl rfl rfl | exact nl6 rfl rfl rfl rfl rfl rfl rfl | exact nl7 rfl rfl rfl rfl rfl rfl rfl rfl | exact nl8 rfl rfl rfl rfl rfl rfl rfl rfl rfl | exact rfl) .plain ?_; refine RunK.nil ?_; refine And.intro (by kernel_rfl) ?_) | (refine LWP.region (id := 6) (by kernel_rfl) ?_; (first | refine K.fieldAddr rfl rfl .plain ?_ | refine K.fieldAddrX rfl rfl .plain ?_); refine K.loadOne rfl rfl rfl .plain ?_; (first | refine K.fieldAddr rfl rfl .plain ?_ | refine K.fieldAddrX rfl rfl .plain ?_); refine K.loadOne rfl rfl rfl .plain ?_; refine K.add rfl rfl (by first | exact wrap_u64 (by omega) | rfl) .plain ?_; refine K.rem rfl rfl (by decide) e2 .plain ?_; (first | refine K.fieldAddr rfl rfl .plain ?_ | refine K.fieldAddrX rfl rfl .plain ?_); refine K.storeOne rfl rfl rfl rfl rfl (by first | exact nl1 rfl rfl | exact nl2 rfl rfl rfl | exact nl3 rfl rfl rfl rfl | exact nl4 rfl rfl rfl rfl rfl | exact nl0 rfl | exact nl5 rfl rfl rfl rfl rfl rfl | exact nl6 rfl rfl rfl rfl rfl rfl rfl | exact nl7 rfl rfl rfl rfl rfl rfl rfl rfl | exact nl8 rfl rfl rfl rfl rfl rfl rfl rfl rfl | exact rfl) .plain ?_; refine RunK.nil ?_) | (refine LWP.region (id := 7) (by kernel_rfl) ?_; refine K.add rfl rfl (by first | exact wrap_i64 (by omega) | rfl) .plain ?_; refine K.move rfl .plain ?_; refine RunK.nil ?_))
    exact ⟨_, ⟨[(1, Ls l), (5, Lp 5), (10, Ln .i64 (l.length : Nat)), (11, Ln .i64 ((i + 1 : Nat) : Int))], hv 5 (run (l.take (i + 1)) (a0, b0)), X⟩, by omega, (by rw [hnx]; exact Le.of (by exact ⟨rfl, rfl, rfl, rfl, trivial⟩) (by exact ⟨rfl, trivial⟩) (by exact rfl) (by exact rfl) (by exact rfl)), i + 1, by omega, rfl, rfl⟩
  · have e : i = l.length := by omega
    subst e
    rw [List.take_length] at *
    generalize run l (a0, b0) = p at *
    obtain ⟨a, b⟩ := p
    simp only at hr
    repeat (first | refine LWP.seq ?_ | refine LWP.ret ?_ | refine LWP.skip ?_ | refine LWP.block ?_ | refine LWP.exit ?_ | refine LWP.condT rfl ?_ | refine LWP.condF rfl ?_ | (refine LWP.region (id := 3) (by kernel_rfl) ?_; refine K.lss rfl rfl (by first | exact decide_eq_true (by omega) | exact decide_eq_false (by omega) | rfl) .plain ?_; refine RunK.nil ?_) | (refine LWP.region (id := 8) (by kernel_rfl) ?_; (first | refine K.loadAll rfl rfl rfl .plain ?_ | refine K.loadPart rfl rfl rfl (by first | exact nl1 rfl rfl | exact nl2 rfl rfl rfl | exact nl3 rfl rfl rfl rfl | exact nl4 rfl rfl rfl rfl rfl | exact nl0 rfl | exact nl5 rfl rfl rfl rfl rfl rfl | exact nl6 rfl rfl rfl rfl rfl rfl rfl | exact nl7 rfl rfl rfl rfl rfl rfl rfl rfl | exact nl8 rfl rfl rfl rfl rfl rfl rfl rfl rfl | exact rfl) .plain ?_ | refine K.loadXagg rfl rfl (by kernel_rfl) (by exact rfl) rfl .plain ?_); refine K.call rfl rfl (hsum_spec X a b (by omega) (by omega)) .plain ?_; refine K.assign rfl .plain ?_; refine RunK.nil ?_))
    exact ⟨[_], ⟨rfl, trivial⟩, rfl⟩
theorem Of_spec (l : List UInt8) (hl : l.length < 4611686018427387904) : PSpec Try.prog X 8 [Ls l] (Ln .u32 (sum l : Nat)) := by
  refine PSpec.intro Try.func8 rfl (by kernel_rfl) rfl rfl ?_
  intro C
  have h := More_spec X 1 (by decide) l hl
  rw [show run l (1 % 65536, 1 / 65536) = run l (1, 0) from rfl, sum_mk] at h
  repeat (first | refine LWP.seq ?_ | refine LWP.ret ?_ | refine LWP.skip ?_ | refine LWP.block ?_ | refine LWP.exit ?_ | refine LWP.condT rfl ?_ | refine LWP.condF rfl ?_ | (refine LWP.region (id := 0) (by kernel_rfl) ?_; refine K.assign rfl .plain ?_; refine RunK.nil ?_) | (refine LWP.region (id := 1) (by kernel_rfl) ?_; refine K.move rfl .plain ?_; refine K.call rfl rfl (h) .plain ?_; refine K.assign rfl .plain ?_; refine RunK.nil ?_))
  exact ⟨[_], ⟨rfl, trivial⟩, rfl⟩
theorem More_sum (x y : List UInt8) (hl : y.length < 4611686018427387904) : PSpec Try.prog X 10 [Ln .u32 (sum x : Nat), Ls y] (Ln .u32 (sum (x ++ y) : Nat)) := by
  have h := More_spec X (sum x) (sum_lt x) y hl
  rw [more_sum] at h
  exact h
theorem Join_spec (x y n : Nat) (hx : x < 4294967296) (hy : y < 4294967296) (hn : n ≤ 2147483648) : PSpec Try.prog X 15 [Ln .u32 (x : Nat), Ln .u32 (y : Nat), Ln .i64 (n : Nat)] (Ln .u32 (join x y n : Nat)) := by
  refine PSpec.intro Try.func15 rfl (by kernel_rfl) rfl rfl ?_
  intro C
  unfold join
  have hx1 := Nat.mod_lt x (show 65536 > 0 by decide)
  have hx2 : x / 65536 < 65536 := by omega
  have hy1 := Nat.mod_lt y (show 65536 > 0 by decide)
  have hy2 : y / 65536 < 65536 := by omega
  have hA := split_spec X x hx
  have hB := split_spec X y hy
  generalize x % 65536 = a at *
  generalize x / 65536 = b at *
  generalize y % 65536 = c at *
  generalize y / 65536 = d at *
  obtain ⟨z, ez⟩ : ∃ z, z = n * (a + 65520) := ⟨_, rfl⟩
  have hz : z ≤ 281440616972288 := by rw [ez]; exact Nat.mul_le_mul hn (show a + 65520 ≤ 131056 by omega)
  have em : IntKind.u64.wrap (((n : Nat) : Int) * (((a : Nat) : Int) + ((65520 : Nat) : Int))) = ((n * (a + 65520) : Nat) : Int) := by
    rw [show ((n : Nat) : Int) * (((a : Nat) : Int) + ((65520 : Nat) : Int)) = ((n * (a + 65520) : Nat) : Int) by rw [Int.natCast_mul, Int.natCast_add], ← ez]
    exact wrap_u64 (by omega)
  rw [← ez] at em ⊢
  have e1 : IntKind.u64.wrap (((a : Nat) : Int) + ((c : Nat) : Int) + ((65520 : Nat) : Int)) = ((a + c + 65520 : Nat) : Int) := wrap_u64 (by omega)
  have e2 : IntKind.u64.wrap (((b : Nat) : Int) + ((d : Nat) : Int) + ((z : Nat) : Int)) = ((b + d + z : Nat) : Int) := wrap_u64 (by omega)
  have hM : PSpec Try.prog X 26 [Ln .u64 1] (Ln .u64 ((65520 : Nat) : Int)) := by
    have h := minus_spec X 1 (by decide)
    rw [show 65521 - 1 % 65521 = 65520 by decide] at h
    exact h
  repeat (first | refine LWP.seq ?_ | refine LWP.ret ?_ | refine LWP.skip ?_ | refine LWP.block ?_ | refine LWP.exit ?_ | refine LWP.condT rfl ?_ | refine LWP.condF rfl ?_ | (refine LWP.region (id := 0) (by kernel_rfl) ?_; refine K.assign rfl .plain ?_; refine RunK.nil ?_) | (refine LWP.region (id := 1) (by kernel_rfl) ?_; refine K.move rfl .plain ?_; refine K.lss rfl rfl (by first | exact decide_eq_true (by omega) | exact decide_eq_false (by omega) | rfl) .plain ?_; refine K.move rfl .plain ?_; (first | refine RunK.passed rfl rfl rfl ?_ | refine RunK.passedU rfl rfl ?_ | refine K.move rfl (.taken rfl rfl) ?_); (first | refine RunK.passed rfl rfl rfl ?_ | refine RunK.passedU rfl rfl ?_ | refine K.gtr rfl rfl (by first | exact decide_eq_true (by omega) | exact decide_eq_false (by omega) | rfl) (.taken rfl rfl) ?_); (first | refine K.pickT rfl rfl .plain ?_ | refine K.pickF rfl rfl .plain ?_); refine RunK.nil ?_) | (refine LWP.region (id := 3) (by kernel_rfl) ?_; refine K.move rfl .plain ?_; refine K.call rfl rfl hA .plain ?_; refine K.move rfl .plain ?_; refine K.call rfl rfl hB .plain ?_; refine K.alloc rfl .plain ?_; refine K.alloc rfl .plain ?_; refine K.storeAll rfl rfl rfl rfl rfl rfl .plain ?_; refine K.storeAll rfl rfl rfl rfl rfl rfl .plain ?_; refine RunK.nil ?_) | (refine LWP.draws (id := 4) mixed (by kernel_rfl) ?_; (first | refine K.fieldAddr rfl rfl .plain ?_ | refine K.fieldAddrX rfl rfl .plain ?_); refine K.loadOne rfl rfl rfl .plain ?_; (first | refine K.fieldAddr rfl rfl .plain ?_ | refine K.fieldAddrX rfl rfl .plain ?_); refine K.loadOne rfl rfl rfl .plain ?_; refine K.add rfl rfl (by first | exact wrap_u64 (by omega) | rfl) .plain ?_; refine K.call rfl rfl (hM) .plain ?_; refine K.add rfl rfl e1 .plain ?_; (first | refine K.fieldAddr rfl rfl .plain ?_ | refine K.fieldAddrX rfl rfl .plain ?_); refine K.loadOne rfl rfl rfl .plain ?_; (first | refine K.fieldAddr rfl rfl .plain ?_ | refine K.fieldAddrX rfl rfl .plain ?_); refine K.loadOne rfl rfl rfl .plain ?_; refine K.add rfl rfl (by first | exact wrap_u64 (by omega) | rfl) .plain ?_; refine K.move rfl .plain ?_; refine K.conv rfl (by first | exact wrap_u64 (by omega) | rfl) .plain ?_; (first | refine K.fieldAddr rfl rfl .plain ?_ | refine K.fieldAddrX rfl rfl .plain ?_); refine K.loadOne rfl rfl rfl .plain ?_; refine K.call rfl rfl (hM) .plain ?_; refine K.add rfl rfl (by first | exact wrap_u64 (by omega) | rfl) .plain ?_; refine K.mul rfl rfl em .plain ?_; refine K.add rfl rfl e2 .plain ?_; refine K.build rfl rfl (by exact rfl) (by first | exact nl1 rfl rfl | exact nl2 rfl rfl rfl | exact nl3 rfl rfl rfl rfl | exact nl4 rfl rfl rfl rfl rfl | exact nl0 rfl | exact nl5 rfl rfl rfl rfl rfl rfl | exact nl6 rfl rfl rfl rfl rfl rfl rfl | exact nl7 rfl rfl rfl rfl rfl rfl rfl rfl | exact nl8 rfl rfl rfl rfl rfl rfl rfl rfl rfl | exact rfl) .plain ?_; refine K.call rfl rfl (hsum_spec X (a + c + 65520) (b + d + z) (by omega) (by omega)) .plain ?_; refine K.assign rfl .plain ?_; refine RunK.nil ?_; refine And.intro (by kernel_rfl) ?_))
  exact ⟨[_], ⟨rfl, trivial⟩, rfl⟩
theorem Join_no (x y : Int) (n : Int) (hn : n < 0 ∨ 2147483648 < n) : PSpec Try.prog X 15 [Ln .u32 x, Ln .u32 y, Ln .i64 n] (Ln .u32 0) := by
  refine PSpec.intro Try.func15 rfl (by kernel_rfl) rfl rfl ?_
  intro C
  by_cases h : n < 0
  · repeat (first | refine LWP.seq ?_ | refine LWP.ret ?_ | refine LWP.skip ?_ | refine LWP.block ?_ | refine LWP.exit ?_ | refine LWP.condT rfl ?_ | refine LWP.condF rfl ?_ | (refine LWP.region (id := 0) (by kernel_rfl) ?_; refine K.assign rfl .plain ?_; refine RunK.nil ?_) | (refine LWP.region (id := 1) (by kernel_rfl) ?_; refine K.move rfl .plain ?_; refine K.lss rfl rfl (by first | exact decide_eq_true (by omega) | exact decide_eq_false (by omega) | rfl) .plain ?_; refine K.move rfl .plain ?_; (first | refine RunK.passed rfl rfl rfl ?_ | refine RunK.passedU rfl rfl ?_ | refine K.move rfl (.taken rfl rfl) ?_); (first | refine RunK.passed rfl rfl rfl ?_ | refine RunK.passedU rfl rfl ?_ | refine K.gtr rfl rfl (by first | exact decide_eq_true (by omega) | exact decide_eq_false (by omega) | rfl) (.taken rfl rfl) ?_); (first | refine K.pickT rfl rfl .plain ?_ | refine K.pickF rfl rfl .plain ?_); refine RunK.nil ?_) | (refine LWP.region (id := 2) (by kernel_rfl) ?_; refine K.assign rfl .plain ?_; refine RunK.nil ?_))
    exact ⟨[_], ⟨rfl, trivial⟩, rfl⟩
  · have h2 : 2147483648 < n := by omega
    repeat (first | refine LWP.seq ?_ | refine LWP.ret ?_ | refine LWP.skip ?_ | refine LWP.block ?_ | refine LWP.exit ?_ | refine LWP.condT rfl ?_ | refine LWP.condF rfl ?_ | (refine LWP.region (id := 0) (by kernel_rfl) ?_; refine K.assign rfl .plain ?_; refine RunK.nil ?_) | (refine LWP.region (id := 1) (by kernel_rfl) ?_; refine K.move rfl .plain ?_; refine K.lss rfl rfl (by first | exact decide_eq_true (by omega) | exact decide_eq_false (by omega) | rfl) .plain ?_; refine K.move rfl .plain ?_; (first | refine RunK.passed rfl rfl rfl ?_ | refine RunK.passedU rfl rfl ?_ | refine K.move rfl (.taken rfl rfl) ?_); (first | refine RunK.passed rfl rfl rfl ?_ | refine RunK.passedU rfl rfl ?_ | refine K.gtr rfl rfl (by first | exact decide_eq_true (by omega) | exact decide_eq_false (by omega) | rfl) (.taken rfl rfl) ?_); (first | refine K.pickT rfl rfl .plain ?_ | refine K.pickF rfl rfl .plain ?_); refine RunK.nil ?_) | (refine LWP.region (id := 2) (by kernel_rfl) ?_; refine K.assign rfl .plain ?_; refine RunK.nil ?_))
    exact ⟨[_], ⟨rfl, trivial⟩, rfl⟩
theorem Join_sum (x y : List UInt8) (n : Nat) (hn : y.length = n) (hl : n ≤ 2147483648) : PSpec Try.prog X 15 [Ln .u32 (sum x : Nat), Ln .u32 (sum y : Nat), Ln .i64 (n : Nat)] (Ln .u32 (sum (x ++ y) : Nat)) := by
  have h := Join_spec X (sum x) (sum y) n (sum_lt x) (sum_lt y) hl
  subst hn
  rw [join_sum] at h
  exact h
theorem Roll_spec (s n o i : Nat) (hs : s < 4294967296) (h1 : 1 ≤ n) (hn : n ≤ 2147483648) (ho : o < 256) (hi : i < 256) : PSpec Try.prog X 14 [Ln .u32 (s : Nat), Ln .i64 (n : Nat), Ln .u8 (o : Nat), Ln .u8 (i : Nat)] (Ln .u32 (roll s n o i : Nat)) := by
  refine PSpec.intro Try.func14 rfl (by kernel_rfl) rfl rfl ?_
  intro C
  unfold roll
  have hx1 := Nat.mod_lt s (show 65536 > 0 by decide)
  have hx2 : s / 65536 < 65536 := by omega
  have hA := split_spec X s hs
  generalize s % 65536 = a at *
  generalize s / 65536 = b at *
  have hz : n * o ≤ 2147483648 * 256 := Nat.mul_le_mul hn (by omega)
  have em : IntKind.u64.wrap (((n : Nat) : Int) * ((o : Nat) : Int)) = ((n * o : Nat) : Int) := by
    rw [show ((n : Nat) : Int) * ((o : Nat) : Int) = ((n * o : Nat) : Int) by rw [Int.natCast_mul]]
    exact wrap_u64 (by omega)
  generalize n * o = z at *
  have e0 : IntKind.u64.wrap (((z : Nat) : Int) + 1) = ((z + 1 : Nat) : Int) := wrap_u64 (by omega)
  have m1 := minus_spec X o (by omega)
  have m2 := minus_spec X (z + 1) (by omega)
  have r1 := Nat.sub_le 65521 (o % 65521)
  have r2 := Nat.sub_le 65521 ((z + 1) % 65521)
  generalize 65521 - o % 65521 = u at *
  generalize 65521 - (z + 1) % 65521 = v at *
  have e1 : IntKind.u64.wrap (((a : Nat) : Int) + ((u : Nat) : Int)) = ((a + u : Nat) : Int) := wrap_u64 (by omega)
  have e2 : IntKind.u64.wrap (((b : Nat) : Int) + ((v : Nat) : Int)) = ((b + v : Nat) : Int) := wrap_u64 (by omega)
  have e3 : IntKind.u64.wrap (((a + u : Nat) : Int) + ((i : Nat) : Int)) = ((a + u + i : Nat) : Int) := wrap_u64 (by omega)
  have e4 : IntKind.u64.wrap (((b + v : Nat) : Int) + ((a + u + i : Nat) : Int)) = ((b + v + (a + u + i) : Nat) : Int) := wrap_u64 (by omega)
  repeat (first | refine LWP.seq ?_ | refine LWP.ret ?_ | refine LWP.skip ?_ | refine LWP.block ?_ | refine LWP.exit ?_ | refine LWP.condT rfl ?_ | refine LWP.condF rfl ?_ | (refine LWP.region (id := 0) (by kernel_rfl) ?_; refine K.assign rfl .plain ?_; refine RunK.nil ?_) | (refine LWP.region (id := 1) (by kernel_rfl) ?_; refine K.move rfl .plain ?_; refine K.lss rfl rfl (by first | exact decide_eq_true (by omega) | exact decide_eq_false (by omega) | rfl) .plain ?_; refine K.move rfl .plain ?_; (first | refine RunK.passed rfl rfl rfl ?_ | refine RunK.passedU rfl rfl ?_ | refine K.move rfl (.taken rfl rfl) ?_); (first | refine RunK.passed rfl rfl rfl ?_ | refine RunK.passedU rfl rfl ?_ | refine K.gtr rfl rfl (by first | exact decide_eq_true (by omega) | exact decide_eq_false (by omega) | rfl) (.taken rfl rfl) ?_); (first | refine K.pickT rfl rfl .plain ?_ | refine K.pickF rfl rfl .plain ?_); refine RunK.nil ?_) | (refine LWP.region (id := 3) (by kernel_rfl) ?_; refine K.move rfl .plain ?_; refine K.call rfl rfl (hA) .plain ?_; refine K.alloc rfl .plain ?_; refine K.storeAll rfl rfl rfl rfl rfl rfl .plain ?_; refine RunK.nil ?_) | (refine LWP.draws (id := 4) mixed (by kernel_rfl) ?_; (first | refine K.fieldAddr rfl rfl .plain ?_ | refine K.fieldAddrX rfl rfl .plain ?_); refine K.loadOne rfl rfl rfl .plain ?_; refine K.move rfl .plain ?_; refine K.conv rfl (by first | exact wrap_u64 (by omega) | rfl) .plain ?_; refine K.call rfl rfl m1 .plain ?_; refine K.add rfl rfl e1 .plain ?_; (first | refine K.fieldAddr rfl rfl .plain ?_ | refine K.fieldAddrX rfl rfl .plain ?_); refine K.storeOne rfl rfl rfl rfl rfl (by first | exact nl1 rfl rfl | exact nl2 rfl rfl rfl | exact nl3 rfl rfl rfl rfl | exact nl4 rfl rfl rfl rfl rfl | exact nl0 rfl | exact nl5 rfl rfl rfl rfl rfl rfl | exact nl6 rfl rfl rfl rfl rfl rfl rfl | exact nl7 rfl rfl rfl rfl rfl rfl rfl rfl | exact nl8 rfl rfl rfl rfl rfl rfl rfl rfl rfl | exact rfl) .plain ?_; refine RunK.nil ?_; refine And.intro (by kernel_rfl) ?_) | (refine LWP.draws (id := 5) mixed (by kernel_rfl) ?_; (first | refine K.fieldAddr rfl rfl .plain ?_ | refine K.fieldAddrX rfl rfl .plain ?_); refine K.loadOne rfl rfl rfl .plain ?_; refine K.move rfl .plain ?_; refine K.conv rfl (by first | exact wrap_u64 (by omega) | rfl) .plain ?_; refine K.move rfl .plain ?_; refine K.conv rfl (by first | exact wrap_u64 (by omega) | rfl) .plain ?_; refine K.mul rfl rfl em .plain ?_; refine K.add rfl rfl e0 .plain ?_; refine K.call rfl rfl m2 .plain ?_; refine K.add rfl rfl e2 .plain ?_; (first | refine K.fieldAddr rfl rfl .plain ?_ | refine K.fieldAddrX rfl rfl .plain ?_); refine K.storeOne rfl rfl rfl rfl rfl (by first | exact nl1 rfl rfl | exact nl2 rfl rfl rfl | exact nl3 rfl rfl rfl rfl | exact nl4 rfl rfl rfl rfl rfl | exact nl0 rfl | exact nl5 rfl rfl rfl rfl rfl rfl | exact nl6 rfl rfl rfl rfl rfl rfl rfl | exact nl7 rfl rfl rfl rfl rfl rfl rfl rfl | exact nl8 rfl rfl rfl rfl rfl rfl rfl rfl rfl | exact rfl) .plain ?_; refine RunK.nil ?_; refine And.intro (by kernel_rfl) ?_) | (refine LWP.region (id := 6) (by kernel_rfl) ?_; (first | refine K.fieldAddr rfl rfl .plain ?_ | refine K.fieldAddrX rfl rfl .plain ?_); refine K.loadOne rfl rfl rfl .plain ?_; refine K.move rfl .plain ?_; refine K.conv rfl (by first | exact wrap_u64 (by omega) | rfl) .plain ?_; refine K.add rfl rfl e3 .plain ?_; (first | refine K.fieldAddr rfl rfl .plain ?_ | refine K.fieldAddrX rfl rfl .plain ?_); refine K.storeOne rfl rfl rfl rfl rfl (by first | exact nl1 rfl rfl | exact nl2 rfl rfl rfl | exact nl3 rfl rfl rfl rfl | exact nl4 rfl rfl rfl rfl rfl | exact nl0 rfl | exact nl5 rfl rfl rfl rfl rfl rfl | exact nl6 rfl rfl rfl rfl rfl rfl rfl | exact nl7 rfl rfl rfl rfl rfl rfl rfl rfl | exact nl8 rfl rfl rfl rfl rfl rfl rfl rfl rfl | exact rfl) .plain ?_; refine RunK.nil ?_) | (refine LWP.region (id := 7) (by kernel_rfl) ?_; (first | refine K.fieldAddr rfl rfl .plain ?_ | refine K.fieldAddrX rfl rfl .plain ?_); refine K.loadOne rfl rfl rfl .plain ?_; (first | refine K.fieldAddr rfl rfl .plain ?_ | refine K.fieldAddrX rfl rfl .plain ?_); refine K.loadOne rfl rfl rfl .plain ?_; refine K.add rfl rfl e4 .plain ?_; (first | refine K.fieldAddr rfl rfl .plain ?_ | refine K.fieldAddrX rfl rfl .plain ?_); refine K.storeOne rfl rfl rfl rfl rfl (by first | exact nl1 rfl rfl | exact nl2 rfl rfl rfl | exact nl3 rfl rfl rfl rfl | exact nl4 rfl rfl rfl rfl rfl | exact nl0 rfl | exact nl5 rfl rfl rfl rfl rfl rfl | exact nl6 rfl rfl rfl rfl rfl rfl rfl | exact nl7 rfl rfl rfl rfl rfl rfl rfl rfl | exact nl8 rfl rfl rfl rfl rfl rfl rfl rfl rfl | exact rfl) .plain ?_; refine RunK.nil ?_) | (refine LWP.region (id := 8) (by kernel_rfl) ?_; (first | refine K.loadAll rfl rfl rfl .plain ?_ | refine K.loadPart rfl rfl rfl (by first | exact nl1 rfl rfl | exact nl2 rfl rfl rfl | exact nl3 rfl rfl rfl rfl | exact nl4 rfl rfl rfl rfl rfl | exact nl0 rfl | exact nl5 rfl rfl rfl rfl rfl rfl | exact nl6 rfl rfl rfl rfl rfl rfl rfl | exact nl7 rfl rfl rfl rfl rfl rfl rfl rfl | exact nl8 rfl rfl rfl rfl rfl rfl rfl rfl rfl | exact rfl) .plain ?_ | refine K.loadXagg rfl rfl (by kernel_rfl) (by exact rfl) rfl .plain ?_); refine K.call rfl rfl (hsum_spec X (a + u + i) (b + v + (a + u + i)) (by omega) (by omega)) .plain ?_; refine K.assign rfl .plain ?_; refine RunK.nil ?_))
  exact ⟨[_], ⟨rfl, trivial⟩, rfl⟩
theorem Roll_no (s n o i : Int) (hn : n < 1 ∨ 2147483648 < n) : PSpec Try.prog X 14 [Ln .u32 s, Ln .i64 n, Ln .u8 o, Ln .u8 i] (Ln .u32 0) := by
  refine PSpec.intro Try.func14 rfl (by kernel_rfl) rfl rfl ?_
  intro C
  by_cases h : n < 1
  · repeat (first | refine LWP.seq ?_ | refine LWP.ret ?_ | refine LWP.skip ?_ | refine LWP.block ?_ | refine LWP.exit ?_ | refine LWP.condT rfl ?_ | refine LWP.condF rfl ?_ | (refine LWP.region (id := 0) (by kernel_rfl) ?_; refine K.assign rfl .plain ?_; refine RunK.nil ?_) | (refine LWP.region (id := 1) (by kernel_rfl) ?_; refine K.move rfl .plain ?_; refine K.lss rfl rfl (by first | exact decide_eq_true (by omega) | exact decide_eq_false (by omega) | rfl) .plain ?_; refine K.move rfl .plain ?_; (first | refine RunK.passed rfl rfl rfl ?_ | refine RunK.passedU rfl rfl ?_ | refine K.move rfl (.taken rfl rfl) ?_); (first | refine RunK.passed rfl rfl rfl ?_ | refine RunK.passedU rfl rfl ?_ | refine K.gtr rfl rfl (by first | exact decide_eq_true (by omega) | exact decide_eq_false (by omega) | rfl) (.taken rfl rfl) ?_); (first | refine K.pickT rfl rfl .plain ?_ | refine K.pickF rfl rfl .plain ?_); refine RunK.nil ?_) | (refine LWP.region (id := 2) (by kernel_rfl) ?_; refine K.assign rfl .plain ?_; refine RunK.nil ?_))
    exact ⟨[_], ⟨rfl, trivial⟩, rfl⟩
  · have h2 : 2147483648 < n := by omega
    repeat (first | refine LWP.seq ?_ | refine LWP.ret ?_ | refine LWP.skip ?_ | refine LWP.block ?_ | refine LWP.exit ?_ | refine LWP.condT rfl ?_ | refine LWP.condF rfl ?_ | (refine LWP.region (id := 0) (by kernel_rfl) ?_; refine K.assign rfl .plain ?_; refine RunK.nil ?_) | (refine LWP.region (id := 1) (by kernel_rfl) ?_; refine K.move rfl .plain ?_; refine K.lss rfl rfl (by first | exact decide_eq_true (by omega) | exact decide_eq_false (by omega) | rfl) .plain ?_; refine K.move rfl .plain ?_; (first | refine RunK.passed rfl rfl rfl ?_ | refine RunK.passedU rfl rfl ?_ | refine K.move rfl (.taken rfl rfl) ?_); (first | refine RunK.passed rfl rfl rfl ?_ | refine RunK.passedU rfl rfl ?_ | refine K.gtr rfl rfl (by first | exact decide_eq_true (by omega) | exact decide_eq_false (by omega) | rfl) (.taken rfl rfl) ?_); (first | refine K.pickT rfl rfl .plain ?_ | refine K.pickF rfl rfl .plain ?_); refine RunK.nil ?_) | (refine LWP.region (id := 2) (by kernel_rfl) ?_; refine K.assign rfl .plain ?_; refine RunK.nil ?_))
    exact ⟨[_], ⟨rfl, trivial⟩, rfl⟩
theorem Roll_sum (x i : UInt8) (t : List UInt8) (n : Nat) (hn : t.length + 1 = n) (hl : n ≤ 2147483648) : PSpec Try.prog X 14 [Ln .u32 (sum (x :: t) : Nat), Ln .i64 (n : Nat), Ln .u8 (x.toNat : Nat), Ln .u8 (i.toNat : Nat)] (Ln .u32 (sum (t ++ [i]) : Nat)) := by
  have h := Roll_spec X (sum (x :: t)) n x.toNat i.toNat (sum_lt _) (by omega) hl x.toNat_lt i.toNat_lt
  subst hn
  rw [roll_sum] at h
  exact h
end Go.Proofs.Ytomdikppahgofaa
