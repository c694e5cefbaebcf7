/- A piece of a proof over this program: contracts of its functions, and a logic to prove them by. -/
import Derived.Test.YtfmohdliifmmfaaF2
namespace Go.Lg.Fld
open Go Go.Lg
/-- how many words there are -/
def kM (k : Int) : Nat := 256 ^ kW k
/-- the word of a number; the number of a word -/
def wdK (k x : Int) : Nat := (x % (kM k : Int)).toNat
def nbK (k : Int) (v : Nat) : Int := if kA k < v then (v : Int) - (kM k : Int) else v
theorem kM_facts {k : Int} (h : kK k = true) : kB k + kA k < (kM k : Int) ∧ (kM k : Int) ≤ 18446744073709551616 ∧ 0 < kM k := by
  rcases kin h with rfl | rfl | rfl | rfl | rfl | rfl | rfl | rfl | rfl | rfl <;> decide
theorem wd_lt {k : Int} (h : kK k = true) (x : Int) : wdK k x < 256 ^ kW k := by
  have := kM_facts h
  have h1 := Int.emod_nonneg x (show (kM k : Int) ≠ 0 by omega)
  have h2 := Int.emod_lt_of_pos x (show 0 < (kM k : Int) by omega)
  show wdK k x < kM k
  unfold wdK
  omega
theorem wd_of {k x : Int} (h : kK k = true) (hx : fitZ k x = true) : (wdK k x : Int) = if x < 0 then x + kM k else x := by
  obtain ⟨h1, h2, h3⟩ := kM_facts h
  obtain ⟨f1, f2, f3, f4, _⟩ := kfacts k
  obtain ⟨x1, x2⟩ := (fitZ_iff k x).1 hx
  unfold wdK
  by_cases c : x < 0
  · rw [if_pos c]
    have e : x % (kM k : Int) = x + kM k := by
      rw [← Int.add_emod_right]
      exact Int.emod_eq_of_lt (by omega) (by omega)
    rw [e]; omega
  · rw [if_neg c, Int.emod_eq_of_lt (by omega) (by omega)]; omega
theorem nb_wd {k x : Int} (h : kK k = true) (hx : fitZ k x = true) : nbK k (wdK k x) = x := by
  obtain ⟨h1, h2, h3⟩ := kM_facts h
  obtain ⟨f1, f2, f3, f4, _⟩ := kfacts k
  obtain ⟨x1, x2⟩ := (fitZ_iff k x).1 hx
  have e := wd_of h hx
  unfold nbK
  by_cases c : x < 0
  · rw [if_pos c] at e
    rw [if_pos (by omega)]; omega
  · rw [if_neg c] at e
    rw [if_neg (by omega)]; omega
end Go.Lg.Fld
namespace Go.Proofs.Ytfmohdliifmmfaa
open Go Go.Lg Go.Lg.Fld
set_option maxRecDepth 100000
variable (X : Nat → Option Obj)
theorem fit_R {k x : Int} (h : fitZ k x = true) : R127 x := by
  have := kfacts k
  rw [fitZ_iff] at h
  unfold R127; omega
theorem nb_R {k : Int} {v : Nat} (h : kK k = true) (hv : v < 256 ^ kW k) : R127 (nbK k v) := by
  have := kM_facts h
  have hv : v < kM k := hv
  unfold R127 nbK
  split <;> omega
theorem opposite_1 (k : Int) (hk : kW k = 1) (v : Int) (hv : 0 ≤ v ∧ v < 18446744073709551616) : PSpec Try.prog X 58 [Ln .i64 k, Ln .u64 v] (Ln .u64 ((-v) % ((256 ^ 1 : Nat) : Int))) := by
  have hS := fSize_spec X k
  rw [hk] at hS
  have p1 : ((2 : Int) ^ (min (Int.toNat 56) IntKind.u64.bits)) = 72057594037927936 := by decide
  have p2 : ((256 ^ 1 : Nat) : Int) = 256 := by decide
  rw [p2]
  have n1 : IntKind.u64.wrap (0 - v) = (0 - v) % 18446744073709551616 := by rw [IntKind.wrap_u64]
  have s1 : IntKind.u64.wrap ((0 - v) % 18446744073709551616 * (2 : Int) ^ (min (Int.toNat 56) IntKind.u64.bits)) = (0 - v) % 18446744073709551616 * 72057594037927936 % 18446744073709551616 := by rw [p1, IntKind.wrap_u64]
  have s2 : ((0 - v) % 18446744073709551616 * 72057594037927936 % 18446744073709551616).fdiv ((2 : Int) ^ (min (Int.toNat 56) IntKind.u64.bits)) = (-v) % 256 := by
    rw [p1, Int.fdiv_eq_ediv_of_nonneg _ (by decide)]
    omega
  refine PSpec.intro Try.func58 rfl (by kernel_rfl) rfl rfl ?_
  intro C
  (refine LWP.seq <| LWP.region (by kernel_rfl) <| kas rfl <| RunK.nil <| LWP.seq <| LWP.region (by kernel_rfl) <| kmv rfl <| kca rfl rfl (hS) <| K.mul rfl rfl (c := 8) rfl .plain <| K.sub rfl rfl (c := 56) rfl .plain <| kas rfl <| RunK.nil <| LWP.seq <| LWP.region (by kernel_rfl) ?_; refine kmv rfl <| K.neg rfl n1 .plain <| kmv rfl <| K.shl rfl rfl (by decide) s1 .plain <| kmv rfl <| K.shr rfl rfl (by decide) s2 .plain <| kas rfl <| RunK.nil <| LWP.ret ?_)
  exact ⟨[_], ⟨rfl, trivial⟩, rfl⟩
theorem opposite_2 (k : Int) (hk : kW k = 2) (v : Int) (hv : 0 ≤ v ∧ v < 18446744073709551616) : PSpec Try.prog X 58 [Ln .i64 k, Ln .u64 v] (Ln .u64 ((-v) % ((256 ^ 2 : Nat) : Int))) := by
  have hS := fSize_spec X k
  rw [hk] at hS
  have p1 : ((2 : Int) ^ (min (Int.toNat 48) IntKind.u64.bits)) = 281474976710656 := by decide
  have p2 : ((256 ^ 2 : Nat) : Int) = 65536 := by decide
  rw [p2]
  have n1 : IntKind.u64.wrap (0 - v) = (0 - v) % 18446744073709551616 := by rw [IntKind.wrap_u64]
  have s1 : IntKind.u64.wrap ((0 - v) % 18446744073709551616 * (2 : Int) ^ (min (Int.toNat 48) IntKind.u64.bits)) = (0 - v) % 18446744073709551616 * 281474976710656 % 18446744073709551616 := by rw [p1, IntKind.wrap_u64]
  have s2 : ((0 - v) % 18446744073709551616 * 281474976710656 % 18446744073709551616).fdiv ((2 : Int) ^ (min (Int.toNat 48) IntKind.u64.bits)) = (-v) % 65536 := by
    rw [p1, Int.fdiv_eq_ediv_of_nonneg _ (by decide)]
    omega
  refine PSpec.intro Try.func58 rfl (by kernel_rfl) rfl rfl ?_
  intro C
  (refine LWP.seq <| LWP.region (by kernel_rfl) <| kas rfl <| RunK.nil <| LWP.seq <| LWP.region (by kernel_rfl) <| kmv rfl <| kca rfl rfl (hS) <| K.mul rfl rfl (c := 16) rfl .plain <| K.sub rfl rfl (c := 48) rfl .plain <| kas rfl <| RunK.nil <| LWP.seq <| LWP.region (by kernel_rfl) ?_; refine kmv rfl <| K.neg rfl n1 .plain <| kmv rfl <| K.shl rfl rfl (by decide) s1 .plain <| kmv rfl <| K.shr rfl rfl (by decide) s2 .plain <| kas rfl <| RunK.nil <| LWP.ret ?_)
  exact ⟨[_], ⟨rfl, trivial⟩, rfl⟩
theorem opposite_4 (k : Int) (hk : kW k = 4) (v : Int) (hv : 0 ≤ v ∧ v < 18446744073709551616) : PSpec Try.prog X 58 [Ln .i64 k, Ln .u64 v] (Ln .u64 ((-v) % ((256 ^ 4 : Nat) : Int))) := by
  have hS := fSize_spec X k
  rw [hk] at hS
  have p1 : ((2 : Int) ^ (min (Int.toNat 32) IntKind.u64.bits)) = 4294967296 := by decide
  have p2 : ((256 ^ 4 : Nat) : Int) = 4294967296 := by decide
  rw [p2]
  have n1 : IntKind.u64.wrap (0 - v) = (0 - v) % 18446744073709551616 := by rw [IntKind.wrap_u64]
  have s1 : IntKind.u64.wrap ((0 - v) % 18446744073709551616 * (2 : Int) ^ (min (Int.toNat 32) IntKind.u64.bits)) = (0 - v) % 18446744073709551616 * 4294967296 % 18446744073709551616 := by rw [p1, IntKind.wrap_u64]
  have s2 : ((0 - v) % 18446744073709551616 * 4294967296 % 18446744073709551616).fdiv ((2 : Int) ^ (min (Int.toNat 32) IntKind.u64.bits)) = (-v) % 4294967296 := by
    rw [p1, Int.fdiv_eq_ediv_of_nonneg _ (by decide)]
    omega
  refine PSpec.intro Try.func58 rfl (by kernel_rfl) rfl rfl ?_
  intro C
  (refine LWP.seq <| LWP.region (by kernel_rfl) <| kas rfl <| RunK.nil <| LWP.seq <| LWP.region (by kernel_rfl) <| kmv rfl <| kca rfl rfl (hS) <| K.mul rfl rfl (c := 32) rfl .plain <| K.sub rfl rfl (c := 32) rfl .plain <| kas rfl <| RunK.nil <| LWP.seq <| LWP.region (by kernel_rfl) ?_; refine kmv rfl <| K.neg rfl n1 .plain <| kmv rfl <| K.shl rfl rfl (by decide) s1 .plain <| kmv rfl <| K.shr rfl rfl (by decide) s2 .plain <| kas rfl <| RunK.nil <| LWP.ret ?_)
  exact ⟨[_], ⟨rfl, trivial⟩, rfl⟩
theorem opposite_8 (k : Int) (hk : kW k = 8) (v : Int) (hv : 0 ≤ v ∧ v < 18446744073709551616) : PSpec Try.prog X 58 [Ln .i64 k, Ln .u64 v] (Ln .u64 ((-v) % ((256 ^ 8 : Nat) : Int))) := by
  have hS := fSize_spec X k
  rw [hk] at hS
  have p1 : ((2 : Int) ^ (min (Int.toNat 0) IntKind.u64.bits)) = 1 := by decide
  have p2 : ((256 ^ 8 : Nat) : Int) = 18446744073709551616 := by decide
  rw [p2]
  have n1 : IntKind.u64.wrap (0 - v) = (0 - v) % 18446744073709551616 := by rw [IntKind.wrap_u64]
  have s1 : IntKind.u64.wrap ((0 - v) % 18446744073709551616 * (2 : Int) ^ (min (Int.toNat 0) IntKind.u64.bits)) = (0 - v) % 18446744073709551616 * 1 % 18446744073709551616 := by rw [p1, IntKind.wrap_u64]
  have s2 : ((0 - v) % 18446744073709551616 * 1 % 18446744073709551616).fdiv ((2 : Int) ^ (min (Int.toNat 0) IntKind.u64.bits)) = (-v) % 18446744073709551616 := by
    rw [p1, Int.fdiv_eq_ediv_of_nonneg _ (by decide)]
    omega
  refine PSpec.intro Try.func58 rfl (by kernel_rfl) rfl rfl ?_
  intro C
  (refine LWP.seq <| LWP.region (by kernel_rfl) <| kas rfl <| RunK.nil <| LWP.seq <| LWP.region (by kernel_rfl) <| kmv rfl <| kca rfl rfl (hS) <| K.mul rfl rfl (c := 64) rfl .plain <| K.sub rfl rfl (c := 0) rfl .plain <| kas rfl <| RunK.nil <| LWP.seq <| LWP.region (by kernel_rfl) ?_; refine kmv rfl <| K.neg rfl n1 .plain <| kmv rfl <| K.shl rfl rfl (by decide) s1 .plain <| kmv rfl <| K.shr rfl rfl (by decide) s2 .plain <| kas rfl <| RunK.nil <| LWP.ret ?_)
  exact ⟨[_], ⟨rfl, trivial⟩, rfl⟩
theorem opposite_spec (k : Int) (hk : kK k = true) (v : Int) (hv : 0 ≤ v ∧ v < 18446744073709551616) (r : Int) (hr : (-v) % (kM k : Int) = r) : PSpec Try.prog X 58 [Ln .i64 k, Ln .u64 v] (Ln .u64 r) := by
  subst hr
  unfold kM
  rcases kW_in hk with e | e | e | e
  · rw [e]; exact opposite_1 X k e v hv
  · rw [e]; exact opposite_2 X k e v hv
  · rw [e]; exact opposite_4 X k e v hv
  · rw [e]; exact opposite_8 X k e v hv
theorem wordOf_spec (k x : Int) (hk : kK k = true) (hx : fitZ k x = true) : PSpec Try.prog X 37 [Ln .i64 k, LQ x] (Ln .u64 (wdK k x : Nat)) := by
  obtain ⟨h1, h2, h3⟩ := kM_facts hk
  obtain ⟨f1, f2, f3, f4, _⟩ := kfacts k
  obtain ⟨x1, x2⟩ := (fitZ_iff k x).1 hx
  have e := wd_of hk hx
  refine PSpec.intro Try.func37 rfl (by kernel_rfl) rfl rfl ?_
  intro C
  by_cases c : x < 0
  · have hm : mg x % 18446744073709551616 = -x := by rw [mg_neg c]; omega
    have hO := opposite_spec X k hk (-x) (by omega) (wdK k x : Nat) (by
      rw [if_pos c] at e
      rw [e, Int.neg_neg, ← Int.add_emod_right]
      exact Int.emod_eq_of_lt (by omega) (by omega))
    unfold LQ LI
    rw [hm, decide_eq_true c]
    (refine LWP.seq <| LWP.region (by kernel_rfl) <| K.box rfl rfl rfl .plain <| kas rfl <| RunK.nil <| LWP.seq <| LWP.seq <| LWP.region (by kernel_rfl) <| kfa rfl rfl ?_; refine kl1 rfl rfl rfl <| RunK.nil <| LWP.condT rfl ?_; refine LWP.seq <| LWP.region (by kernel_rfl) <| kmv rfl <| kfa rfl rfl ?_; refine kl1 rfl rfl rfl <| kca rfl rfl (hO) <| kas rfl <| RunK.nil <| LWP.ret ?_)
    exact ⟨[_], ⟨rfl, trivial⟩, rfl⟩
  · have hm : mg x % 18446744073709551616 = x := by rw [mg_pos (by omega)]; omega
    rw [if_neg c] at e
    rw [e]
    unfold LQ LI
    rw [hm, decide_eq_false c]
    (refine LWP.seq <| LWP.region (by kernel_rfl) <| K.box rfl rfl rfl .plain <| kas rfl <| RunK.nil <| LWP.seq <| LWP.seq <| LWP.region (by kernel_rfl) <| kfa rfl rfl ?_; refine kl1 rfl rfl rfl <| RunK.nil <| LWP.condF rfl ?_; refine LWP.skip ?_; refine LWP.seq <| LWP.region (by kernel_rfl) <| kfa rfl rfl ?_; refine kl1 rfl rfl rfl <| kas rfl <| RunK.nil <| LWP.ret ?_)
    exact ⟨[_], ⟨rfl, trivial⟩, rfl⟩
theorem numberOf_spec (k : Int) (v : Nat) (hk : kK k = true) (hv : v < 256 ^ kW k) : PSpec Try.prog X 42 [Ln .i64 k, Ln .u64 (v : Nat)] (LQ (nbK k v)) := by
  obtain ⟨h1, h2, h3⟩ := kM_facts hk
  obtain ⟨f1, f2, f3, f4, _⟩ := kfacts k
  have hv' : v < kM k := hv
  refine PSpec.intro Try.func42 rfl (by kernel_rfl) rfl rfl ?_
  intro C
  by_cases c : kA k < v
  · have hO := opposite_spec X k hk v (by omega) ((kM k : Int) - v) (by
      rw [← Int.add_emod_right]
      rw [Int.emod_eq_of_lt (by omega) (by omega)]; omega)
    have hW := OfWord_q X ((kM k : Int) - v) (by omega)
    have hN := Neg_q X ((kM k : Int) - v) (by unfold R127; omega)
    have e : nbK k v = -((kM k : Int) - v) := by unfold nbK; rw [if_pos c]; omega
    rw [e]
    (refine LWP.seq <| LWP.region (by kernel_rfl) <| K.alloc rfl .plain ?_; refine RunK.nil <| LWP.seq <| LWP.seq <| LWP.region (by kernel_rfl) <| kmv rfl <| kmv rfl <| kca rfl rfl (shapeOf_spec X k) <| K.fieldOne rfl Try.underlying53 rfl (by kernel_rfl) rfl .plain <| K.gtr rfl rfl (decide_eq_true (by omega)) .plain <| RunK.nil <| LWP.condT rfl ?_; refine LWP.seq <| LWP.region (by kernel_rfl) <| kmv rfl <| kmv rfl <| kca rfl rfl (hO) <| kca rfl rfl (hW) <| kca rfl rfl (hN) <| K.storeAll rfl rfl rfl rfl rfl rfl .plain ?_; refine RunK.nil <| LWP.ret ?_)
    exact ⟨[_], ⟨⟨_, _, rfl, rfl, rfl, .inl ⟨AggT.h, rfl⟩⟩, trivial⟩, rfl⟩
  · have hW := OfWord_q X (v : Int) (by omega)
    have e : nbK k v = v := by unfold nbK; rw [if_neg c]
    rw [e]
    (refine LWP.seq <| LWP.region (by kernel_rfl) <| K.alloc rfl .plain ?_; refine RunK.nil <| LWP.seq <| LWP.seq <| LWP.region (by kernel_rfl) <| kmv rfl <| kmv rfl <| kca rfl rfl (shapeOf_spec X k) <| K.fieldOne rfl Try.underlying53 rfl (by kernel_rfl) rfl .plain <| K.gtr rfl rfl (decide_eq_false (by omega)) .plain <| RunK.nil <| LWP.condF rfl ?_; refine LWP.skip ?_; refine LWP.seq <| LWP.region (by kernel_rfl) <| kmv rfl <| kca rfl rfl (hW) <| K.storeAll rfl rfl rfl rfl rfl rfl .plain ?_; refine RunK.nil <| LWP.ret ?_)
    exact ⟨[_], ⟨⟨_, _, rfl, rfl, rfl, .inl ⟨AggT.h, rfl⟩⟩, trivial⟩, rfl⟩
theorem WNum_k (k : Int) (hk : kK k = true) (n : Nat) (h : n < 256 ^ kW k) : MSpec Try.prog X 36 [Lp 1000000, Ln .i64 (kW k : Nat), Ln .u64 (n : Nat)] (w0 1000000) (Lb true) (w1 1000000 1000001 1000002 (leB (kW k) n)) := by
  have hn : n < 18446744073709551616 := by
    have := (kM_facts hk).2.1
    have h : n < kM k := h
    omega
  rcases kW_in hk with e | e | e | e <;> rw [e] at h ⊢
  · exact WNum_0_1 X n hn h
  · exact WNum_0_2 X n hn h
  · exact WNum_0_4 X n hn h
  · exact WNum_0_8 X n hn h
theorem Put_arg (k : Int) (b : Bool) (N : Int) (hk : kK k = false) : PSpec Try.prog X 17 [Ln .i64 k, LI b N] (.tup [Ss [], Sn .i64 1]) := by
  refine PSpec.intro Try.func17 rfl (by kernel_rfl) rfl rfl ?_
  intro C
  (refine LWP.seq <| LWP.region (by kernel_rfl) <| K.box rfl rfl rfl .plain <| kas rfl <| kas rfl <| RunK.nil <| LWP.seq <| LWP.seq <| LWP.region (by kernel_rfl) <| kmv rfl <| kca rfl rfl (isKind_spec X k false hk) <| K.not rfl rfl .plain <| RunK.nil <| LWP.condT rfl ?_; refine LWP.seq <| LWP.region (by kernel_rfl) <| kas rfl <| kas rfl <| RunK.nil <| LWP.ret ?_)
  exact ⟨[_, _], ⟨rfl, rfl, trivial⟩, rfl⟩
theorem Put_range (k : Int) (b : Bool) (N : Int) (hk : kK k = true) (hN : In2 N) (hf : fitB k b N = false) : PSpec Try.prog X 17 [Ln .i64 k, LI b N] (.tup [Ss [], Sn .i64 3]) := by
  have hF := Fits_spec X k b N hN false hf
  refine PSpec.intro Try.func17 rfl (by kernel_rfl) rfl rfl ?_
  intro C
  (refine LWP.seq <| LWP.region (by kernel_rfl) <| K.box rfl rfl rfl .plain <| kas rfl <| kas rfl <| RunK.nil <| LWP.seq <| LWP.seq <| LWP.region (by kernel_rfl) <| kmv rfl <| kca rfl rfl (isKind_spec X k true hk) <| K.not rfl rfl .plain <| RunK.nil <| LWP.condF rfl ?_; refine LWP.skip ?_; refine LWP.seq <| LWP.seq <| LWP.region (by kernel_rfl) <| kmv rfl <| K.loadAll rfl rfl rfl .plain ?_; refine kca rfl rfl (hF) <| K.not rfl rfl .plain <| RunK.nil <| LWP.condT rfl ?_; refine LWP.seq <| LWP.region (by kernel_rfl) <| kas rfl <| kas rfl <| RunK.nil <| LWP.ret ?_)
  exact ⟨[_, _], ⟨rfl, rfl, trivial⟩, rfl⟩
theorem Put_q (k x : Int) (hk : kK k = true) (hx : fitZ k x = true) : PSpec Try.prog X 17 [Ln .i64 k, LQ x] (.tup [Ss (leB (kW k) (wdK k x)), Sn .i64 0]) := by
  have hF := Fits_q X k x hk (fit_R hx) true hx
  have hW := wordOf_spec X k x hk hx
  have hN := WNum_k X k hk (wdK k x) (wd_lt hk x)
  have hS := fSize_spec X k
  refine PSpec.intro Try.func17 rfl (by kernel_rfl) rfl rfl ?_
  intro C
  (refine LWP.seq <| LWP.region (by kernel_rfl) <| K.box rfl rfl rfl .plain <| kas rfl <| kas rfl <| RunK.nil <| LWP.seq <| LWP.seq <| LWP.region (by kernel_rfl) <| kmv rfl <| kca rfl rfl (isKind_spec X k true hk) <| K.not rfl rfl .plain <| RunK.nil <| LWP.condF rfl ?_; refine LWP.skip ?_; refine LWP.seq <| LWP.seq <| LWP.region (by kernel_rfl) <| kmv rfl <| K.loadAll rfl rfl rfl .plain ?_; refine kca rfl rfl (hF) <| K.not rfl rfl .plain <| RunK.nil <| LWP.condF rfl ?_; refine LWP.skip ?_; refine LWP.seq <| LWP.region (by kernel_rfl) <| K.build rfl rfl (by exact rfl) (by exact nl2 rfl rfl rfl) .plain ?_; refine K.box rfl rfl rfl .plain <| kas rfl <| RunK.nil <| LWP.seq <| LWP.draws mixed (by kernel_rfl) <| kmv rfl <| kmv rfl <| kca rfl rfl (hS) <| kmv rfl <| K.loadAll rfl rfl rfl .plain ?_; refine kca rfl rfl (hW) <| K.callM [(1000000, 15), (1000001, 501), (1000002, 502)] (w1 15 501 502 (leB (kW k) (wdK k x))) (hN) rfl rfl (by exact (And.intro ⟨_, rfl, rfl⟩ trivial)) (by exact (all_cons_true (all_cons_true rfl (all_cons_true rfl rfl)) rfl)) rfl rfl rfl rfl (by exact (.box rfl rfl (.box rfl rfl (.box rfl (Box.ren_bytes _ _ _ _) .nil)))) .plain <| RunK.nil <| And.intro (by kernel_rfl) ?_; refine LWP.seq <| LWP.region (by kernel_rfl) <| kmv rfl <| K.callR [(1000000, 15), (1000001, 501), (1000002, 502)] (String_1 X (leB (kW k) (wdK k x))) rfl rfl (by exact (And.intro ⟨_, rfl, rfl⟩ (And.intro ⟨_, rfl, rfl⟩ (And.intro ⟨_, rfl, (Box.ren_bytes _ _ _ _)⟩ trivial)))) (by exact (all_cons_true (all_cons_true rfl (all_cons_true rfl rfl)) (all_cons_true (all_cons_true rfl rfl) (all_cons_true bytes_inUse rfl)))) rfl rfl rfl rfl .plain <| kas rfl <| kas rfl <| RunK.nil <| LWP.ret ?_)
  exact ⟨[_, _], ⟨rfl, rfl, trivial⟩, rfl⟩
end Go.Proofs.Ytfmohdliifmmfaa
